/- The contracts of Nearest, At and of what they call. -/
import Derived.Test.YtgbkjioajmnjbaaGreatSground
namespace Go.Proofs.YtgbkjioajmnjbaaGreat
open Go Go.RowKit Go.IntWalk

/-- The value of a ground. -/
abbrev gv (soils : List So) (AS : Option Addr) (cS : Nat) (bos : List Bo) (AB : Option Addr) (cB : Nat) : Value := .agg #[.slice AS soils.length cS, .slice AB bos.length cB]
theorem plB_of {soils : List So} {bos : List Bo} (v : VGd soils bos) {k : Nat} (hk : k < bos.length) : good ⟨(el bos k).x, (el bos k).y⟩ = true := (v.b k hk).pl
set_option maxHeartbeats 4000000 in
theorem square2_c (soils : List So) (bos : List Bo) (x y : Int) (k : Nat) (w : World) (AS AB : Option Addr) (cS cB : Nat) (g : GrW w soils AS bos AB) (v : VGd soils bos) (hp : plB x y = true) (hk : k < bos.length) :
    Calls Tryz.prog 78 #[.agg #[.slice AS soils.length cS, .slice AB bos.length cB], .int .i64 (k : Int), .agg #[.int .i64 x, .int .i64 y]] w fun e w' => e = .returned (.int .i64 (dst bos x y k)) ∧ Ext w w' := by
  obtain ⟨b, off, rfl, hb0, hcell⟩ := g.bo.bo hk
  have c1 := hcell _ (Ext.rfl' w)
  have hg := plB_of v hk
  have hlen : bos.length ≤ 1000 := g.lb
  unfold dst
  clear hcell g v
  generalize el bos k = u at *
  have HQ := Lib.hid (fun w' => gsquare_c u.x u.y x y w')
  rw [show allGood [⟨u.x, u.y⟩, ⟨x, y⟩] = true by simp [allGood, hg]; exact hp, if_pos rfl, dotW_good hg (show good ⟨x, y⟩ = true from hp) (show good ⟨x, y⟩ = true from hp)] at HQ
  generalize dotZ ⟨u.x, u.y⟩ ⟨x, y⟩ ⟨x, y⟩ = d at *
  clear hg hp
  go_enter Tryz.func78, Tryz.ntmps78
  go_wp2_with (first | (go_at_call 90; with_reducible refine Calls.mono (HQ.out _) ?_; rintro e w1 ⟨rfl, hb⟩; have hc := hb.ccell; have hf := hb.frz; have hs := hb.sz; (try simp at hs); (try have hs0 := hs w.heap.size (by omega)); (try have hs1 := hs (w.heap.size + 1) (by omega)); (try have hs2 := hs (w.heap.size + 1 + 1) (by omega)); (try have hs3 := hs (w.heap.size + 1 + 1 + 1) (by omega))))
  go_ret
  exact ⟨rfl, by (repeat (first | with_reducible exact Ext.rfl' _ | with_reducible assumption | with_reducible refine Ext.al ?_ _ | with_reducible refine Ext.dr ?_ | with_reducible refine Ext.st ?_ (by simp) _ | with_reducible refine Ext.tr ?_ (by assumption)))⟩
set_option maxHeartbeats 4000000 in
theorem nearest_c (soils : List So) (bos : List Bo) (x y : Int) (w : World) (AS AB : Option Addr) (cS cB : Nat) (g : GrW w soils AS bos AB) (v : VGd soils bos) (hp : plB x y = true) :
    Calls Tryz.prog 55 #[.agg #[.slice AS soils.length cS, .slice AB bos.length cB], .agg #[.int .i64 x, .int .i64 y]] w fun e w' => e = .returned (.int .i64 (nearB bos x y : Nat)) ∧ Ext w w' := by
  have HSQ := Lib.hid (fun k w' (hw : Ext w w') hk => square2_c soils bos x y k w' AS AB cS cB (g.ext hw) v hp hk)
  have hlen : bos.length ≤ 1000 := g.lb
  have hpos : 0 < bos.length := v.pos
  unfold nearB
  generalize dst bos x y = d at *
  obtain ⟨N, hN⟩ : ∃ N, nearN d bos.length = N := ⟨_, rfl⟩
  rw [hN]
  have HN := Lib.hid hN
  clear hN g v
  go_enter Tryz.func55, Tryz.ntmps55
  go_upto_region 2 with fail
  refine wp_name (fun W hW => ?_)
  have hEW : Ext w W := by rw [hW]; (repeat (first | with_reducible exact Ext.rfl' _ | with_reducible assumption | with_reducible refine Ext.al ?_ _ | with_reducible refine Ext.dr ?_ | with_reducible refine Ext.st ?_ (by simp) _ | with_reducible refine Ext.tr ?_ (by assumption)))
  have r0 : W.cell? ⟨w.heap.size, 0, none⟩ = some (.slice AS soils.length cS) := by rw [hW]; simp [go_sem]
  have r1 : W.cell? ⟨w.heap.size, 1, none⟩ = some (.slice AB bos.length cB) := by rw [hW]; simp [go_sem]
  have s0 : W.cell? ⟨w.heap.size + 1, 0, none⟩ = some (.int .i64 x) := by rw [hW]; simp [go_sem]
  have s1 : W.cell? ⟨w.heap.size + 1, 1, none⟩ = some (.int .i64 y) := by rw [hW]; simp [go_sem]
  have hz1 : w.heap.size + 1 < W.heap.size := by rw [hW]; simp
  have hz0 : w.heap.size < W.heap.size := by omega
  clear hW
  go_wp2
  go_loopw [5, 10] (fun o i wr => Ext W wr ∧ ∃ k m : Nat, k ≤ bos.length ∧ i = .int .i64 k ∧ o = .int .i64 m ∧ m < bos.length ∧ Hid (m = nearN d k)) (fun _ i _ => bos.length - (intOf i).toNat)
  case atStart => exact ⟨Ext.rfl' _, 0, 0, Nat.zero_le _, rfl, rfl, hpos, rfl⟩
  case round =>
    obtain ⟨hE, k, m, hk, rfl, rfl, hm, hM⟩ := hrel
    have hEr := hEW.tr hE
    have q0 := (hE.ccell _ 0 hz0).trans r0
    have q1 := (hE.ccell _ 1 hz0).trans r1
    have p0 := (hE.ccell _ 0 hz1).trans s0
    have p1 := (hE.ccell _ 1 hz1).trans s1
    have z1 := hE.sz _ hz1
    have z0 := hE.sz _ hz0
    clear r0 r1 s0 s1
    by_cases hlt : k < bos.length
    · have HK := Lib.hid (fun w' (hw : Ext wr w') => HSQ.out k w' (hEr.tr hw) hlt)
      have HM := Lib.hid (fun w' (hw : Ext wr w') => HSQ.out m w' (hEr.tr hw) hm)
      have HX : Hid (nearN d (k + 1) = if d k < d m then k else m) := Lib.hid (by rw [nearN, ← hM.out])
      by_cases hd : d k < d m
      all_goals
        first | rw [if_pos hd] at HX | rw [if_neg hd] at HX
        generalize d k = dk at *
        generalize d m = dm at *
        go_upto_region 5 with fail
        refine region_grow (by kernel_rfl) (by kernel_rfl) ?_
        repeat (first | go_big_quiet_step (first | (go_at_call 78; with_reducible exact callsGrow (HK.out _ (Grow.ok _))) | (go_at_call 78; with_reducible exact callsGrow (HM.out _ (Grow.ok _))) | fail) | quiet_step (first | (go_at_call 78; with_reducible exact callsGrow (HK.out _ (Grow.ok _))) | (go_at_call 78; with_reducible exact callsGrow (HM.out _ (Grow.ok _))) | fail))
        refine wpQuiet_nil ?_
        intro w1 hb
        have hc := hb.ccell
        have hf := hb.frz
        have hs := hb.sz
        (try simp at hs); (try have hs0 := hs w.heap.size (by omega)); (try have hs1 := hs (w.heap.size + 1) (by omega)); (try have hs2 := hs (w.heap.size + 1 + 1) (by omega)); (try have hs3 := hs (w.heap.size + 1 + 1 + 1) (by omega))
        (try simp only [IntWalk.i64_left])
        have hE1 : Ext wr w1 := by assumption
        go_wp2
        first
          | exact ⟨⟨hE.tr hE1, k + 1, k, by omega, by go_num, rfl, hlt, HX.out.symm⟩, by simp [intOf]; omega⟩
          | exact ⟨⟨hE.tr hE1, k + 1, m, by omega, by go_num, rfl, hm, HX.out.symm⟩, by simp [intOf]; omega⟩
    · have hks : k = bos.length := by omega
      have HT : Hid (m = N) := Lib.hid (by rw [← HN.out, ← hks]; exact hM.out)
      go_wp2
      go_ret
      exact ⟨ret_int (by rw [HT.out]), hEr⟩
set_option maxHeartbeats 4000000 in
theorem layersAt_c (soils : List So) (bos : List Bo) (x y : Int) (w : World) (AS AB : Option Addr) (cS cB : Nat) (g : GrW w soils AS bos AB) (v : VGd soils bos) (hp : plB x y = true) :
    Calls Tryz.prog 38 #[.agg #[.slice AS soils.length cS, .slice AB bos.length cB], .agg #[.int .i64 x, .int .i64 y]] w
      fun e w' => e = .returned (.slice (el bos (nearB bos x y)).A (el bos (nearB bos x y)).l.length (el bos (nearB bos x y)).c) ∧ Ext w w' := by
  have HNE := Lib.hid (fun w' (hw : Ext w w') => nearest_c soils bos x y w' AS AB cS cB (g.ext hw) v hp)
  have hn := nearB_lt v x y
  have hlen : bos.length ≤ 1000 := g.lb
  generalize nearB bos x y = n at *
  obtain ⟨b, off, rfl, hb0, hcell⟩ := g.bo.bo hn
  clear g v
  generalize el bos n = u at *
  go_enter Tryz.func38, Tryz.ntmps38
  go_upto_region 1 with fail
  refine wp_name (fun W hW => ?_)
  have hEW : Ext w W := by rw [hW]; (repeat (first | with_reducible exact Ext.rfl' _ | with_reducible assumption | with_reducible refine Ext.al ?_ _ | with_reducible refine Ext.dr ?_ | with_reducible refine Ext.st ?_ (by simp) _ | with_reducible refine Ext.tr ?_ (by assumption)))
  have r0 : W.cell? ⟨w.heap.size, 0, none⟩ = some (.slice AS soils.length cS) := by rw [hW]; simp [go_sem]
  have r1 : W.cell? ⟨w.heap.size, 1, none⟩ = some (.slice (some ⟨b, off, none⟩) bos.length cB) := by rw [hW]; simp [go_sem]
  have s0 : W.cell? ⟨w.heap.size + 1, 0, none⟩ = some (.int .i64 x) := by rw [hW]; simp [go_sem]
  have s1 : W.cell? ⟨w.heap.size + 1, 1, none⟩ = some (.int .i64 y) := by rw [hW]; simp [go_sem]
  have hz1 : w.heap.size + 1 < W.heap.size := by rw [hW]; simp
  have hz0 : w.heap.size < W.heap.size := by omega
  have hbW := hEW.sz _ hb0
  have c1 := hcell _ hEW
  clear hW hcell hb0
  refine region_grow (by kernel_rfl) (by kernel_rfl) ?_
  repeat (first | go_big_quiet_step (first | (go_at_call 55; with_reducible exact callsGrow (HNE.out _ (hEW.tr (Grow.ok _)))) | fail) | quiet_step (first | (go_at_call 55; with_reducible exact callsGrow (HNE.out _ (hEW.tr (Grow.ok _)))) | fail))
  refine wpQuiet_nil ?_
  intro w1 hb
  have hc := hb.ccell
  have hf := hb.frz
  have hs := hb.sz
  (try simp at hs); (try have hs0 := hs w.heap.size (by omega)); (try have hs1 := hs (w.heap.size + 1) (by omega)); (try have hs2 := hs (w.heap.size + 1 + 1) (by omega)); (try have hs3 := hs (w.heap.size + 1 + 1 + 1) (by omega))
  (try simp only [IntWalk.i64_left])
  have hE1 : Ext W w1 := by assumption
  go_wp2
  go_ret
  exact ⟨rfl, hEW.tr hE1⟩
set_option maxHeartbeats 4000000 in
theorem soilAt_c (l : List La) (z : Int) (w : World) (A : Option Addr) (c : Nat) (hl : l.length ≤ 1000) (hp : 0 < l.length) (hA : Row 2 encLa w A l) :
    Calls Tryz.prog 37 #[.slice A l.length c, .int .i64 z] w fun e w' => e = .returned (.string (el l (layN l z l.length)).s) ∧ Ext w w' := by
  obtain ⟨b, off, rfl, hb0, hcell0⟩ := hA.la hp
  have c0 := hcell0 _ (Ext.rfl' w)
  simp only [Nat.zero_mul, Nat.add_zero] at c0
  have HEL : Hid (layN l z 0 = 0) := rfl
  obtain ⟨N, hN⟩ : ∃ N, layN l z l.length = N := ⟨_, rfl⟩
  rw [hN]
  have HN := Lib.hid hN
  clear hN hcell0
  go_enter Tryz.func37, Tryz.ntmps37
  go_upto_region 2 with fail
  refine wp_name (fun W hW => ?_)
  have hEW : Ext w W := by rw [hW]; (repeat (first | with_reducible exact Ext.rfl' _ | with_reducible assumption | with_reducible refine Ext.al ?_ _ | with_reducible refine Ext.dr ?_ | with_reducible refine Ext.st ?_ (by simp) _ | with_reducible refine Ext.tr ?_ (by assumption)))
  have r0 : W.cell? ⟨w.heap.size, 0, none⟩ = some (.int .i64 (el l 0).t) := by rw [hW]; simp [go_sem]
  have r1 : W.cell? ⟨w.heap.size, 1, none⟩ = some (.string (el l 0).s) := by rw [hW]; simp [go_sem]
  have hz0 : w.heap.size < W.heap.size := by rw [hW]; simp
  have hfr0 : ∀ o, W.frozen? ⟨w.heap.size, o, none⟩ = false := by intro o; rw [hW]; simp [go_sem]
  clear hW c0
  go_wp2
  go_loopw [13] (fun i wr => Ext w wr ∧ w.heap.size < wr.heap.size ∧ ∃ k m : Nat, k ≤ l.length ∧ i = .int .i64 k ∧ wr.cell? ⟨w.heap.size, 0, none⟩ = some (.int .i64 (el l m).t) ∧ wr.cell? ⟨w.heap.size, 1, none⟩ = some (.string (el l m).s) ∧ Hid (m = layN l z k) ∧ ∀ o, wr.frozen? ⟨w.heap.size, o, none⟩ = false) (fun i _ => l.length - (intOf i).toNat)
  case atStart => exact ⟨hEW, hz0, 0, 0, Nat.zero_le _, rfl, r0, r1, rfl, hfr0⟩
  case round =>
    obtain ⟨hE, hz, k, m, hk, rfl, q0, q1, hM, hfr⟩ := hrel
    clear r0 r1
    by_cases hlt : k < l.length
    · obtain ⟨b', off', hAe, _, hcell⟩ := hA.la hlt
      injection hAe with hAe
      injection hAe with ha1 ha2
      subst ha1 ha2
      obtain ⟨e0, e1⟩ := hcell _ hE
      have hzb := hE.sz _ hb0
      have HX : Hid (layN l z (k + 1) = if z ≤ (el l k).t then k else m) := Lib.hid (by rw [layN, ← hM.out])
      obtain ⟨u, hu⟩ : ∃ u, el l k = u := ⟨_, rfl⟩
      obtain ⟨o, ho⟩ : ∃ o, el l m = o := ⟨_, rfl⟩
      rw [hu] at e0 e1 HX
      rw [ho] at q0 q1
      have HU := Lib.hid (And.intro hu ho)
      clear hcell hu ho
      by_cases hd : z ≤ u.t
      · rw [if_pos hd] at HX
        go_wp2
        refine ⟨⟨?_, ?_, k + 1, k, by omega, by go_num, ?_, ?_, HX.out.symm, ?_⟩, by simp [intOf]; omega⟩
        · exact Ext.al (Ext.st (Ext.st hE (Nat.le_refl _) _) (Nat.le_refl _) _) _
        · simp; omega
        · rw [HU.out.1]; simp [*, go_sem]
        · rw [HU.out.1]; simp [*, go_sem]
        · intro o; simp [*, go_sem]
      · rw [if_neg hd] at HX
        go_wp2
        refine ⟨⟨by (repeat (first | with_reducible exact Ext.rfl' _ | with_reducible assumption | with_reducible refine Ext.al ?_ _ | with_reducible refine Ext.dr ?_ | with_reducible refine Ext.st ?_ (by simp) _ | with_reducible refine Ext.tr ?_ (by assumption))), ?_, k + 1, m, by omega, by go_num, ?_, ?_, HX.out.symm, ?_⟩, by simp [intOf]; omega⟩
        · simp; omega
        · rw [HU.out.2]; simp [*, go_sem]
        · rw [HU.out.2]; simp [*, go_sem]
        · intro o; simp [*, go_sem]
    · have hks : k = l.length := by omega
      have HT : Hid (m = N) := Lib.hid (by rw [← HN.out, ← hks]; exact hM.out)
      go_wp2
      go_ret
      exact ⟨by rw [HT.out]; rfl, hE⟩
end Go.Proofs.YtgbkjioajmnjbaaGreat
