/- The contracts of the reference's Nearest and At. -/
import Derived.Test.YtdbabihjnhnnfaaGreatSplace
namespace Go.Proofs.YtdbabihjnhnnfaaGreat
open Go Go.RowKit Go.IntWalk

theorem dotZ_comm (a b : Pt) : dotZ a b b = dotZ b a a := by
  unfold dotZ
  rw [show b.x - a.x = -(a.x - b.x) by omega, show b.y - a.y = -(a.y - b.y) by omega, Int.neg_mul_neg, Int.neg_mul_neg]
set_option maxHeartbeats 8000000 in
theorem rnearest_c (soils : List So) (bos : List Bo) (x y : Int) (w : World) (AS AB : Option Addr) (cS cB : Nat) (g : GrW w soils AS bos AB) (v : VGd soils bos) (hp : plB x y = true) :
    Calls Tryz.prog 75 #[.agg #[.slice AS soils.length cS, .slice AB bos.length cB], .agg #[.int .i64 x, .int .i64 y]] w fun e w' => e = .returned (.int .i64 (nearB bos x y : Nat)) ∧ Ext w w' := by
  have HSQ := Lib.hid (fun k (hk : k < bos.length) w' => by
    have h := rsquare_c x y (el bos k).x (el bos k).y w'
    rw [dotW_good (show good ⟨x, y⟩ = true from hp) (plB_of v hk) (plB_of v hk), dotZ_comm] at h
    exact h)
  have HD : Hid (∀ k, dst bos x y k = dotZ ⟨(el bos k).x, (el bos k).y⟩ ⟨x, y⟩ ⟨x, y⟩) := Lib.hid (fun _ => rfl)
  have hlen : bos.length ≤ 1000 := g.lb
  have hpos : 0 < bos.length := v.pos
  have hbo := Lib.hid g.bo
  unfold nearB
  generalize dst bos x y = d at *
  obtain ⟨N, hN⟩ : ∃ N, nearN d bos.length = N := ⟨_, rfl⟩
  rw [hN]
  have HN := Lib.hid hN
  clear hN g v
  go_enter Tryz.func75, Tryz.ntmps75
  go_upto_region 3 with fail
  refine wp_name (fun W hW => ?_)
  have hEW : Ext w W := by rw [hW]; (repeat (first | with_reducible exact Ext.rfl' _ | with_reducible assumption | with_reducible refine Ext.al ?_ _ | with_reducible refine Ext.dr ?_ | with_reducible refine Ext.st ?_ (by simp) _ | with_reducible refine Ext.tr ?_ (by assumption)))
  have r0 : W.cell? ⟨w.heap.size, 0, none⟩ = some (.slice AS soils.length cS) := by rw [hW]; simp [go_sem]
  have r1 : W.cell? ⟨w.heap.size, 1, none⟩ = some (.slice AB bos.length cB) := by rw [hW]; simp [go_sem]
  have s0 : W.cell? ⟨w.heap.size + 1, 0, none⟩ = some (.int .i64 x) := by rw [hW]; simp [go_sem]
  have s1 : W.cell? ⟨w.heap.size + 1, 1, none⟩ = some (.int .i64 y) := by rw [hW]; simp [go_sem]
  have hz1 : w.heap.size + 1 < W.heap.size := by rw [hW]; simp
  have hz0 : w.heap.size < W.heap.size := by omega
  clear hW
  go_wp2
  go_loopw [5, 6, 7] (fun o le i wr => Ext W wr ∧ ∃ k m : Nat, k ≤ bos.length ∧ i = .int .i64 k ∧ o = .int .i64 m ∧ m < bos.length ∧ Hid (m = nearN d k) ∧ ∃ L, le = .int .i64 L ∧ Hid (0 < k → L = d m)) (fun _ _ i _ => bos.length - (intOf i).toNat)
  case atStart => exact ⟨Ext.rfl' _, 0, 0, Nat.zero_le _, rfl, rfl, hpos, rfl, 0, rfl, Lib.hid (fun h => absurd h (Nat.lt_irrefl _))⟩
  case round =>
    obtain ⟨hE, k, m, hk, rfl, rfl, hm, hM, L, rfl, hL⟩ := hrel
    have hEr := hEW.tr hE
    have q0 := (hE.ccell _ 0 hz0).trans r0
    have q1 := (hE.ccell _ 1 hz0).trans r1
    have p0 := (hE.ccell _ 0 hz1).trans s0
    have p1 := (hE.ccell _ 1 hz1).trans s1
    have z1 := hE.sz _ hz1
    have z0 := hE.sz _ hz0
    clear r0 r1 s0 s1
    by_cases hlt : k < bos.length
    · obtain ⟨b, off, rfl, hb0, hcell⟩ := hbo.out.bo hlt
      obtain ⟨_, e1, e2, _⟩ := hcell _ hEr
      have hz := hEr.sz _ hb0
      have HK := Lib.hid (fun w' => by have h := HSQ.out k hlt w'; rw [← HD.out k] at h; exact h)
      have HX : Hid (nearN d (k + 1) = if d k < d m then k else m) := Lib.hid (by rw [nearN, ← hM.out])
      have HDK := Lib.hid (show d k = d k from rfl)
      obtain ⟨dk, hdk⟩ : ∃ dk, d k = dk := ⟨_, rfl⟩
      rw [hdk] at HK HX
      have HDK := Lib.hid hdk
      clear hdk hcell
      generalize el bos k = u at *
      by_cases hk0 : k = 0
      · subst hk0
        have hm0 : Hid (m = 0) := Lib.hid (by rw [hM.out]; rfl)
        simp only [Nat.zero_mul, Nat.add_zero] at e1 e2
        have HX2 : Hid (nearN d (0 + 1) = 0) := Lib.hid (by rw [HX.out, hm0.out]; simp)
        go_upto_region 5 with fail
        refine region_grow (by kernel_rfl) (by kernel_rfl) ?_
        repeat (first | go_big_quiet_step (first | (go_at_call 91; with_reducible exact callsGrow (HK.out _)) | fail) | quiet_step (first | (go_at_call 91; with_reducible exact callsGrow (HK.out _)) | fail))
        refine wpQuiet_nil ?_
        intro w1 hb
        have hc := hb.ccell
        have hf := hb.frz
        have hs := hb.sz
        (try simp at hs); (try have hs0 := hs w.heap.size (by omega)); (try have hs1 := hs (w.heap.size + 1) (by omega)); (try have hs2 := hs (w.heap.size + 1 + 1) (by omega)); (try have hs3 := hs (w.heap.size + 1 + 1 + 1) (by omega))
        (try simp only [IntWalk.i64_left])
        have hE1 : Ext wr w1 := by assumption
        go_wp2
        exact ⟨⟨hE.tr hE1, 0 + 1, 0, by omega, by go_num, rfl, hlt, HX2.out.symm, dk, rfl, Lib.hid (fun _ => HDK.out.symm)⟩, by simp [intOf]; omega⟩
      have hk0' : ((k : Int) == 0) = false := by rw [beq_eq_false_iff_ne]; omega
      have hLm := hL.out (by omega)
      by_cases hd : dk < L
      · have HX2 : Hid (nearN d (k + 1) = k) := Lib.hid (by rw [HX.out, if_pos (by omega)])
        clear hLm
        go_upto_region 5 with fail
        refine region_grow (by kernel_rfl) (by kernel_rfl) ?_
        repeat (first | go_big_quiet_step (first | (go_at_call 91; with_reducible exact callsGrow (HK.out _)) | fail) | quiet_step (first | (go_at_call 91; with_reducible exact callsGrow (HK.out _)) | fail))
        refine wpQuiet_nil ?_
        intro w1 hb
        have hc := hb.ccell
        have hf := hb.frz
        have hs := hb.sz
        (try simp at hs); (try have hs0 := hs w.heap.size (by omega)); (try have hs1 := hs (w.heap.size + 1) (by omega)); (try have hs2 := hs (w.heap.size + 1 + 1) (by omega)); (try have hs3 := hs (w.heap.size + 1 + 1 + 1) (by omega))
        (try simp only [IntWalk.i64_left])
        have hE1 : Ext wr w1 := by assumption
        go_wp2
        exact ⟨⟨hE.tr hE1, k + 1, k, by omega, by go_num, rfl, hlt, HX2.out.symm, dk, rfl, Lib.hid (fun _ => HDK.out.symm)⟩, by simp [intOf]; omega⟩
      · have HX2 : Hid (nearN d (k + 1) = m) := Lib.hid (by rw [HX.out, if_neg (by omega)])
        have HLM := Lib.hid hLm
        clear hLm
        go_upto_region 5 with fail
        refine region_grow (by kernel_rfl) (by kernel_rfl) ?_
        repeat (first | go_big_quiet_step (first | (go_at_call 91; with_reducible exact callsGrow (HK.out _)) | fail) | quiet_step (first | (go_at_call 91; with_reducible exact callsGrow (HK.out _)) | fail))
        refine wpQuiet_nil ?_
        intro w1 hb
        have hc := hb.ccell
        have hf := hb.frz
        have hs := hb.sz
        (try simp at hs); (try have hs0 := hs w.heap.size (by omega)); (try have hs1 := hs (w.heap.size + 1) (by omega)); (try have hs2 := hs (w.heap.size + 1 + 1) (by omega)); (try have hs3 := hs (w.heap.size + 1 + 1 + 1) (by omega))
        (try simp only [IntWalk.i64_left])
        have hE1 : Ext wr w1 := by assumption
        go_wp2
        exact ⟨⟨hE.tr hE1, k + 1, m, by omega, by go_num, rfl, hm, HX2.out.symm, L, rfl, Lib.hid (fun _ => HLM.out)⟩, by simp [intOf]; omega⟩
    · have hks : k = bos.length := by omega
      have HT : Hid (m = N) := Lib.hid (by rw [← HN.out, ← hks]; exact hM.out)
      go_wp2
      go_ret
      exact ⟨ret_int (by rw [HT.out]), hEr⟩
end Go.Proofs.YtdbabihjnhnnfaaGreat
