/- The contract of the reference's Latest. -/
import Derived.Test.YtgnakeemcccfjaaBjoin2
import Derived.Test.YtgnakeemcccfjaaBcopy
namespace Go.Proofs.Ytgnakeemcccfjaa
open Go Go.RowKit Go.IntWalk

theorem OwnK.setZ {w : World} {g cap : Nat} {l : List Int} (h : OwnK 3 1 encZ w g cap l) (i : Nat) (_hi : i < l.length) (v : Int) : OwnK 3 1 encZ (w.setCell ⟨g, i, none⟩ (.int .i64 v)) g cap (l.set i v) := by
  obtain ⟨cur, h1, h2, h3, h4, h5⟩ := h
  refine ⟨cur.setIfInBounds i (.int .i64 v), ?_, by simp [h2], by simp [h3], h4, ?_⟩
  · simp [World.setCell, Array.getElem?_modify, h1]
  · rw [List.length_set, Nat.mul_one] at *
    rw [Array.toList_setIfInBounds, List.take_set, h5]
    clear h1 h2 h3 h4 h5 _hi
    induction l generalizing i with
    | nil => simp
    | cons x l ih =>
      cases i with
      | zero => rfl
      | succ i => show encZ x ++ (l.flatMap encZ).set i _ = _; rw [ih]; rfl
/-- The level that the reference's Latest gives a cell. -/
def laF (g h : Gr) (k : Nat) : Int := if gi h.L k = 30000 then gi g.L k else gi h.L k
theorem mkL_set (f : Nat → Int) (n k : Nat) (v : Int) : (mkL f n).set k v = mkL (fun i => if i = k then v else f i) n := by
  apply List.ext_getElem (by simp [mkL])
  intro i h1 h2
  rw [List.getElem_set]
  simp only [mkL, List.getElem_map, List.getElem_range]
  by_cases h : k = i
  · rw [if_pos h, if_pos h.symm]
  · rw [if_neg h, if_neg (by omega)]
theorem mkL_congr {f f' : Nat → Int} {n : Nat} (h : ∀ i, i < n → f i = f' i) : mkL f n = mkL f' n := by
  unfold mkL
  apply List.map_congr_left
  intro i hi
  exact h i (List.mem_range.1 hi)
/-- The world of a loop that stores into a copy's levels: the grids in na, nb, the result's box nz, the copy's box no, its levels q. -/
structure RlW (w wr : World) (g h : Gr) (A B : Option Addr) (c d na nb nz no q c2 : Nat) (f : Nat → Int) : Prop where
  ext : Ext w wr
  ba : BoxG wr na g A c
  bb : BoxG wr nb h B d
  kz : CellsAt wr nz 0 [.int .i64 0, .int .i64 0, .int .i64 0, .int .i64 0, .int .i64 0, .slice none 0 0]
  fr : ∀ o, wr.frozen? ⟨nz, o, none⟩ = false
  ko : CellsAt wr no 0 [.int .i64 h.X, .int .i64 h.Y, .int .i64 h.S, .int .i64 h.C, .int .i64 h.R, .slice (some ⟨q, 0, none⟩) h.L.length c2]
  own : OwnK 3 1 encZ wr q c2 (mkL f h.L.length)
  lo : no < wr.heap.size
  lz : nz < wr.heap.size
  dq : w.heap.size ≤ q
  d1 : na < q
  d2 : nb < q
  d3 : nz < q
  d4 : q < no
theorem RlW.step {w wr w' : World} {g h : Gr} {A B : Option Addr} {c d na nb nz no q c2 : Nat} {f : Nat → Int} (r : RlW w wr g h A B c d na nb nz no q c2 f) (hE : Ext wr w') (k : Nat) (hk : k < h.L.length) (v : Int) :
    RlW w (w'.setCell ⟨q, k, none⟩ (.int .i64 v)) g h A B c d na nb nz no q c2 (fun i => if i = k then v else f i) := by
  have d1 := r.d1
  have d2 := r.d2
  have d3 := r.d3
  have d4 := r.d4
  have ba := r.ba.ext hE
  have bb := r.bb.ext hE
  have lo := hE.sz _ r.lo
  have lz := hE.sz _ r.lz
  refine ⟨Ext.st (r.ext.tr hE) r.dq _, ⟨by simpa using ba.1, ba.2.st (by simp; omega) _⟩, ⟨by simpa using bb.1, bb.2.st (by simp; omega) _⟩, (r.kz.ext hE r.lz).st (by simp; omega) _, fun o => ?_, (r.ko.ext hE r.lo).st (by simp; omega) _, ?_, by simpa using lo, by simpa using lz, r.dq, d1, d2, d3, d4⟩
  · have := (hE.frz nz o r.lz).trans (r.fr o)
    simpa [go_sem] using this
  · have h1 := (r.own.ext hE).setZ k (by rw [mkL_len]; exact hk) v
    rw [mkL_set] at h1
    exact h1
theorem RlW.congr {w wr : World} {g h : Gr} {A B : Option Addr} {c d na nb nz no q c2 : Nat} {f f' : Nat → Int} (r : RlW w wr g h A B c d na nb nz no q c2 f) (hf : ∀ i, i < h.L.length → f i = f' i) : RlW w wr g h A B c d na nb nz no q c2 f' :=
  ⟨r.ext, r.ba, r.bb, r.kz, r.fr, r.ko, by rw [← mkL_congr hf]; exact r.own, r.lo, r.lz, r.dq, r.d1, r.d2, r.d3, r.d4⟩
set_option maxHeartbeats 8000000 in
set_option maxRecDepth 100000 in
theorem rlatest_c (g h : Gr) (w : World) (A B : Option Addr) (c d : Nat) (hn : 0 < h.L.length) (hl : h.L.length ≤ 1100) (hlen : g.L.length = h.L.length) (hA : Row 1 encZ w A g.L) (hB : Row 1 encZ w B h.L) :
    Calls Try.prog 40 #[.agg #[.int .i64 g.X, .int .i64 g.Y, .int .i64 g.S, .int .i64 g.C, .int .i64 g.R, .slice A g.L.length c], .agg #[.int .i64 h.X, .int .i64 h.Y, .int .i64 h.S, .int .i64 h.C, .int .i64 h.R, .slice B h.L.length d]] w fun e w' => OutG w.heap.size (reL h (laF g h)) e w' ∧ Ext w w' := by
  have HC := Lib.hid (fun w' (hw : Ext w w') => copyGrid_c h w' B d (by omega) (hB.ext hw))
  have HLEN := Lib.hid hlen
  have HA := Lib.hid hA
  have HB := Lib.hid hB
  clear hlen hA hB
  go_enter Try.func40, Try.ntmps40
  go_upto_region 2 with (first | (go_at_call 19; (with_reducible refine Calls.mono (HC.out _ (by (repeat (first | with_reducible exact Ext.rfl' _ | with_reducible assumption | with_reducible refine Ext.al ?_ _ | with_reducible refine Ext.dr ?_ | with_reducible refine Ext.st ?_ (by simp) _ | with_reducible refine Ext.tr ?_ (by assumption))))) ?_); rintro e w1 ⟨⟨A2, c2, rfl, hN⟩, hb⟩; have hc := hb.ccell; have hf := hb.frz; have hs := hb.sz; (try simp at hs); (try have t0 := hs (w.heap.size) (by first | assumption | omega)); (try have t1 := hs (w.heap.size + 1) (by first | assumption | omega)); (try have t2 := hs (w.heap.size + 1 + 1) (by first | assumption | omega)); (try have t3 := hs (w.heap.size) (by first | assumption | omega)); (try have t4 := hs (w.heap.size) (by first | assumption | omega)); (try have t5 := hs (w.heap.size) (by first | assumption | omega))))
  obtain ⟨hN1, hN2, hN3⟩ := hN
  rcases hN3 with ⟨h0, _⟩ | ⟨q, rfl, hq, hO⟩
  · rw [h0] at hn; cases hn
  simp at hq
  have hE1 : Ext w w1 := by (repeat (first | with_reducible exact Ext.rfl' _ | with_reducible assumption | with_reducible refine Ext.al ?_ _ | with_reducible refine Ext.dr ?_ | with_reducible refine Ext.st ?_ (by simp) _ | with_reducible refine Ext.tr ?_ (by assumption)))
  have ka : BoxG w1 w.heap.size g A c := by refine ⟨by assumption, cells_six ⟨?_, ?_, ?_, ?_, ?_, ?_⟩⟩ <;> simp [*, go_sem]
  have kb : BoxG w1 (w.heap.size + 1) h B d := by refine ⟨by assumption, cells_six ⟨?_, ?_, ?_, ?_, ?_, ?_⟩⟩ <;> simp [*, go_sem]
  have kz : CellsAt w1 (w.heap.size + 1 + 1) 0 [.int .i64 0, .int .i64 0, .int .i64 0, .int .i64 0, .int .i64 0, .slice none 0 0] := by refine cells_six ⟨?_, ?_, ?_, ?_, ?_, ?_⟩ <;> simp [*, go_sem]
  have fr : ∀ o, w1.frozen? ⟨w.heap.size + 1 + 1, o, none⟩ = false := by intro o; rw [hf _ _ (by simp)]; simp [go_sem]
  have lz : w.heap.size + 1 + 1 < w1.heap.size := by assumption
  have hq2 := hO.lt
  obtain ⟨W, hW⟩ : ∃ W, W = w1.alloc (.cells #[.int .i64 h.X, .int .i64 h.Y, .int .i64 h.S, .int .i64 h.C, .int .i64 h.R, .slice (some ⟨q, 0, none⟩) h.L.length c2] 24) := ⟨_, rfl⟩
  have hX : Ext w1 W := by rw [hW]; exact Ext.al (Ext.rfl' _) _
  have ko : CellsAt W w1.heap.size 0 [.int .i64 h.X, .int .i64 h.Y, .int .i64 h.S, .int .i64 h.C, .int .i64 h.R, .slice (some ⟨q, 0, none⟩) h.L.length c2] := by rw [hW]; refine cells_six ⟨?_, ?_, ?_, ?_, ?_, ?_⟩ <;> simp [go_sem]
  have hR : Hid (RlW w W g h A B c d w.heap.size (w.heap.size + 1) (w.heap.size + 1 + 1) w1.heap.size q c2 (fun i => gi h.L i)) := Lib.hid ⟨hE1.tr hX, ka.ext hX, kb.ext hX, kz.ext hX lz, fun o => (hX.frz _ o lz).trans (fr o), ko, by rw [← mkL_eq (fun _ _ => rfl)]; exact hO.ext hX, by rw [hW]; simp, hX.sz _ lz, by omega, by omega, by omega, by omega, hq2⟩
  rw [← hW]
  have HCAP := Lib.hid (And.intro hN1 hN2)
  clear hW ka kb kz fr ko hO hN1 hN2 hb hc hf hs hX hE1 HC lz hq2
  (try clear t0); (try clear t1); (try clear t2); (try clear t3); (try clear t4); (try clear t5)
  have hdz : Hid (w.heap.size ≤ w.heap.size + 1 + 1) := Lib.hid (by omega)
  generalize w1.heap.size = no at *
  generalize w.heap.size + 1 + 1 = nz at *
  generalize w.heap.size + 1 = nb at *
  clear hq
  go_wp2
  go_loopw [6] (fun i wr => ∃ k : Nat, k ≤ h.L.length ∧ i = .int .i64 k ∧ Hid (RlW w wr g h A B c d w.heap.size nb nz no q c2 (fun i => if i < k then laF g h i else gi h.L i))) (fun i _ => h.L.length - (intOf i).toNat)
  case atStart => exact ⟨0, Nat.zero_le _, rfl, Lib.hid (hR.out.congr fun i _ => by rw [if_neg (by omega)])⟩
  case round =>
    clear hR
    obtain ⟨k, hk, rfl, hR⟩ := hrel
    have hE := hR.out.ext
    obtain ⟨o0, o1, o2, o3, o4, o5⟩ := hR.out.ko.six
    obtain ⟨ha, ka⟩ := hR.out.ba
    obtain ⟨hbz, kb⟩ := hR.out.bb
    have a5 := ka.six.2.2.2.2.2
    have b5 := kb.six.2.2.2.2.2
    have hlo := hR.out.lo
    have hlq := hR.out.own.lt
    by_cases hlt : k < h.L.length
    · have hlt2 : k < g.L.length := by rw [HLEN.out]; exact hlt
      obtain ⟨p1, f1, rfl, hp1, hcell⟩ := HA.out.p1 hlt2
      have e6 := hcell _ hE
      rw [← gi_lt] at e6
      obtain ⟨p2, f2, rfl, hp2, hcell'⟩ := HB.out.p1 hlt
      have e7 := hcell' _ hE
      rw [← gi_lt] at e7
      have z1 := hE.sz _ hp1
      have z2 := hE.sz _ hp2
      have hkz : (0 : Int) ≤ k := by omega
      have hlen2 : k < (mkL (fun i => if i < k then laF g h i else gi h.L i) h.L.length).length := by rw [mkL_len]; exact hlt
      have fq := hR.out.own.frozen encZ_len k
      obtain ⟨old, cq⟩ : ∃ old, wr.cell? ⟨q, k, none⟩ = some (.int .i64 old) := ⟨_, hR.out.own.cells encZ_len k _ (by rw [own_of_row.zflat, List.getElem?_eq_getElem hlen2]; rfl)⟩
      have HLA : Hid (laF g h k = if gi h.L k = 30000 then gi g.L k else gi h.L k) := Lib.hid rfl
      clear ka kb hcell hcell' hlen2
      by_cases hu : gi h.L k = 30000
      · rw [hu] at e7
        have HV : Hid (laF g h k = gi g.L k) := Lib.hid (by rw [HLA.out, if_pos hu])
        generalize gi g.L k = v at *
        clear hu
        have HS : Hid (∀ w', Ext wr w' → RlW w (w'.setCell ⟨q, k, none⟩ (.int .i64 v)) g h (some ⟨p1, f1, none⟩) (some ⟨p2, f2, none⟩) c d w.heap.size nb nz no q c2 (fun i => if i < k + 1 then laF g h i else gi h.L i)) := Lib.hid fun w' hw => (hR.out.step hw k hlt v).congr fun i _ => by
          by_cases h2 : i = k
          · subst h2; rw [if_pos rfl, if_pos (by omega), HV.out]
          · rw [if_neg h2]
            by_cases h1 : i < k
            · rw [if_pos h1, if_pos (by omega)]
            · rw [if_neg h1, if_neg (by omega)]
        clear hR
        go_upto_region 6 with fail
        refine region_grow_tail 9 (by kernel_rfl) (by kernel_rfl) ?_
        simp only [List.take_succ_cons, List.take_zero, List.drop_succ_cons, List.drop_zero]
        repeat (first | go_big_quiet_step (first | fail | fail) | quiet_step (first | fail | fail))
        refine wpQuiet_nil ?_
        intro w1 hb
        have hc := hb.ccell
        have hf := hb.frz
        have hs := hb.sz
        (try simp at hs); (try have hs0 := hs w.heap.size (by omega)); (try have hs1 := hs (w.heap.size + 1) (by omega)); (try have hs2 := hs (w.heap.size + 1 + 1) (by omega)); (try have hs3 := hs (w.heap.size + 1 + 1 + 1) (by omega))
        have fq1 := (hb.frz q k hlq).trans fq
        have cq1 := (hb.ccell q k hlq).trans cq
        have hlq1 := hs q hlq
        have HB := Lib.hid hb
        clear hc hf hs hb
        go_wp2
        exact ⟨⟨k + 1, by omega, by go_num, Lib.hid (HS.out _ HB.out)⟩, by simp [intOf]; omega⟩
      · have hu' : (gi h.L k == 30000) = false := by simp [hu]
        have HV : Hid (laF g h k = gi h.L k) := Lib.hid (by rw [HLA.out, if_neg hu])
        have hN := Lib.hid (hR.out.congr (f' := fun i => if i < k + 1 then laF g h i else gi h.L i) fun i _ => by
          by_cases h1 : i < k
          · rw [if_pos h1, if_pos (by omega)]
          · rw [if_neg h1]
            by_cases h2 : i = k
            · subst h2; rw [if_pos (by omega), HV.out]
            · rw [if_neg (by omega)])
        clear hu cq fq
        go_wp2
        exact ⟨⟨k + 1, by omega, by go_num, hN⟩, by simp [intOf]; omega⟩
    · have hks : k = h.L.length := by omega
      have hkz := hR.out.kz
      have frz := hR.out.fr
      have hlz := hR.out.lz
      have hd3 := hR.out.d3
      have hdq := hR.out.dq
      obtain ⟨r0, r1, r2, r3, r4, r5⟩ := hkz.six
      have HO : Hid (OwnK 3 1 encZ wr q c2 (mkL (laF g h) h.L.length)) := Lib.hid (by rw [mkL_congr (f' := fun i => if i < k then laF g h i else gi h.L i) fun i hi => by rw [if_pos (by omega)]]; exact hR.out.own)
      have hcap : Hid (h.L.length ≤ c2 ∧ c2 ≤ maxLen) := HCAP
      clear hks ka kb a5 b5
      go_wp2
      have hSL := stL_at nz [.int .i64 h.X, .int .i64 h.Y, .int .i64 h.S, .int .i64 h.C, .int .i64 h.R, .slice (some ⟨q, 0, none⟩) h.L.length c2] _ 0 _ hkz rfl
      have hXL := stL_ext nz hdz.out [.int .i64 h.X, .int .i64 h.Y, .int .i64 h.S, .int .i64 h.C, .int .i64 h.R, .slice (some ⟨q, 0, none⟩) h.L.length c2] 0 _ hE
      have hOL := stL_own nz (show q ≠ nz by omega) [.int .i64 h.X, .int .i64 h.Y, .int .i64 h.S, .int .i64 h.C, .int .i64 h.R, .slice (some ⟨q, 0, none⟩) h.L.length c2] 0 _ HO.out
      show bodyPost _ _ _ _ _ (stL wr nz 0 [.int .i64 h.X, .int .i64 h.Y, .int .i64 h.S, .int .i64 h.C, .int .i64 h.R, .slice (some ⟨q, 0, none⟩) h.L.length c2])
      generalize stL wr nz 0 [.int .i64 h.X, .int .i64 h.Y, .int .i64 h.S, .int .i64 h.C, .int .i64 h.R, .slice (some ⟨q, 0, none⟩) h.L.length c2] = WL at *
      obtain ⟨s0, s1, s2, s3, s4, s5⟩ := hSL.six
      refine bodyPost_ret (v := .agg #[.int .i64 h.X, .int .i64 h.Y, .int .i64 h.S, .int .i64 h.C, .int .i64 h.R, .slice (some ⟨q, 0, none⟩) h.L.length c2]) (by simp [results, Try.results40, go_sem, s0, s1, s2, s3, s4, s5]) rfl ⟨⟨some ⟨q, 0, none⟩, c2, ?_, ?_⟩, hXL⟩
      · show _ = Ending.returned (.agg #[.int .i64 h.X, .int .i64 h.Y, .int .i64 h.S, .int .i64 h.C, .int .i64 h.R, .slice (some ⟨q, 0, none⟩) (mkL (laF g h) h.L.length).length c2])
        rw [mkL_len]
      · exact ⟨by show (mkL (laF g h) h.L.length).length ≤ _; rw [mkL_len]; exact hcap.out.1, hcap.out.2, .inr ⟨q, rfl, by omega, hOL⟩⟩
end Go.Proofs.Ytgnakeemcccfjaa
