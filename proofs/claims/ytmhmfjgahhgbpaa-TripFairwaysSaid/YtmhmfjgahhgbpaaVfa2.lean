/- The contracts of checkReaches, checkClosures, CheckFairway. -/
import Derived.Test.YtmhmfjgahhgbpaaVfa1
import Derived.Deep.RegionHeld3
namespace Go.Proofs.Ytmhmfjgahhgbpaa
open Go Go.RowKit Go.IntWalk

theorem keep1v {W w' : World} {b : Nat} (h : Ext W w') (hb : b < W.heap.size) : (∀ j : Nat, w'.cell? ⟨b, j, none⟩ = W.cell? ⟨b, j, none⟩) ∧ Ext W w' := ⟨fun _ => h.ccell _ _ hb, h⟩
theorem FstR.take {rs : List Re} {s : ByteArray} {i k : Nat} (h : FstR rs s i) (hk : k ≤ rs.length) : FstR (rs.take k) s (min i k) := by
  have hl : (rs.take k).length = k := by simp; omega
  have he : ∀ j, j < k → el (rs.take k) j = el rs j := by
    intro j hj
    rw [el_lt _ _ (by rw [hl]; exact hj), el_lt _ _ (by omega), List.getElem_take]
  refine ⟨by rw [hl]; omega, fun j hj => ?_, fun hh => ?_⟩
  · rw [he j (by omega)]; exact h.no j (by omega)
  · rw [hl] at hh
    rw [he _ hh, show min i k = i by omega]
    exact h.yes (by omega)
theorem findReach_t (rs : List Re) (s : ByteArray) (i k : Nat) (w : World) (A : Option Addr) (c : Nat) (hl : rs.length ≤ 1000) (hk : k ≤ rs.length) (hA : Row 7 encRe w A rs) (hi : FstR rs s i) :
    Calls Try.prog 57 #[.slice A k c, .string s] w fun e w' => e = .returned (.tuple #[reV (el rs i) (decide (i < k)), .bool (decide (i < k))]) ∧ Ext w w' := by
  have hl2 : (rs.take k).length = k := by simp; omega
  have h := findReach_c (rs.take k) s (min i k) w A c (by omega) (hA.take k) (hi.take hk)
  rw [hl2] at h
  have e1 : decide (min i k < k) = decide (i < k) := by rw [decide_eq_decide]; omega
  rw [e1] at h
  by_cases hik : i < k
  · rw [show min i k = i by omega] at h
    have : el (rs.take k) i = el rs i := by rw [el_lt _ _ (by rw [hl2]; exact hik), el_lt _ _ (by omega), List.getElem_take]
    rw [this] at h
    exact h
  · rw [decide_eq_false hik] at h ⊢
    exact h
theorem reE_name {rs : List Re} {k : Nat} (h : nameB (el rs k).s = false) : reE rs k = 4 := by unfold reE; rw [if_pos h]
theorem reE_rest {rs : List Re} {k : Nat} (h : nameB (el rs k).s = true) (d : Bool) (hd : dupR rs k = d) (q : Bool) (hq : inRe (el rs k) = q) : reE rs k = if d then 5 else if q then 0 else 2 := by
  unfold reE
  rw [h, hd, hq]
  cases d <;> cases q <;> rfl

set_option maxHeartbeats 8000000 in
set_option maxRecDepth 100000 in
theorem checkReaches_c (rs : List Re) (w : World) (A : Option Addr) (c : Nat) (hl : rs.length ≤ 1000) (hc : rs.length ≤ c) (hA : Row 7 encRe w A rs) :
    Calls Try.prog 43 #[.slice A rs.length c] w fun e w' => e = .returned (.int .i64 (rsE rs)) ∧ Ext w w' := by
  unfold rsE
  by_cases h0 : rs.length = 0
  · rw [if_pos h0]
    have h0' : (rs.length : Int) = 0 := by omega
    go_enter Try.func43, Try.ntmps43
    go_wp2
    go_ret
    exact ⟨rfl, by (repeat (first | with_reducible exact Ext.rfl' _ | with_reducible assumption | with_reducible refine Ext.al ?_ _ | with_reducible refine Ext.dr ?_ | with_reducible refine Ext.st ?_ (by simp) _ | with_reducible refine Ext.tr ?_ (by assumption)))⟩
  rw [if_neg h0]
  have h0' : ((rs.length : Int) == 0) = false := by rw [beq_eq_false_iff_ne]; omega
  have h0'' : ¬ (rs.length : Int) = 0 := by omega
  by_cases h8 : 8 < rs.length
  · rw [if_pos h8]
    have h8' : (8 : Int) < (rs.length : Int) := by omega
    go_enter Try.func43, Try.ntmps43
    go_wp2
    go_ret
    exact ⟨rfl, by (repeat (first | with_reducible exact Ext.rfl' _ | with_reducible assumption | with_reducible refine Ext.al ?_ _ | with_reducible refine Ext.dr ?_ | with_reducible refine Ext.st ?_ (by simp) _ | with_reducible refine Ext.tr ?_ (by assumption)))⟩
  rw [if_neg h8]
  have h8' : ¬ (8 : Int) < (rs.length : Int) := by omega
  obtain ⟨E, hE0⟩ : ∃ E, firstE (reE rs) rs.length = E := ⟨_, rfl⟩
  rw [hE0]
  have HT := Lib.hid hE0
  clear hE0 h0 h8
  go_enter Try.func43, Try.ntmps43
  go_wp2
  go_loopw [15] (fun i wr => Ext w wr ∧ ∃ k : Nat, k ≤ rs.length ∧ i = .int .i64 k ∧ Hid (firstE (reE rs) k = 0)) (fun i _ => rs.length - (intOf i).toNat)
  case atStart => exact ⟨Ext.rfl' _, 0, Nat.zero_le _, rfl, rfl⟩
  case round =>
    obtain ⟨hE, k, hk, rfl, hF⟩ := hrel
    by_cases hlt : k < rs.length
    · obtain ⟨i, hi⟩ := fst_some rs (el rs k).s
      obtain ⟨hd, hik⟩ := fst_dup hlt hi
      have HFR := Lib.hid (fun w' (hw : Ext w w') => findReach_t rs (el rs k).s i k w' A c hl hk (hA.ext hw) hi)
      obtain ⟨b, off, rfl, hb0, hcell⟩ := hA.re hlt
      have c1 := hcell _ hE
      have hz := hE.sz _ hb0
      have HNM := Lib.hid (reE_name (rs := rs) (k := k))
      have HRS := Lib.hid (reE_rest (rs := rs) (k := k))
      have HN := Lib.hid (fun w => vName_c (el rs k).s w)
      have HIR := Lib.hid (fun w => vinRe_c (el rs k) w)
      rw [← hd] at HFR
      clear hcell hd hi
      generalize el rs i = r0 at *
      generalize el rs k = r at *
      have hkc : (k : Int) ≤ (c : Int) := by omega
      have hk0 : (0 : Int) ≤ (k : Int) := by omega
      have HKI := Lib.hid hik
      clear hik hA
      cases hn : nameB r.s
      · rw [hn] at HN
        have HE := Lib.hid (HNM.out hn)
        clear hn
        go_wp2_with (first | (go_at_call 33; with_reducible refine Calls.mono (HN.out _) ?_; rintro e w' ⟨rfl, rfl⟩))
        go_ret
        exact ⟨ret_int (by rw [← HT.out, firstE_at hlt hF.out (by rw [HE.out]; decide), HE.out]), by (repeat (first | with_reducible exact Ext.rfl' _ | with_reducible assumption | with_reducible refine Ext.al ?_ _ | with_reducible refine Ext.dr ?_ | with_reducible refine Ext.st ?_ (by simp) _ | with_reducible refine Ext.tr ?_ (by assumption)))⟩
      rw [hn] at HN
      have HRE := Lib.hid (HRS.out hn)
      clear hn HNM HRS
      cases hdd : dupR rs k
      · rw [hdd] at HFR
        rw [show reV r0 false = .agg #[.string ⟨#[]⟩, .int .i64 0, .int .i64 0, .int .i64 0, .int .i64 0, .bool false, .bool false] from rfl] at HFR
        have HRE := Lib.hid (HRE.out false hdd)
        clear hdd
        go_upto_region 10 with (first | (go_at_call 33; with_reducible refine Calls.mono (HN.out _) ?_; rintro e w' ⟨rfl, rfl⟩))
        refine wp_name (fun W hW => ?_)
        have hEW : Ext wr W := by rw [hW]; (repeat (first | with_reducible exact Ext.rfl' _ | with_reducible assumption | with_reducible refine Ext.al ?_ _ | with_reducible refine Ext.dr ?_ | with_reducible refine Ext.st ?_ (by simp) _ | with_reducible refine Ext.tr ?_ (by assumption)))
        have s0 : W.cell? ⟨wr.heap.size, 0, none⟩ = some (.string r.s) := by rw [hW]; simp [*, go_sem]
        have s1 : W.cell? ⟨wr.heap.size, 1, none⟩ = some (.int .i64 r.x) := by rw [hW]; simp [*, go_sem]
        have s2 : W.cell? ⟨wr.heap.size, 2, none⟩ = some (.int .i64 r.lev) := by rw [hW]; simp [*, go_sem]
        have s3 : W.cell? ⟨wr.heap.size, 3, none⟩ = some (.int .i64 r.mi) := by rw [hW]; simp [*, go_sem]
        have s4 : W.cell? ⟨wr.heap.size, 4, none⟩ = some (.int .i64 r.cl) := by rw [hW]; simp [*, go_sem]
        have s5 : W.cell? ⟨wr.heap.size, 5, none⟩ = some (.bool r.wt) := by rw [hW]; simp [*, go_sem]
        have s6 : W.cell? ⟨wr.heap.size, 6, none⟩ = some (.bool r.one) := by rw [hW]; simp [*, go_sem]
        have hWz : wr.heap.size < W.heap.size := by rw [hW]; simp
        have hEw := Lib.hid (hE.tr hEW)
        clear hW c1 hz hb0 HN
        generalize wr.heap.size = n4 at *
        go_cut [6] (fun x wx => x = .bool false ∧ Ext W wx)
        case first =>
          clear HIR HRE HT hF
          go_region_held3 (fun w' => (∀ j : Nat, w'.cell? ⟨n4, j, none⟩ = W.cell? ⟨n4, j, none⟩) ∧ Ext W w') ((refine keep1v ?_ hWz; (repeat (first | with_reducible exact Ext.rfl' _ | with_reducible assumption | (with_reducible exact (by with_reducible assumption : _ ∧ Ext W _).2) | with_reducible refine Ext.al ?_ _ | with_reducible refine Ext.dr ?_ | with_reducible refine Ext.st ?_ (by first | (simp; done) | (have h9 := Below.size hb2; simp at h9 ⊢; omega)) _ | with_reducible refine Ext.tr ?_ (by with_reducible assumption))))) ((go_at_call 57; (with_reducible refine Calls.mono (HFR.out _ (hEw.out.tr (by (repeat (first | with_reducible exact Ext.rfl' _ | with_reducible assumption | (with_reducible exact (by with_reducible assumption : _ ∧ Ext W _).2) | with_reducible refine Ext.al ?_ _ | with_reducible refine Ext.dr ?_ | with_reducible refine Ext.st ?_ (by first | (simp; done) | (have h9 := Below.size hb2; simp at h9 ⊢; omega)) _ | with_reducible refine Ext.tr ?_ (by with_reducible assumption)))))) ?_); rintro e w2 ⟨rfl, hb2⟩; have hc2 := hb2.ccell; have hf2 := hb2.frz; have hs2 := hb2.sz))
          all_goals
            rename_i hJ hK h1 h2 hH
            clear hH
            refine h2 _ _ (Met.intro (h1 _ _ ?_))
            (repeat apply Exists.intro)
            refine ⟨?_, rfl⟩
            refine ⟨rfl, ?_⟩
            (repeat (first | with_reducible exact Ext.rfl' _ | with_reducible assumption | (with_reducible exact (by with_reducible assumption : _ ∧ Ext W _).2) | with_reducible refine Ext.al ?_ _ | with_reducible refine Ext.dr ?_ | with_reducible refine Ext.st ?_ (by first | (simp; done) | (have h9 := Below.size hb2; simp at h9 ⊢; omega)) _ | with_reducible refine Ext.tr ?_ (by with_reducible assumption)))
        case rest =>
          obtain ⟨rfl, hx⟩ := hcut
          have y0 := (hx.ccell _ 0 hWz).trans s0
          have y1 := (hx.ccell _ 1 hWz).trans s1
          have y2 := (hx.ccell _ 2 hWz).trans s2
          have y3 := (hx.ccell _ 3 hWz).trans s3
          have y4 := (hx.ccell _ 4 hWz).trans s4
          have y5 := (hx.ccell _ 5 hWz).trans s5
          have y6 := (hx.ccell _ 6 hWz).trans s6
          have hz2 := hx.sz _ hWz
          have hEx := Lib.hid (hEw.out.tr hx)
          clear s0 s1 s2 s3 s4 s5 s6 hWz hx hEW
          cases hq : inRe r
          · rw [hq] at HIR
            have HE := Lib.hid (HRE.out false hq)
            clear hq
            go_wp2_with (first | (go_at_call 63; with_reducible refine Calls.mono (HIR.out _) ?_; rintro e w1 ⟨rfl, hb⟩; have hc := hb.ccell; have hf := hb.frz; have hs := hb.sz; (try simp at hs); (try have hs0 := hs w.heap.size (by omega)); (try have hs1 := hs (w.heap.size + 1) (by omega)); (try have hs2 := hs (w.heap.size + 1 + 1) (by omega)); (try have hs3 := hs (w.heap.size + 1 + 1 + 1) (by omega))))
            go_ret
            exact ⟨ret_int (by rw [← HT.out, firstE_at hlt hF.out (by rw [HE.out]; decide), HE.out]; rfl), hEx.out.tr (by (repeat (first | with_reducible exact Ext.rfl' _ | with_reducible assumption | with_reducible refine Ext.al ?_ _ | with_reducible refine Ext.dr ?_ | with_reducible refine Ext.st ?_ (by simp) _ | with_reducible refine Ext.tr ?_ (by assumption))))⟩
          · rw [hq] at HIR
            have HE := Lib.hid (HRE.out true hq)
            clear hq
            go_wp2_with (first | (go_at_call 63; with_reducible refine Calls.mono (HIR.out _) ?_; rintro e w1 ⟨rfl, hb⟩; have hc := hb.ccell; have hf := hb.frz; have hs := hb.sz; (try simp at hs); (try have hs0 := hs w.heap.size (by omega)); (try have hs1 := hs (w.heap.size + 1) (by omega)); (try have hs2 := hs (w.heap.size + 1 + 1) (by omega)); (try have hs3 := hs (w.heap.size + 1 + 1 + 1) (by omega))))
            exact ⟨⟨hEx.out.tr (by (repeat (first | with_reducible exact Ext.rfl' _ | with_reducible assumption | with_reducible refine Ext.al ?_ _ | with_reducible refine Ext.dr ?_ | with_reducible refine Ext.st ?_ (by simp) _ | with_reducible refine Ext.tr ?_ (by assumption)))), k + 1, by omega, by go_num, firstE_step hF.out (by rw [HE.out]; rfl)⟩, by simp [intOf]; omega⟩
      · rw [hdd] at HFR
        rw [show reV r0 true = .agg #[.string r0.s, .int .i64 r0.x, .int .i64 r0.lev, .int .i64 r0.mi, .int .i64 r0.cl, .bool r0.wt, .bool r0.one] from rfl] at HFR
        have HE : Hid (reE rs k = 5) := Lib.hid (by rw [HRE.out true hdd _ rfl]; rfl)
        clear hdd
        go_upto_region 10 with (first | (go_at_call 33; with_reducible refine Calls.mono (HN.out _) ?_; rintro e w' ⟨rfl, rfl⟩))
        refine wp_name (fun W hW => ?_)
        have hEW : Ext wr W := by rw [hW]; (repeat (first | with_reducible exact Ext.rfl' _ | with_reducible assumption | with_reducible refine Ext.al ?_ _ | with_reducible refine Ext.dr ?_ | with_reducible refine Ext.st ?_ (by simp) _ | with_reducible refine Ext.tr ?_ (by assumption)))
        have s0 : W.cell? ⟨wr.heap.size, 0, none⟩ = some (.string r.s) := by rw [hW]; simp [*, go_sem]
        have hWz : wr.heap.size < W.heap.size := by rw [hW]; simp
        have hEw := Lib.hid (hE.tr hEW)
        clear hW c1 hz hb0 HN
        generalize wr.heap.size = n4 at *
        go_cut [6] (fun x wx => x = .bool true ∧ Ext W wx)
        case first =>
          clear HIR HRE HT hF HE
          go_region_held3 (fun w' => (∀ j : Nat, w'.cell? ⟨n4, j, none⟩ = W.cell? ⟨n4, j, none⟩) ∧ Ext W w') ((refine keep1v ?_ hWz; (repeat (first | with_reducible exact Ext.rfl' _ | with_reducible assumption | (with_reducible exact (by with_reducible assumption : _ ∧ Ext W _).2) | with_reducible refine Ext.al ?_ _ | with_reducible refine Ext.dr ?_ | with_reducible refine Ext.st ?_ (by first | (simp; done) | (have h9 := Below.size hb2; simp at h9 ⊢; omega)) _ | with_reducible refine Ext.tr ?_ (by with_reducible assumption))))) ((go_at_call 57; (with_reducible refine Calls.mono (HFR.out _ (hEw.out.tr (by (repeat (first | with_reducible exact Ext.rfl' _ | with_reducible assumption | (with_reducible exact (by with_reducible assumption : _ ∧ Ext W _).2) | with_reducible refine Ext.al ?_ _ | with_reducible refine Ext.dr ?_ | with_reducible refine Ext.st ?_ (by first | (simp; done) | (have h9 := Below.size hb2; simp at h9 ⊢; omega)) _ | with_reducible refine Ext.tr ?_ (by with_reducible assumption)))))) ?_); rintro e w2 ⟨rfl, hb2⟩; have hc2 := hb2.ccell; have hf2 := hb2.frz; have hs2 := hb2.sz))
          all_goals
            rename_i hJ hK h1 h2 hH
            clear hH
            refine h2 _ _ (Met.intro (h1 _ _ ?_))
            (repeat apply Exists.intro)
            refine ⟨?_, rfl⟩
            refine ⟨rfl, ?_⟩
            (repeat (first | with_reducible exact Ext.rfl' _ | with_reducible assumption | (with_reducible exact (by with_reducible assumption : _ ∧ Ext W _).2) | with_reducible refine Ext.al ?_ _ | with_reducible refine Ext.dr ?_ | with_reducible refine Ext.st ?_ (by first | (simp; done) | (have h9 := Below.size hb2; simp at h9 ⊢; omega)) _ | with_reducible refine Ext.tr ?_ (by with_reducible assumption)))
        case rest =>
          obtain ⟨rfl, hx⟩ := hcut
          have hEx := Lib.hid (hEw.out.tr hx)
          clear s0 hWz hx hEW
          go_wp2
          go_ret
          exact ⟨ret_int (by rw [← HT.out, firstE_at hlt hF.out (by rw [HE.out]; decide), HE.out]), hEx.out.tr (by (repeat (first | with_reducible exact Ext.rfl' _ | with_reducible assumption | with_reducible refine Ext.al ?_ _ | with_reducible refine Ext.dr ?_ | with_reducible refine Ext.st ?_ (by simp) _ | with_reducible refine Ext.tr ?_ (by assumption))))⟩
    · have hks : k = rs.length := by omega
      have hT := HT.out
      rw [← hks, hF.out] at hT
      have HT2 := Lib.hid hT
      clear hT hF
      go_wp2
      go_ret
      exact ⟨ret_int HT2.out, by (repeat (first | with_reducible exact Ext.rfl' _ | with_reducible assumption | with_reducible refine Ext.al ?_ _ | with_reducible refine Ext.dr ?_ | with_reducible refine Ext.st ?_ (by simp) _ | with_reducible refine Ext.tr ?_ (by assumption)))⟩
end Go.Proofs.Ytmhmfjgahhgbpaa
