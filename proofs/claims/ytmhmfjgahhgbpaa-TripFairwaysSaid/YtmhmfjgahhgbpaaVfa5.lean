/- The contracts of the reference's ReachOf, CheckFairway; of Plain. -/
import Derived.Test.YtmhmfjgahhgbpaaVfa4
import Derived.Test.YtmhmfjgahhgbpaaTrefall
namespace Go.Proofs.Ytmhmfjgahhgbpaa
open Go Go.RowKit Go.IntWalk

set_option maxHeartbeats 2000000 in
theorem reachOf_c (gs : List Ga) (rs : List Re) (ts : List Tk) (s : ByteArray) (i : Nat) (w : World) (Ag Ar At : Option Addr) (cg cr ct : Nat) (hl : rs.length ≤ 1000) (hA : Row 7 encRe w Ar rs) (hi : FstR rs s i) :
    Calls Try.prog 17 #[.agg #[.slice Ag gs.length cg, .slice Ar rs.length cr, .slice At ts.length ct], .string s] w fun e w' => e = .returned (.int .i64 (if i < rs.length then i else -1)) ∧ Ext w w' := by
  have HI := Lib.hid hi
  clear hi
  go_enter Try.func17, Try.ntmps17
  go_wp2
  refine wp_name (fun w0 hW0 => ?_)
  have hE0 : Ext w w0 := by rw [hW0]; (repeat (first | with_reducible exact Ext.rfl' _ | with_reducible assumption | with_reducible refine Ext.al ?_ _ | with_reducible refine Ext.dr ?_ | with_reducible refine Ext.st ?_ (by simp) _ | with_reducible refine Ext.tr ?_ (by assumption)))
  have f1 : w0.cell? ⟨w.heap.size, 1, none⟩ = some (.slice Ar rs.length cr) := by rw [hW0]; simp [go_sem]
  have hz0 : w.heap.size < w0.heap.size := by rw [hW0]; simp
  clear hW0
  go_loopw [5] (fun q wr => Ext w0 wr ∧ ∃ k : Nat, k ≤ i ∧ q = .int .i64 k) (fun q _ => i - (intOf q).toNat)
  case atStart => exact ⟨Ext.rfl' _, 0, Nat.zero_le _, rfl⟩
  case round =>
    obtain ⟨hE, k, hk, rfl⟩ := hrel
    have hir := HI.out.le
    have g1 := (hE.ccell _ 1 hz0).trans f1
    have zr := hE.sz _ hz0
    have hEw := hE0.tr hE
    by_cases hlt : k < rs.length
    · obtain ⟨b, off, rfl, hb0, hcell⟩ := hA.re hlt
      have c := (hcell _ hEw).1
      clear hcell
      have hz := hEw.sz _ hb0
      have hlz : (k : Int) < (rs.length : Int) := by omega
      have HLZ := Lib.hid hir
      clear hir
      by_cases hki : k < i
      · have hb := HI.out.no k hki
        unfold sameS at hb
        generalize el rs k = r at *
        go_wp2
        exact ⟨⟨hE.tr (by (repeat (first | with_reducible exact Ext.rfl' _ | with_reducible assumption | with_reducible refine Ext.al ?_ _ | with_reducible refine Ext.dr ?_ | with_reducible refine Ext.st ?_ (by simp) _ | with_reducible refine Ext.tr ?_ (by assumption)))), k + 1, by omega, by go_num⟩, by simp [intOf]; omega⟩
      · have hke : k = i := by omega
        subst hke
        have hb := HI.out.yes (by omega)
        unfold sameS at hb
        generalize el rs k = r at *
        go_wp2
        go_ret
        exact ⟨ret_int (by first | rfl | rw [if_pos hlt]), hEw.tr (by (repeat (first | with_reducible exact Ext.rfl' _ | with_reducible assumption | with_reducible refine Ext.al ?_ _ | with_reducible refine Ext.dr ?_ | with_reducible refine Ext.st ?_ (by simp) _ | with_reducible refine Ext.tr ?_ (by assumption))))⟩
    · have hki : i = rs.length := by omega
      have hkk : k = rs.length := by omega
      have HF : Hid (¬ i < rs.length) := Lib.hid (by omega)
      subst hkk
      go_wp2
      go_ret
      exact ⟨ret_int (by first | rfl | rw [if_neg HF.out]), hEw.tr (by (repeat (first | with_reducible exact Ext.rfl' _ | with_reducible assumption | with_reducible refine Ext.al ?_ _ | with_reducible refine Ext.dr ?_ | with_reducible refine Ext.st ?_ (by simp) _ | with_reducible refine Ext.tr ?_ (by assumption))))⟩

set_option maxHeartbeats 16000000 in
set_option maxRecDepth 100000 in
theorem rcheckFairway_c (gs : List Ga) (rs : List Re) (ts : List Tk) (w : World) (Ag Ar At : Option Addr) (cg cr ct : Nat) (hF : FairW w gs rs ts Ag Ar At cg cr ct) :
    Calls Try.prog 15 #[.agg #[.slice Ag gs.length cg, .slice Ar rs.length cr, .slice At ts.length ct]] w fun e w' => e = .returned (.int .i64 (fairE gs rs ts)) ∧ Ext w w' := by
  have HG := Lib.hid (fun w' (hw : Ext w w') => rcheckAll_c gs w' Ag cg hF.gl (hF.gR.ext hw) (hF.gM.ext hw))
  have HRO := Lib.hid (fun s i w' (hw : Ext w w') hi => reachOf_c gs rs ts s i w' Ag Ar At cg cr ct hF.rl (hF.rR.ext hw) hi)
  have hR := hF.rR
  have hT := hF.tR
  have hrl := hF.rl
  have htl := hF.tl
  unfold fairE
  clear hF
  by_cases hg : gausE gs = 0
  case neg =>
    rw [if_pos hg]
    have hg' : (gausE gs != 0) = true := by simp [hg]
    have hg'' : (gausE gs == 0) = false := by simp [hg]
    generalize gausE gs = a at *
    clear HRO hR hT
    go_enter Try.func15, Try.ntmps15
    go_wp2_with (first | (go_at_call 40; with_reducible refine Calls.mono (HG.out _ (by (repeat (first | with_reducible exact Ext.rfl' _ | with_reducible assumption | with_reducible refine Ext.al ?_ _ | with_reducible refine Ext.dr ?_ | with_reducible refine Ext.st ?_ (by simp) _ | with_reducible refine Ext.tr ?_ (by assumption))))) ?_; rintro e w1 ⟨rfl, hb⟩; have hc := hb.ccell; have hf := hb.frz; have hs := hb.sz; (try simp at hs); (try have hs0 := hs w.heap.size (by omega)); (try have hs1 := hs (w.heap.size + 1) (by omega)); (try have hs2 := hs (w.heap.size + 1 + 1) (by omega)); (try have hs3 := hs (w.heap.size + 1 + 1 + 1) (by omega))))
    go_ret
    exact ⟨rfl, by (repeat (first | with_reducible exact Ext.rfl' _ | with_reducible assumption | with_reducible refine Ext.al ?_ _ | with_reducible refine Ext.dr ?_ | with_reducible refine Ext.st ?_ (by simp) _ | with_reducible refine Ext.tr ?_ (by assumption)))⟩
  rw [hg] at HG ⊢
  rw [if_neg (by decide)]
  clear hg
  unfold rsE
  by_cases h0 : rs.length = 0
  · rw [if_pos h0, if_pos (by decide)]
    have h0' : (rs.length : Int) = 0 := by omega
    clear HRO hR hT
    go_enter Try.func15, Try.ntmps15
    go_wp2_with (first | (go_at_call 40; with_reducible refine Calls.mono (HG.out _ (by (repeat (first | with_reducible exact Ext.rfl' _ | with_reducible assumption | with_reducible refine Ext.al ?_ _ | with_reducible refine Ext.dr ?_ | with_reducible refine Ext.st ?_ (by simp) _ | with_reducible refine Ext.tr ?_ (by assumption))))) ?_; rintro e w1 ⟨rfl, hb⟩; have hc := hb.ccell; have hf := hb.frz; have hs := hb.sz; (try simp at hs); (try have hs0 := hs w.heap.size (by omega)); (try have hs1 := hs (w.heap.size + 1) (by omega)); (try have hs2 := hs (w.heap.size + 1 + 1) (by omega)); (try have hs3 := hs (w.heap.size + 1 + 1 + 1) (by omega))))
    go_ret
    exact ⟨rfl, by (repeat (first | with_reducible exact Ext.rfl' _ | with_reducible assumption | with_reducible refine Ext.al ?_ _ | with_reducible refine Ext.dr ?_ | with_reducible refine Ext.st ?_ (by simp) _ | with_reducible refine Ext.tr ?_ (by assumption)))⟩
  rw [if_neg h0]
  have h0' : ((rs.length : Int) == 0) = false := by rw [beq_eq_false_iff_ne]; omega
  have h0'' : ¬ (rs.length : Int) = 0 := by omega
  by_cases h8 : 8 < rs.length
  · rw [if_pos h8, if_pos (by decide)]
    have h8' : (8 : Int) < (rs.length : Int) := by omega
    clear HRO hR hT
    go_enter Try.func15, Try.ntmps15
    go_wp2_with (first | (go_at_call 40; with_reducible refine Calls.mono (HG.out _ (by (repeat (first | with_reducible exact Ext.rfl' _ | with_reducible assumption | with_reducible refine Ext.al ?_ _ | with_reducible refine Ext.dr ?_ | with_reducible refine Ext.st ?_ (by simp) _ | with_reducible refine Ext.tr ?_ (by assumption))))) ?_; rintro e w1 ⟨rfl, hb⟩; have hc := hb.ccell; have hf := hb.frz; have hs := hb.sz; (try simp at hs); (try have hs0 := hs w.heap.size (by omega)); (try have hs1 := hs (w.heap.size + 1) (by omega)); (try have hs2 := hs (w.heap.size + 1 + 1) (by omega)); (try have hs3 := hs (w.heap.size + 1 + 1 + 1) (by omega))))
    go_ret
    exact ⟨rfl, by (repeat (first | with_reducible exact Ext.rfl' _ | with_reducible assumption | with_reducible refine Ext.al ?_ _ | with_reducible refine Ext.dr ?_ | with_reducible refine Ext.st ?_ (by simp) _ | with_reducible refine Ext.tr ?_ (by assumption)))⟩
  rw [if_neg h8]
  have h8' : ¬ (8 : Int) < (rs.length : Int) := by omega
  obtain ⟨E, hE0⟩ : ∃ E, (if firstE (reE rs) rs.length ≠ 0 then firstE (reE rs) rs.length else tksE rs ts) = E := ⟨_, rfl⟩
  rw [hE0]
  have HTE := Lib.hid hE0
  clear hE0 h0 h8
  go_enter Try.func15, Try.ntmps15
  go_wp2_with (first | (go_at_call 40; with_reducible refine Calls.mono (HG.out _ (by (repeat (first | with_reducible exact Ext.rfl' _ | with_reducible assumption | with_reducible refine Ext.al ?_ _ | with_reducible refine Ext.dr ?_ | with_reducible refine Ext.st ?_ (by simp) _ | with_reducible refine Ext.tr ?_ (by assumption))))) ?_; rintro e w1 ⟨rfl, hb⟩; have hc := hb.ccell; have hf := hb.frz; have hs := hb.sz; (try simp at hs); (try have hs0 := hs w.heap.size (by omega)); (try have hs1 := hs (w.heap.size + 1) (by omega)); (try have hs2 := hs (w.heap.size + 1 + 1) (by omega)); (try have hs3 := hs (w.heap.size + 1 + 1 + 1) (by omega))))
  refine wp_name (fun w0 hW0 => ?_)
  have hE0 : Ext w w0 := by rw [hW0]; (repeat (first | with_reducible exact Ext.rfl' _ | with_reducible assumption | with_reducible refine Ext.al ?_ _ | with_reducible refine Ext.dr ?_ | with_reducible refine Ext.st ?_ (by simp) _ | with_reducible refine Ext.tr ?_ (by assumption)))
  have fa : w0.cell? ⟨w.heap.size, 0, none⟩ = some (.slice Ag gs.length cg) := by rw [hW0]; simp [*, go_sem]
  have fb : w0.cell? ⟨w.heap.size, 1, none⟩ = some (.slice Ar rs.length cr) := by rw [hW0]; simp [*, go_sem]
  have fc : w0.cell? ⟨w.heap.size, 2, none⟩ = some (.slice At ts.length ct) := by rw [hW0]; simp [*, go_sem]
  have hz0 : w.heap.size < w0.heap.size := by rw [hW0]; first | assumption | simp
  clear hW0 hc hf hs hb HG
  (try clear hs0); (try clear hs1); (try clear hs2); (try clear hs3)
  go_loopw [4] (fun q wr => Ext w0 wr ∧ ∃ k : Nat, k ≤ rs.length ∧ q = .int .i64 k ∧ Hid (firstE (reE rs) k = 0)) (fun q _ => rs.length - (intOf q).toNat)
  case atStart => exact ⟨Ext.rfl' _, 0, Nat.zero_le _, rfl, rfl⟩
  case round =>
    obtain ⟨hE, k, hk, rfl, hF⟩ := hrel
    have ga := (hE.ccell _ 0 hz0).trans fa
    have gb := (hE.ccell _ 1 hz0).trans fb
    have gc := (hE.ccell _ 2 hz0).trans fc
    have zr := hE.sz _ hz0
    have hEw := hE0.tr hE
    clear fa fb fc hz0
    by_cases hlt : k < rs.length
    · obtain ⟨i, hi⟩ := fst_some rs (el rs k).s
      obtain ⟨hd, hik⟩ := fst_dup hlt hi
      have HRI := Lib.hid (fun w' (hw : Ext w w') => HRO.out (el rs k).s i w' hw hi)
      rw [if_pos (show i < rs.length by omega)] at HRI
      obtain ⟨b, off, rfl, hb0, hcell⟩ := hR.re hlt
      have c1 := hcell _ hEw
      have hz := hEw.sz _ hb0
      have HNM := Lib.hid (reE_name (rs := rs) (k := k))
      have HRS := Lib.hid (reE_rest (rs := rs) (k := k))
      have HN := Lib.hid (fun w => rIsName_c (el rs k).s w)
      rw [name_same] at HN
      have HX := Lib.hid (fun w => within3_c (el rs k).x (-1000000) 1000000 w)
      have HY := Lib.hid (fun w => within3_c (el rs k).lev (-20000) 20000 w)
      have HZ := Lib.hid (fun w => within3_c (el rs k).mi 1 1000 w)
      have HV := Lib.hid (fun w => within3_c (el rs k).cl 0 1000 w)
      have HKI := Lib.hid hik
      have HFE : ∀ q, reE rs k = q → q ≠ 0 → Hid (q = E) := fun q h1 h2 => by
        have : firstE (reE rs) rs.length = q := by rw [firstE_at hlt hF.out (by rw [h1]; exact h2), h1]
        rw [← HTE.out, this, if_pos h2]; exact Lib.hid rfl
      have HFE2 := Lib.hid HFE
      clear hcell hi hik HFE HRO hR hT
      have hkr : (k : Int) < (rs.length : Int) := by omega
      unfold inRe at HRS
      generalize el rs k = r at *
      cases hn : nameB r.s
      · rw [hn] at HN
        have HE := HFE2.out 4 (HNM.out hn) (by decide)
        clear hn
        go_wp2_with (first | (go_at_call 35; with_reducible refine Calls.mono (HN.out _) ?_; rintro e w' ⟨rfl, rfl⟩))
        go_ret
        exact ⟨ret_int HE.out, hEw.tr (by (repeat (first | with_reducible exact Ext.rfl' _ | with_reducible assumption | with_reducible refine Ext.al ?_ _ | with_reducible refine Ext.dr ?_ | with_reducible refine Ext.st ?_ (by simp) _ | with_reducible refine Ext.tr ?_ (by assumption))))⟩
      rw [hn] at HN
      have HRE := Lib.hid (HRS.out hn)
      clear hn HNM HRS
      by_cases hlt2 : i < k
      · rw [decide_eq_true hlt2] at hd
        have HE := HFE2.out 5 (by rw [HRE.out true hd _ rfl]; rfl) (by decide)
        have hik1 : ((i : Int) != (k : Int)) = true := by rw [bne_iff_ne]; omega
        have hik2 : ((i : Int) == (k : Int)) = false := by rw [beq_eq_false_iff_ne]; omega
        clear hd
        go_wp2_with (first | (go_at_call 35; with_reducible refine Calls.mono (HN.out _) ?_; rintro e w' ⟨rfl, rfl⟩) | (go_at_call 17; with_reducible refine Calls.mono (HRI.out _ (hEw.tr (by (repeat (first | with_reducible exact Ext.rfl' _ | with_reducible assumption | with_reducible refine Ext.al ?_ _ | with_reducible refine Ext.dr ?_ | with_reducible refine Ext.st ?_ (by simp) _ | with_reducible refine Ext.tr ?_ (by assumption)))))) ?_; rintro e w1 ⟨rfl, hb⟩; have hc := hb.ccell; have hf := hb.frz; have hs := hb.sz; (try simp at hs); (try have hs0 := hs w.heap.size (by omega)); (try have hs1 := hs (w.heap.size + 1) (by omega)); (try have hs2 := hs (w.heap.size + 1 + 1) (by omega)); (try have hs3 := hs (w.heap.size + 1 + 1 + 1) (by omega))))
        go_ret
        exact ⟨ret_int HE.out, hEw.tr (by (repeat (first | with_reducible exact Ext.rfl' _ | with_reducible assumption | with_reducible refine Ext.al ?_ _ | with_reducible refine Ext.dr ?_ | with_reducible refine Ext.st ?_ (by simp) _ | with_reducible refine Ext.tr ?_ (by assumption))))⟩
      rw [decide_eq_false hlt2] at hd
      have hike : i = k := by have := HKI.out; omega
      subst hike
      have HRE := Lib.hid (HRE.out false hd)
      clear hd hlt2 HKI
      cases q1 : withinB r.x (-1000000) 1000000
      · rw [q1] at HX HRE
        have HE := HFE2.out 2 (by rw [HRE.out false (by simp)]; rfl) (by decide)
        clear q1 HRE
        go_wp2_with (first | (go_at_call 35; with_reducible refine Calls.mono (HN.out _) ?_; rintro e w' ⟨rfl, rfl⟩) | (go_at_call 17; with_reducible refine Calls.mono (HRI.out _ (hEw.tr (by (repeat (first | with_reducible exact Ext.rfl' _ | with_reducible assumption | with_reducible refine Ext.al ?_ _ | with_reducible refine Ext.dr ?_ | with_reducible refine Ext.st ?_ (by simp) _ | with_reducible refine Ext.tr ?_ (by assumption)))))) ?_; rintro e w1 ⟨rfl, hb⟩; have hc := hb.ccell; have hf := hb.frz; have hs := hb.sz; (try simp at hs); (try have hs0 := hs w.heap.size (by omega)); (try have hs1 := hs (w.heap.size + 1) (by omega)); (try have hs2 := hs (w.heap.size + 1 + 1) (by omega)); (try have hs3 := hs (w.heap.size + 1 + 1 + 1) (by omega))) | (go_at_call 18; with_reducible refine Calls.mono (HX.out _) ?_; rintro e w' ⟨rfl, rfl⟩))
        go_ret
        exact ⟨ret_int HE.out, hEw.tr (by (repeat (first | with_reducible exact Ext.rfl' _ | with_reducible assumption | with_reducible refine Ext.al ?_ _ | with_reducible refine Ext.dr ?_ | with_reducible refine Ext.st ?_ (by simp) _ | with_reducible refine Ext.tr ?_ (by assumption))))⟩
      rw [q1] at HX HRE
      cases q2 : withinB r.lev (-20000) 20000
      · rw [q2] at HY HRE
        have HE := HFE2.out 2 (by rw [HRE.out false (by simp)]; rfl) (by decide)
        clear q1 q2 HRE
        go_wp2_with (first | (go_at_call 35; with_reducible refine Calls.mono (HN.out _) ?_; rintro e w' ⟨rfl, rfl⟩) | (go_at_call 17; with_reducible refine Calls.mono (HRI.out _ (hEw.tr (by (repeat (first | with_reducible exact Ext.rfl' _ | with_reducible assumption | with_reducible refine Ext.al ?_ _ | with_reducible refine Ext.dr ?_ | with_reducible refine Ext.st ?_ (by simp) _ | with_reducible refine Ext.tr ?_ (by assumption)))))) ?_; rintro e w1 ⟨rfl, hb⟩; have hc := hb.ccell; have hf := hb.frz; have hs := hb.sz; (try simp at hs); (try have hs0 := hs w.heap.size (by omega)); (try have hs1 := hs (w.heap.size + 1) (by omega)); (try have hs2 := hs (w.heap.size + 1 + 1) (by omega)); (try have hs3 := hs (w.heap.size + 1 + 1 + 1) (by omega))) | (go_at_call 18; with_reducible refine Calls.mono (HX.out _) ?_; rintro e w' ⟨rfl, rfl⟩) | (go_at_call 18; with_reducible refine Calls.mono (HY.out _) ?_; rintro e w' ⟨rfl, rfl⟩))
        go_ret
        exact ⟨ret_int HE.out, hEw.tr (by (repeat (first | with_reducible exact Ext.rfl' _ | with_reducible assumption | with_reducible refine Ext.al ?_ _ | with_reducible refine Ext.dr ?_ | with_reducible refine Ext.st ?_ (by simp) _ | with_reducible refine Ext.tr ?_ (by assumption))))⟩
      rw [q2] at HY HRE
      cases q3 : withinB r.mi 1 1000
      · rw [q3] at HZ HRE
        have HE := HFE2.out 2 (by rw [HRE.out false (by simp)]; rfl) (by decide)
        clear q1 q2 q3 HRE
        go_wp2_with (first | (go_at_call 35; with_reducible refine Calls.mono (HN.out _) ?_; rintro e w' ⟨rfl, rfl⟩) | (go_at_call 17; with_reducible refine Calls.mono (HRI.out _ (hEw.tr (by (repeat (first | with_reducible exact Ext.rfl' _ | with_reducible assumption | with_reducible refine Ext.al ?_ _ | with_reducible refine Ext.dr ?_ | with_reducible refine Ext.st ?_ (by simp) _ | with_reducible refine Ext.tr ?_ (by assumption)))))) ?_; rintro e w1 ⟨rfl, hb⟩; have hc := hb.ccell; have hf := hb.frz; have hs := hb.sz; (try simp at hs); (try have hs0 := hs w.heap.size (by omega)); (try have hs1 := hs (w.heap.size + 1) (by omega)); (try have hs2 := hs (w.heap.size + 1 + 1) (by omega)); (try have hs3 := hs (w.heap.size + 1 + 1 + 1) (by omega))) | (go_at_call 18; with_reducible refine Calls.mono (HX.out _) ?_; rintro e w' ⟨rfl, rfl⟩) | (go_at_call 18; with_reducible refine Calls.mono (HY.out _) ?_; rintro e w' ⟨rfl, rfl⟩) | (go_at_call 18; with_reducible refine Calls.mono (HZ.out _) ?_; rintro e w' ⟨rfl, rfl⟩))
        go_ret
        exact ⟨ret_int HE.out, hEw.tr (by (repeat (first | with_reducible exact Ext.rfl' _ | with_reducible assumption | with_reducible refine Ext.al ?_ _ | with_reducible refine Ext.dr ?_ | with_reducible refine Ext.st ?_ (by simp) _ | with_reducible refine Ext.tr ?_ (by assumption))))⟩
      rw [q3] at HZ HRE
      cases q4 : withinB r.cl 0 1000
      · rw [q4] at HV HRE
        have HE := HFE2.out 2 (by rw [HRE.out false (by simp)]; rfl) (by decide)
        clear q1 q2 q3 q4 HRE
        go_wp2_with (first | (go_at_call 35; with_reducible refine Calls.mono (HN.out _) ?_; rintro e w' ⟨rfl, rfl⟩) | (go_at_call 17; with_reducible refine Calls.mono (HRI.out _ (hEw.tr (by (repeat (first | with_reducible exact Ext.rfl' _ | with_reducible assumption | with_reducible refine Ext.al ?_ _ | with_reducible refine Ext.dr ?_ | with_reducible refine Ext.st ?_ (by simp) _ | with_reducible refine Ext.tr ?_ (by assumption)))))) ?_; rintro e w1 ⟨rfl, hb⟩; have hc := hb.ccell; have hf := hb.frz; have hs := hb.sz; (try simp at hs); (try have hs0 := hs w.heap.size (by omega)); (try have hs1 := hs (w.heap.size + 1) (by omega)); (try have hs2 := hs (w.heap.size + 1 + 1) (by omega)); (try have hs3 := hs (w.heap.size + 1 + 1 + 1) (by omega))) | (go_at_call 18; with_reducible refine Calls.mono (HX.out _) ?_; rintro e w' ⟨rfl, rfl⟩) | (go_at_call 18; with_reducible refine Calls.mono (HY.out _) ?_; rintro e w' ⟨rfl, rfl⟩) | (go_at_call 18; with_reducible refine Calls.mono (HZ.out _) ?_; rintro e w' ⟨rfl, rfl⟩) | (go_at_call 18; with_reducible refine Calls.mono (HV.out _) ?_; rintro e w' ⟨rfl, rfl⟩))
        go_ret
        exact ⟨ret_int HE.out, hEw.tr (by (repeat (first | with_reducible exact Ext.rfl' _ | with_reducible assumption | with_reducible refine Ext.al ?_ _ | with_reducible refine Ext.dr ?_ | with_reducible refine Ext.st ?_ (by simp) _ | with_reducible refine Ext.tr ?_ (by assumption))))⟩
      rw [q4] at HV HRE
      have HE : Hid (reE rs i = 0) := Lib.hid (by rw [HRE.out true (by simp)]; rfl)
      clear q1 q2 q3 q4 HRE HFE2
      go_wp2_with (first | (go_at_call 35; with_reducible refine Calls.mono (HN.out _) ?_; rintro e w' ⟨rfl, rfl⟩) | (go_at_call 17; with_reducible refine Calls.mono (HRI.out _ (hEw.tr (by (repeat (first | with_reducible exact Ext.rfl' _ | with_reducible assumption | with_reducible refine Ext.al ?_ _ | with_reducible refine Ext.dr ?_ | with_reducible refine Ext.st ?_ (by simp) _ | with_reducible refine Ext.tr ?_ (by assumption)))))) ?_; rintro e w1 ⟨rfl, hb⟩; have hc := hb.ccell; have hf := hb.frz; have hs := hb.sz; (try simp at hs); (try have hs0 := hs w.heap.size (by omega)); (try have hs1 := hs (w.heap.size + 1) (by omega)); (try have hs2 := hs (w.heap.size + 1 + 1) (by omega)); (try have hs3 := hs (w.heap.size + 1 + 1 + 1) (by omega))) | (go_at_call 18; with_reducible refine Calls.mono (HX.out _) ?_; rintro e w' ⟨rfl, rfl⟩) | (go_at_call 18; with_reducible refine Calls.mono (HY.out _) ?_; rintro e w' ⟨rfl, rfl⟩) | (go_at_call 18; with_reducible refine Calls.mono (HZ.out _) ?_; rintro e w' ⟨rfl, rfl⟩) | (go_at_call 18; with_reducible refine Calls.mono (HV.out _) ?_; rintro e w' ⟨rfl, rfl⟩))
      exact ⟨⟨hE.tr (by (repeat (first | with_reducible exact Ext.rfl' _ | with_reducible assumption | with_reducible refine Ext.al ?_ _ | with_reducible refine Ext.dr ?_ | with_reducible refine Ext.st ?_ (by simp) _ | with_reducible refine Ext.tr ?_ (by assumption)))), i + 1, by omega, by go_num, firstE_step hF.out HE.out⟩, by simp [intOf]; omega⟩
    · have hks : k = rs.length := by omega
      have hT0 : tksE rs ts = E := by rw [← HTE.out, ← hks, hF.out, if_neg (by decide)]
      have HT2 := Lib.hid hT0
      have hkr : ¬ (k : Int) < (rs.length : Int) := by omega
      clear hT0 hF hks HTE
      unfold tksE at HT2
      by_cases h6 : 60 < ts.length
      · rw [if_pos h6] at HT2
        have h6' : (60 : Int) < (ts.length : Int) := by omega
        go_wp2
        go_ret
        exact ⟨ret_int HT2.out, hEw.tr (by (repeat (first | with_reducible exact Ext.rfl' _ | with_reducible assumption | with_reducible refine Ext.al ?_ _ | with_reducible refine Ext.dr ?_ | with_reducible refine Ext.st ?_ (by simp) _ | with_reducible refine Ext.tr ?_ (by assumption))))⟩
      rw [if_neg h6] at HT2
      have h6' : ¬ (60 : Int) < (ts.length : Int) := by omega
      obtain ⟨wo, hwo⟩ : ∃ wo, wo = wr := ⟨_, rfl⟩
      subst hwo
      clear hE
      go_wp2
      go_loopw [6] (fun q w2 => Ext wo w2 ∧ ∃ m : Nat, m ≤ ts.length ∧ q = .int .i64 m ∧ Hid (firstE (tkE rs ts) m = 0)) (fun q _ => ts.length - (intOf q).toNat)
      case atStart => exact ⟨Ext.rfl' _, 0, Nat.zero_le _, rfl, rfl⟩
      case round =>
        obtain ⟨hE, m, hm, rfl, hF⟩ := hrel
        have ha := (hE.ccell _ 0 zr).trans ga
        have hb := (hE.ccell _ 1 zr).trans gb
        have hc := (hE.ccell _ 2 zr).trans gc
        have zr2 := hE.sz _ zr
        have hEx := hEw.tr hE
        clear ga gb gc zr hEw
        by_cases hlt : m < ts.length
        · obtain ⟨i, hi⟩ := fst_some rs (el ts m).s
          have hh := fst_has hi
          have HRI := Lib.hid (fun w' (hw : Ext w w') => HRO.out (el ts m).s i w' hw hi)
          obtain ⟨b, off, rfl, hb0, hcell⟩ := hT.tk hlt
          have c1 := hcell _ hEx
          have hz := hEx.sz _ hb0
          have HTH := Lib.hid (tkE_has (rs := rs) (ts := ts) (k := m))
          have HTI := Lib.hid (tkE_in (rs := rs) (ts := ts) (k := m))
          have HFE : ∀ q, tkE rs ts m = q → q ≠ 0 → Hid (q = E) := fun q h1 h2 => by
            rw [← HT2.out, firstE_at hlt hF.out (by rw [h1]; exact h2), h1]; exact Lib.hid rfl
          have HFE2 := Lib.hid HFE
          clear hcell hi HFE HRO hR hT
          have hmz : (m : Int) < (ts.length : Int) := by omega
          unfold inTk withinB at HTI
          generalize el ts m = t at *
          by_cases hir : i < rs.length
          case neg =>
            rw [if_neg hir] at HRI
            rw [decide_eq_false hir] at hh
            have HE := HFE2.out 6 (HTH.out hh) (by decide)
            clear hh
            go_wp2_with (first | (go_at_call 17; with_reducible refine Calls.mono (HRI.out _ (hEx.tr (by (repeat (first | with_reducible exact Ext.rfl' _ | with_reducible assumption | with_reducible refine Ext.al ?_ _ | with_reducible refine Ext.dr ?_ | with_reducible refine Ext.st ?_ (by simp) _ | with_reducible refine Ext.tr ?_ (by assumption)))))) ?_; rintro e w1 ⟨rfl, hb⟩; have hc := hb.ccell; have hf := hb.frz; have hs := hb.sz; (try simp at hs); (try have hs0 := hs w.heap.size (by omega)); (try have hs1 := hs (w.heap.size + 1) (by omega)); (try have hs2 := hs (w.heap.size + 1 + 1) (by omega)); (try have hs3 := hs (w.heap.size + 1 + 1 + 1) (by omega))))
            go_ret
            exact ⟨ret_int HE.out, hEx.tr (by (repeat (first | with_reducible exact Ext.rfl' _ | with_reducible assumption | with_reducible refine Ext.al ?_ _ | with_reducible refine Ext.dr ?_ | with_reducible refine Ext.st ?_ (by simp) _ | with_reducible refine Ext.tr ?_ (by assumption))))⟩
          rw [if_pos hir] at HRI
          rw [decide_eq_true hir] at hh
          have HI := Lib.hid (HTI.out hh)
          have hi0 : ¬ (i : Int) < 0 := by omega
          clear hh HTI HTH
          by_cases q1 : t.a < 0
          · have HE := HFE2.out 2 (by rw [HI.out false (by simp; omega)]; rfl) (by decide)
            clear HI HFE2
            go_wp2_with (first | (go_at_call 17; with_reducible refine Calls.mono (HRI.out _ (hEx.tr (by (repeat (first | with_reducible exact Ext.rfl' _ | with_reducible assumption | with_reducible refine Ext.al ?_ _ | with_reducible refine Ext.dr ?_ | with_reducible refine Ext.st ?_ (by simp) _ | with_reducible refine Ext.tr ?_ (by assumption)))))) ?_; rintro e w1 ⟨rfl, hb⟩; have hc := hb.ccell; have hf := hb.frz; have hs := hb.sz; (try simp at hs); (try have hs0 := hs w.heap.size (by omega)); (try have hs1 := hs (w.heap.size + 1) (by omega)); (try have hs2 := hs (w.heap.size + 1 + 1) (by omega)); (try have hs3 := hs (w.heap.size + 1 + 1 + 1) (by omega))))
            go_ret
            exact ⟨ret_int HE.out, hEx.tr (by (repeat (first | with_reducible exact Ext.rfl' _ | with_reducible assumption | with_reducible refine Ext.al ?_ _ | with_reducible refine Ext.dr ?_ | with_reducible refine Ext.st ?_ (by simp) _ | with_reducible refine Ext.tr ?_ (by assumption))))⟩
          by_cases q2 : t.b < t.a
          · have HE := HFE2.out 2 (by rw [HI.out false (by simp; omega)]; rfl) (by decide)
            clear HI HFE2
            go_wp2_with (first | (go_at_call 17; with_reducible refine Calls.mono (HRI.out _ (hEx.tr (by (repeat (first | with_reducible exact Ext.rfl' _ | with_reducible assumption | with_reducible refine Ext.al ?_ _ | with_reducible refine Ext.dr ?_ | with_reducible refine Ext.st ?_ (by simp) _ | with_reducible refine Ext.tr ?_ (by assumption)))))) ?_; rintro e w1 ⟨rfl, hb⟩; have hc := hb.ccell; have hf := hb.frz; have hs := hb.sz; (try simp at hs); (try have hs0 := hs w.heap.size (by omega)); (try have hs1 := hs (w.heap.size + 1) (by omega)); (try have hs2 := hs (w.heap.size + 1 + 1) (by omega)); (try have hs3 := hs (w.heap.size + 1 + 1 + 1) (by omega))))
            go_ret
            exact ⟨ret_int HE.out, hEx.tr (by (repeat (first | with_reducible exact Ext.rfl' _ | with_reducible assumption | with_reducible refine Ext.al ?_ _ | with_reducible refine Ext.dr ?_ | with_reducible refine Ext.st ?_ (by simp) _ | with_reducible refine Ext.tr ?_ (by assumption))))⟩
          by_cases q3 : 1000000 < t.b
          · have HE := HFE2.out 2 (by rw [HI.out false (by simp; omega)]; rfl) (by decide)
            clear HI HFE2
            go_wp2_with (first | (go_at_call 17; with_reducible refine Calls.mono (HRI.out _ (hEx.tr (by (repeat (first | with_reducible exact Ext.rfl' _ | with_reducible assumption | with_reducible refine Ext.al ?_ _ | with_reducible refine Ext.dr ?_ | with_reducible refine Ext.st ?_ (by simp) _ | with_reducible refine Ext.tr ?_ (by assumption)))))) ?_; rintro e w1 ⟨rfl, hb⟩; have hc := hb.ccell; have hf := hb.frz; have hs := hb.sz; (try simp at hs); (try have hs0 := hs w.heap.size (by omega)); (try have hs1 := hs (w.heap.size + 1) (by omega)); (try have hs2 := hs (w.heap.size + 1 + 1) (by omega)); (try have hs3 := hs (w.heap.size + 1 + 1 + 1) (by omega))))
            go_ret
            exact ⟨ret_int HE.out, hEx.tr (by (repeat (first | with_reducible exact Ext.rfl' _ | with_reducible assumption | with_reducible refine Ext.al ?_ _ | with_reducible refine Ext.dr ?_ | with_reducible refine Ext.st ?_ (by simp) _ | with_reducible refine Ext.tr ?_ (by assumption))))⟩
          have HE : Hid (tkE rs ts m = 0) := Lib.hid (by rw [HI.out true (by simp; omega)]; rfl)
          clear HI HFE2
          go_wp2_with (first | (go_at_call 17; with_reducible refine Calls.mono (HRI.out _ (hEx.tr (by (repeat (first | with_reducible exact Ext.rfl' _ | with_reducible assumption | with_reducible refine Ext.al ?_ _ | with_reducible refine Ext.dr ?_ | with_reducible refine Ext.st ?_ (by simp) _ | with_reducible refine Ext.tr ?_ (by assumption)))))) ?_; rintro e w1 ⟨rfl, hb⟩; have hc := hb.ccell; have hf := hb.frz; have hs := hb.sz; (try simp at hs); (try have hs0 := hs w.heap.size (by omega)); (try have hs1 := hs (w.heap.size + 1) (by omega)); (try have hs2 := hs (w.heap.size + 1 + 1) (by omega)); (try have hs3 := hs (w.heap.size + 1 + 1 + 1) (by omega))))
          exact ⟨⟨hE.tr (by (repeat (first | with_reducible exact Ext.rfl' _ | with_reducible assumption | with_reducible refine Ext.al ?_ _ | with_reducible refine Ext.dr ?_ | with_reducible refine Ext.st ?_ (by simp) _ | with_reducible refine Ext.tr ?_ (by assumption)))), m + 1, by omega, by go_num, firstE_step hF.out HE.out⟩, by simp [intOf]; omega⟩
        · have hms : m = ts.length := by omega
          have hT3 := HT2.out
          rw [← hms, hF.out] at hT3
          have HT3 := Lib.hid hT3
          clear hT3 hF HRO hR hT
          go_wp2
          go_ret
          exact ⟨ret_int HT3.out, hEx.tr (by (repeat (first | with_reducible exact Ext.rfl' _ | with_reducible assumption | with_reducible refine Ext.al ?_ _ | with_reducible refine Ext.dr ?_ | with_reducible refine Ext.st ?_ (by simp) _ | with_reducible refine Ext.tr ?_ (by assumption))))⟩

theorem short_marks {gs : List Ga} {w : World} (h : shortAllB gs = true) (hM : ∀ k (hk : k < gs.length), Row 2 encP w gs[k].A gs[k].l) : gs.length ≤ 1000 ∧ Marks w gs := by
  unfold shortAllB at h
  rw [Bool.and_eq_true, decide_eq_true_eq] at h
  refine ⟨by omega, fun k hk => ⟨?_, hM k hk⟩⟩
  have h2 := h.2
  unfold shortG at h2
  rw [List.all_eq_true] at h2
  have h3 := h2 gs[k] (List.getElem_mem hk)
  unfold shortB at h3
  simp at h3
  omega
def longR (rs : List Re) (k : Nat) : Bool := decide (40 < (el rs k).s.size)
def longT (ts : List Tk) (k : Nat) : Bool := decide (40 < (el ts k).s.size)
/-- What the statements look at. -/
def plainB (gs : List Ga) (rs : List Re) (ts : List Tk) : Bool :=
  shortAllB gs && (decide (rs.length ≤ 10) && (!(decide (12 < ts.length) && decide (ts.length ≤ 60)) && (decide (ts.length ≤ 70) && (!anyN (longR rs) rs.length && !anyN (longT ts) ts.length))))
set_option maxHeartbeats 8000000 in
set_option maxRecDepth 100000 in
theorem plain_c (gs : List Ga) (rs : List Re) (ts : List Tk) (w : World) (Ag Ar At : Option Addr) (cg cr ct : Nat) (hG : Row 4 encG w Ag gs) (hR : Row 7 encRe w Ar rs) (hT : Row 3 encTk w At ts) :
    Calls Try.prog 13 #[.agg #[.slice Ag gs.length cg, .slice Ar rs.length cr, .slice At ts.length ct]] w fun e w' => e = .returned (.bool (plainB gs rs ts)) ∧ Ext w w' := by
  have HS := Lib.hid (fun w' (hw : Ext w w') => shortAll_c gs w' Ag cg (hG.ext hw))
  unfold plainB
  clear hG
  cases hsh : shortAllB gs
  · rw [hsh] at HS
    clear hsh hR hT
    go_enter Try.func13, Try.ntmps13
    go_wp2_with (first | (go_at_call 36; with_reducible refine Calls.mono (HS.out _ (by (repeat (first | with_reducible exact Ext.rfl' _ | with_reducible assumption | with_reducible refine Ext.al ?_ _ | with_reducible refine Ext.dr ?_ | with_reducible refine Ext.st ?_ (by simp) _ | with_reducible refine Ext.tr ?_ (by assumption))))) ?_; rintro e w1 ⟨rfl, hb⟩; have hc := hb.ccell; have hf := hb.frz; have hs := hb.sz; (try simp at hs); (try have hs0 := hs w.heap.size (by omega)); (try have hs1 := hs (w.heap.size + 1) (by omega)); (try have hs2 := hs (w.heap.size + 1 + 1) (by omega)); (try have hs3 := hs (w.heap.size + 1 + 1 + 1) (by omega))))
    go_ret
    exact ⟨rfl, by (repeat (first | with_reducible exact Ext.rfl' _ | with_reducible assumption | with_reducible refine Ext.al ?_ _ | with_reducible refine Ext.dr ?_ | with_reducible refine Ext.st ?_ (by simp) _ | with_reducible refine Ext.tr ?_ (by assumption)))⟩
  rw [hsh] at HS
  clear hsh
  by_cases r10 : rs.length ≤ 10
  case neg =>
    rw [decide_eq_false r10]
    have r10' : (10 : Int) < (rs.length : Int) := by omega
    clear hR hT
    go_enter Try.func13, Try.ntmps13
    go_wp2_with (first | (go_at_call 36; with_reducible refine Calls.mono (HS.out _ (by (repeat (first | with_reducible exact Ext.rfl' _ | with_reducible assumption | with_reducible refine Ext.al ?_ _ | with_reducible refine Ext.dr ?_ | with_reducible refine Ext.st ?_ (by simp) _ | with_reducible refine Ext.tr ?_ (by assumption))))) ?_; rintro e w1 ⟨rfl, hb⟩; have hc := hb.ccell; have hf := hb.frz; have hs := hb.sz; (try simp at hs); (try have hs0 := hs w.heap.size (by omega)); (try have hs1 := hs (w.heap.size + 1) (by omega)); (try have hs2 := hs (w.heap.size + 1 + 1) (by omega)); (try have hs3 := hs (w.heap.size + 1 + 1 + 1) (by omega))))
    go_ret
    exact ⟨rfl, by (repeat (first | with_reducible exact Ext.rfl' _ | with_reducible assumption | with_reducible refine Ext.al ?_ _ | with_reducible refine Ext.dr ?_ | with_reducible refine Ext.st ?_ (by simp) _ | with_reducible refine Ext.tr ?_ (by assumption)))⟩
  rw [decide_eq_true r10]
  have r10' : ¬ (10 : Int) < (rs.length : Int) := by omega
  by_cases t12 : 12 < ts.length ∧ ts.length ≤ 60
  · rw [decide_eq_true t12.1, decide_eq_true t12.2]
    have t1 : (12 : Int) < (ts.length : Int) := by omega
    have t2 : (ts.length : Int) ≤ 60 := by omega
    clear hR hT
    go_enter Try.func13, Try.ntmps13
    go_wp2_with (first | (go_at_call 36; with_reducible refine Calls.mono (HS.out _ (by (repeat (first | with_reducible exact Ext.rfl' _ | with_reducible assumption | with_reducible refine Ext.al ?_ _ | with_reducible refine Ext.dr ?_ | with_reducible refine Ext.st ?_ (by simp) _ | with_reducible refine Ext.tr ?_ (by assumption))))) ?_; rintro e w1 ⟨rfl, hb⟩; have hc := hb.ccell; have hf := hb.frz; have hs := hb.sz; (try simp at hs); (try have hs0 := hs w.heap.size (by omega)); (try have hs1 := hs (w.heap.size + 1) (by omega)); (try have hs2 := hs (w.heap.size + 1 + 1) (by omega)); (try have hs3 := hs (w.heap.size + 1 + 1 + 1) (by omega))))
    go_ret
    exact ⟨rfl, by (repeat (first | with_reducible exact Ext.rfl' _ | with_reducible assumption | with_reducible refine Ext.al ?_ _ | with_reducible refine Ext.dr ?_ | with_reducible refine Ext.st ?_ (by simp) _ | with_reducible refine Ext.tr ?_ (by assumption)))⟩
  have e12 : (decide (12 < ts.length) && decide (ts.length ≤ 60)) = false := by rw [Bool.and_eq_false_iff, decide_eq_false_iff_not, decide_eq_false_iff_not]; omega
  rw [e12]
  by_cases t70 : ts.length ≤ 70
  case neg =>
    rw [decide_eq_false t70]
    have t1 : (12 : Int) < (ts.length : Int) := by omega
    have t2 : ¬ (ts.length : Int) ≤ 60 := by omega
    have t3 : (70 : Int) < (ts.length : Int) := by omega
    clear hR hT e12
    go_enter Try.func13, Try.ntmps13
    go_wp2_with (first | (go_at_call 36; with_reducible refine Calls.mono (HS.out _ (by (repeat (first | with_reducible exact Ext.rfl' _ | with_reducible assumption | with_reducible refine Ext.al ?_ _ | with_reducible refine Ext.dr ?_ | with_reducible refine Ext.st ?_ (by simp) _ | with_reducible refine Ext.tr ?_ (by assumption))))) ?_; rintro e w1 ⟨rfl, hb⟩; have hc := hb.ccell; have hf := hb.frz; have hs := hb.sz; (try simp at hs); (try have hs0 := hs w.heap.size (by omega)); (try have hs1 := hs (w.heap.size + 1) (by omega)); (try have hs2 := hs (w.heap.size + 1 + 1) (by omega)); (try have hs3 := hs (w.heap.size + 1 + 1 + 1) (by omega))))
    go_ret
    exact ⟨rfl, by (repeat (first | with_reducible exact Ext.rfl' _ | with_reducible assumption | with_reducible refine Ext.al ?_ _ | with_reducible refine Ext.dr ?_ | with_reducible refine Ext.st ?_ (by simp) _ | with_reducible refine Ext.tr ?_ (by assumption)))⟩
  rw [decide_eq_true t70]
  have t3 : ¬ (70 : Int) < (ts.length : Int) := by omega
  obtain ⟨D, hD⟩ : ∃ D, (!anyN (longR rs) rs.length && !anyN (longT ts) ts.length) = D := ⟨_, rfl⟩
  simp only [Bool.not_false, Bool.true_and]
  rw [hD]
  have HD := Lib.hid hD
  have ht : ¬ (12 : Int) < (ts.length : Int) ∨ ((12 : Int) < (ts.length : Int) ∧ ¬ (ts.length : Int) ≤ 60) := by omega
  clear hD e12 t12 t70 r10
  rcases ht with t1 | ⟨t1, t2⟩
  all_goals
    go_enter Try.func13, Try.ntmps13
    go_wp2_with (first | (go_at_call 36; with_reducible refine Calls.mono (HS.out _ (by (repeat (first | with_reducible exact Ext.rfl' _ | with_reducible assumption | with_reducible refine Ext.al ?_ _ | with_reducible refine Ext.dr ?_ | with_reducible refine Ext.st ?_ (by simp) _ | with_reducible refine Ext.tr ?_ (by assumption))))) ?_; rintro e w1 ⟨rfl, hb⟩; have hc := hb.ccell; have hf := hb.frz; have hs := hb.sz; (try simp at hs); (try have hs0 := hs w.heap.size (by omega)); (try have hs1 := hs (w.heap.size + 1) (by omega)); (try have hs2 := hs (w.heap.size + 1 + 1) (by omega)); (try have hs3 := hs (w.heap.size + 1 + 1 + 1) (by omega))))
    refine wp_name (fun w0 hW0 => ?_)
    have hE0 : Ext w w0 := by rw [hW0]; (repeat (first | with_reducible exact Ext.rfl' _ | with_reducible assumption | with_reducible refine Ext.al ?_ _ | with_reducible refine Ext.dr ?_ | with_reducible refine Ext.st ?_ (by simp) _ | with_reducible refine Ext.tr ?_ (by assumption)))
    have fb : w0.cell? ⟨w.heap.size, 1, none⟩ = some (.slice Ar rs.length cr) := by rw [hW0]; simp [*, go_sem]
    have fc : w0.cell? ⟨w.heap.size, 2, none⟩ = some (.slice At ts.length ct) := by rw [hW0]; simp [*, go_sem]
    have hz0 : w.heap.size < w0.heap.size := by rw [hW0]; first | assumption | simp
    clear hW0 hc hf hs hb HS
    (try clear hs0); (try clear hs1); (try clear hs2); (try clear hs3)
    go_loopw [3] (fun q wr => Ext w0 wr ∧ ∃ k : Nat, k ≤ rs.length ∧ q = .int .i64 k ∧ Hid (anyN (longR rs) k = false)) (fun q _ => rs.length - (intOf q).toNat)
    case atStart => exact ⟨Ext.rfl' _, 0, Nat.zero_le _, rfl, rfl⟩
    case round =>
      obtain ⟨hE, k, hk, rfl, hF⟩ := hrel
      have gb := (hE.ccell _ 1 hz0).trans fb
      have gc := (hE.ccell _ 2 hz0).trans fc
      have zr := hE.sz _ hz0
      have hEw := hE0.tr hE
      clear fb fc hz0
      by_cases hlt : k < rs.length
      · obtain ⟨b, off, rfl, hb0, hcell⟩ := hR.re hlt
        have c1 := (hcell _ hEw).1
        have hz := hEw.sz _ hb0
        have HL : Hid (longR rs k = decide (40 < (el rs k).s.size)) := rfl
        have hkr : (k : Int) < (rs.length : Int) := by omega
        clear hcell hR hT
        generalize el rs k = r at *
        by_cases h40 : 40 < r.s.size
        · have h40' : (40 : Int) < (r.s.size : Int) := by omega
          have HL2 : Hid (longR rs k = true) := Lib.hid (by rw [HL.out, decide_eq_true h40])
          go_wp2
          go_ret
          exact ⟨ret_bool (by rw [← HD.out, anyN_at _ hlt HL2.out]; rfl), hEw.tr (by (repeat (first | with_reducible exact Ext.rfl' _ | with_reducible assumption | with_reducible refine Ext.al ?_ _ | with_reducible refine Ext.dr ?_ | with_reducible refine Ext.st ?_ (by simp) _ | with_reducible refine Ext.tr ?_ (by assumption))))⟩
        · have h40' : ¬ (40 : Int) < (r.s.size : Int) := by omega
          have HL2 : Hid (longR rs k = false) := Lib.hid (by rw [HL.out, decide_eq_false h40])
          go_wp2
          exact ⟨⟨hE.tr (by (repeat (first | with_reducible exact Ext.rfl' _ | with_reducible assumption | with_reducible refine Ext.al ?_ _ | with_reducible refine Ext.dr ?_ | with_reducible refine Ext.st ?_ (by simp) _ | with_reducible refine Ext.tr ?_ (by assumption)))), k + 1, by omega, by go_num, by show anyN _ (k + 1) = false; rw [anyN, hF.out, HL2.out]; rfl⟩, by simp [intOf]; omega⟩
      · have hks : k = rs.length := by omega
        have hT0 : (!anyN (longT ts) ts.length) = D := by rw [← HD.out, ← hks, hF.out]; rfl
        have HT2 := Lib.hid hT0
        have hkr : ¬ (k : Int) < (rs.length : Int) := by omega
        clear hT0 hF hks HD hR
        obtain ⟨wo, hwo⟩ : ∃ wo, wo = wr := ⟨_, rfl⟩
        subst hwo
        clear hE
        go_wp2
        go_loopw [4] (fun q w2 => Ext wo w2 ∧ ∃ m : Nat, m ≤ ts.length ∧ q = .int .i64 m ∧ Hid (anyN (longT ts) m = false)) (fun q _ => ts.length - (intOf q).toNat)
        case atStart => exact ⟨Ext.rfl' _, 0, Nat.zero_le _, rfl, rfl⟩
        case round =>
          obtain ⟨hE, m, hm, rfl, hF⟩ := hrel
          have hc := (hE.ccell _ 2 zr).trans gc
          have zr2 := hE.sz _ zr
          have hEx := hEw.tr hE
          clear gb gc zr hEw
          by_cases hlt : m < ts.length
          · obtain ⟨b, off, rfl, hb0, hcell⟩ := hT.tk hlt
            have c1 := (hcell _ hEx).1
            have hz := hEx.sz _ hb0
            have HL : Hid (longT ts m = decide (40 < (el ts m).s.size)) := rfl
            have hkr : (m : Int) < (ts.length : Int) := by omega
            clear hcell hT
            generalize el ts m = r at *
            by_cases h40 : 40 < r.s.size
            · have h40' : (40 : Int) < (r.s.size : Int) := by omega
              have HL2 : Hid (longT ts m = true) := Lib.hid (by rw [HL.out, decide_eq_true h40])
              go_wp2
              go_ret
              exact ⟨ret_bool (by rw [← HT2.out, anyN_at _ hlt HL2.out]; rfl), hEx.tr (by (repeat (first | with_reducible exact Ext.rfl' _ | with_reducible assumption | with_reducible refine Ext.al ?_ _ | with_reducible refine Ext.dr ?_ | with_reducible refine Ext.st ?_ (by simp) _ | with_reducible refine Ext.tr ?_ (by assumption))))⟩
            · have h40' : ¬ (40 : Int) < (r.s.size : Int) := by omega
              have HL2 : Hid (longT ts m = false) := Lib.hid (by rw [HL.out, decide_eq_false h40])
              go_wp2
              exact ⟨⟨hE.tr (by (repeat (first | with_reducible exact Ext.rfl' _ | with_reducible assumption | with_reducible refine Ext.al ?_ _ | with_reducible refine Ext.dr ?_ | with_reducible refine Ext.st ?_ (by simp) _ | with_reducible refine Ext.tr ?_ (by assumption)))), m + 1, by omega, by go_num, by show anyN _ (m + 1) = false; rw [anyN, hF.out, HL2.out]; rfl⟩, by simp [intOf]; omega⟩
          · have hms : m = ts.length := by omega
            have hT3 := HT2.out
            rw [← hms, hF.out] at hT3
            have HT3 := Lib.hid hT3
            clear hT3 hF hT
            go_wp2
            go_ret
            exact ⟨ret_bool HT3.out, hEx.tr (by (repeat (first | with_reducible exact Ext.rfl' _ | with_reducible assumption | with_reducible refine Ext.al ?_ _ | with_reducible refine Ext.dr ?_ | with_reducible refine Ext.st ?_ (by simp) _ | with_reducible refine Ext.tr ?_ (by assumption))))⟩
end Go.Proofs.Ytmhmfjgahhgbpaa
