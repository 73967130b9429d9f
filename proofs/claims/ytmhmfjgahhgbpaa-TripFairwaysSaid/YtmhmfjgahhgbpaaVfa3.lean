/- The contracts of checkClosures, CheckFairway. -/
import Derived.Test.YtmhmfjgahhgbpaaVfa2
namespace Go.Proofs.Ytmhmfjgahhgbpaa
open Go Go.RowKit Go.IntWalk

def encZ (n : Int) : List Value := [.int .i64 n]
theorem encZ_len (n : Int) : (encZ n).length = 1 := rfl
theorem Row.z1 {w : World} {A : Option Addr} {l : List Int} (h : Row 1 encZ w A l) {k : Nat} (hk : k < l.length) :
    ∃ b off, A = some ⟨b, off, none⟩ ∧ b < w.heap.size ∧ ∀ w', Ext w w' → w'.cell? ⟨b, off + k, none⟩ = some (.int .i64 l[k]) := by
  obtain ⟨b, off, h1, h2, h3⟩ := h.addr (by omega)
  exact ⟨b, off, h1, h2, fun w' hw => by have := h3 w' hw k hk 0 _ rfl; simpa using this⟩
set_option maxHeartbeats 2000000 in
theorem or_c (l : List Int) (w : World) (A : Option Addr) (c : Nat) (hl : l.length ≤ 1000) (hA : Row 1 encZ w A l) :
    Calls Try.prog 41 #[.slice A l.length c] w fun e w' => e = .returned (.int .i64 (firstE (fun k => l.getD k 0) l.length)) ∧ Ext w w' := by
  obtain ⟨E, hE0⟩ : ∃ E, firstE (fun k => l.getD k 0) l.length = E := ⟨_, rfl⟩
  rw [hE0]
  have HT := Lib.hid hE0
  clear hE0
  go_enter Try.func41, Try.ntmps41
  go_wp2
  go_loopw [8] (fun i wr => Ext w wr ∧ ∃ k : Nat, k ≤ l.length ∧ i = .int .i64 k ∧ Hid (firstE (fun k => l.getD k 0) k = 0)) (fun i _ => l.length - (intOf i).toNat)
  case atStart => exact ⟨Ext.rfl' _, 0, Nat.zero_le _, rfl, rfl⟩
  case round =>
    obtain ⟨hE, k, hk, rfl, hF⟩ := hrel
    by_cases hlt : k < l.length
    · obtain ⟨b, off, rfl, hb0, hcell⟩ := hA.z1 hlt
      have c1 := hcell _ hE
      have hz := hE.sz _ hb0
      have HG : Hid ((fun k => l.getD k 0) k = l[k]) := Lib.hid (by simp [List.getD, hlt])
      clear hcell
      generalize l[k] = q at *
      by_cases hq : q = 0
      · subst hq
        go_wp2
        exact ⟨⟨by (repeat (first | with_reducible exact Ext.rfl' _ | with_reducible assumption | with_reducible refine Ext.al ?_ _ | with_reducible refine Ext.dr ?_ | with_reducible refine Ext.st ?_ (by simp) _ | with_reducible refine Ext.tr ?_ (by assumption))), k + 1, by omega, by go_num, firstE_step hF.out HG.out⟩, by simp [intOf]; omega⟩
      · have h1 : (q != 0) = true := by simp [hq]
        have h2 : (q == 0) = false := by simp [hq]
        go_wp2
        go_ret
        exact ⟨ret_int (by rw [← HT.out, firstE_at hlt hF.out (by rw [HG.out]; exact hq), HG.out]), by (repeat (first | with_reducible exact Ext.rfl' _ | with_reducible assumption | with_reducible refine Ext.al ?_ _ | with_reducible refine Ext.dr ?_ | with_reducible refine Ext.st ?_ (by simp) _ | with_reducible refine Ext.tr ?_ (by assumption)))⟩
    · have hks : k = l.length := by omega
      have hT := HT.out
      rw [← hks, hF.out] at hT
      have HT2 := Lib.hid hT
      clear hT hF
      go_wp2
      go_ret
      exact ⟨ret_int HT2.out, by (repeat (first | with_reducible exact Ext.rfl' _ | with_reducible assumption | with_reducible refine Ext.al ?_ _ | with_reducible refine Ext.dr ?_ | with_reducible refine Ext.st ?_ (by simp) _ | with_reducible refine Ext.tr ?_ (by assumption)))⟩
theorem or3_c (x y z : Int) (w : World) (A : Option Addr) (c : Nat) (hA : Row 1 encZ w A [x, y, z]) :
    Calls Try.prog 41 #[.slice A 3 c] w fun e w' => e = .returned (.int .i64 (if x ≠ 0 then x else if y ≠ 0 then y else z)) ∧ Ext w w' := by
  have h := or_c [x, y, z] w A c (by simp) hA
  have e : firstE (fun k => [x, y, z].getD k 0) 3 = if x ≠ 0 then x else if y ≠ 0 then y else z := by
    simp only [firstE]
    by_cases hx : x = 0 <;> by_cases hy : y = 0 <;> simp [hx, hy]
  simp only [List.length_cons, List.length_nil] at h
  rw [show (0 + 1 + 1 + 1 : Nat) = 3 from rfl, e] at h
  exact h
theorem tkE_has {rs : List Re} {ts : List Tk} {k : Nat} (h : hasR rs (el ts k).s = false) : tkE rs ts k = 6 := by unfold tkE; rw [if_pos h]
theorem tkE_in {rs : List Re} {ts : List Tk} {k : Nat} (h : hasR rs (el ts k).s = true) (q : Bool) (hq : inTk (el ts k) = q) : tkE rs ts k = if q then 0 else 2 := by
  unfold tkE
  rw [h, hq]
  cases q <;> rfl

set_option maxHeartbeats 8000000 in
set_option maxRecDepth 100000 in
theorem checkClosures_c (gs : List Ga) (rs : List Re) (ts : List Tk) (w : World) (Ag Ar At : Option Addr) (cg cr ct : Nat) (hrl : rs.length ≤ 1000) (htl : ts.length ≤ 1000) (hR : Row 7 encRe w Ar rs) (hT : Row 3 encTk w At ts) :
    Calls Try.prog 44 #[.agg #[.slice Ag gs.length cg, .slice Ar rs.length cr, .slice At ts.length ct]] w fun e w' => e = .returned (.int .i64 (tksE rs ts)) ∧ Ext w w' := by
  unfold tksE
  by_cases h8 : 60 < ts.length
  · rw [if_pos h8]
    have h8' : (60 : Int) < (ts.length : Int) := by omega
    go_enter Try.func44, Try.ntmps44
    go_wp2
    go_ret
    exact ⟨rfl, by (repeat (first | with_reducible exact Ext.rfl' _ | with_reducible assumption | with_reducible refine Ext.al ?_ _ | with_reducible refine Ext.dr ?_ | with_reducible refine Ext.st ?_ (by simp) _ | with_reducible refine Ext.tr ?_ (by assumption)))⟩
  rw [if_neg h8]
  have h8' : ¬ (60 : Int) < (ts.length : Int) := by omega
  obtain ⟨E, hE0⟩ : ∃ E, firstE (tkE rs ts) ts.length = E := ⟨_, rfl⟩
  rw [hE0]
  have HTE := Lib.hid hE0
  clear hE0 h8
  go_enter Try.func44, Try.ntmps44
  go_wp2
  refine wp_name (fun w0 hW0 => ?_)
  have hE0 : Ext w w0 := by rw [hW0]; (repeat (first | with_reducible exact Ext.rfl' _ | with_reducible assumption | with_reducible refine Ext.al ?_ _ | with_reducible refine Ext.dr ?_ | with_reducible refine Ext.st ?_ (by simp) _ | with_reducible refine Ext.tr ?_ (by assumption)))
  have f1 : w0.cell? ⟨w.heap.size, 1, none⟩ = some (.slice Ar rs.length cr) := by rw [hW0]; simp [go_sem]
  have hz0 : w.heap.size < w0.heap.size := by rw [hW0]; simp
  clear hW0
  go_loopw [14] (fun i wr => Ext w0 wr ∧ ∃ k : Nat, k ≤ ts.length ∧ i = .int .i64 k ∧ Hid (firstE (tkE rs ts) k = 0)) (fun i _ => ts.length - (intOf i).toNat)
  case atStart => exact ⟨Ext.rfl' _, 0, Nat.zero_le _, rfl, rfl⟩
  case round =>
    obtain ⟨hE, k, hk, rfl, hF⟩ := hrel
    have g1 := (hE.ccell _ 1 hz0).trans f1
    have zr := hE.sz _ hz0
    have hEw := hE0.tr hE
    by_cases hlt : k < ts.length
    · obtain ⟨i, hi⟩ := fst_some rs (el ts k).s
      have hh := fst_has hi
      have HFR := Lib.hid (fun w' (hw : Ext w w') => findReach_c rs (el ts k).s i w' Ar cr hrl (hR.ext hw) hi)
      obtain ⟨b, off, rfl, hb0, hcell⟩ := hT.tk hlt
      have c1 := hcell _ hEw
      have hz := hEw.sz _ hb0
      have HTH := Lib.hid (tkE_has (rs := rs) (ts := ts) (k := k))
      have HTI := Lib.hid (tkE_in (rs := rs) (ts := ts) (k := k))
      have HM1 := Lib.hid (fun w => vMinute_c (el ts k).a w)
      have HM2 := Lib.hid (fun w => vMinute_c (el ts k).b w)
      rw [← hh] at HFR
      clear hcell hh hi
      generalize el rs i = r0 at *
      cases hd : hasR rs (el ts k).s
      · rw [hd] at HFR
        rw [show reV r0 false = .agg #[.string ⟨#[]⟩, .int .i64 0, .int .i64 0, .int .i64 0, .int .i64 0, .bool false, .bool false] from rfl] at HFR
        have HE := Lib.hid (HTH.out hd)
        clear hd
        generalize el ts k = t at *
        go_wp2_with (first | (go_at_call 57; with_reducible refine Calls.mono (HFR.out _ (hEw.tr (by (repeat (first | with_reducible exact Ext.rfl' _ | with_reducible assumption | with_reducible refine Ext.al ?_ _ | with_reducible refine Ext.dr ?_ | with_reducible refine Ext.st ?_ (by simp) _ | with_reducible refine Ext.tr ?_ (by assumption)))))) ?_; rintro e w1 ⟨rfl, hb⟩; have hc := hb.ccell; have hf := hb.frz; have hs := hb.sz; (try simp at hs); (try have hs0 := hs w.heap.size (by omega)); (try have hs1 := hs (w.heap.size + 1) (by omega)); (try have hs2 := hs (w.heap.size + 1 + 1) (by omega)); (try have hs3 := hs (w.heap.size + 1 + 1 + 1) (by omega))))
        go_ret
        exact ⟨ret_int (by rw [← HTE.out, firstE_at hlt hF.out (by rw [HE.out]; decide), HE.out]), hEw.tr (by (repeat (first | with_reducible exact Ext.rfl' _ | with_reducible assumption | with_reducible refine Ext.al ?_ _ | with_reducible refine Ext.dr ?_ | with_reducible refine Ext.st ?_ (by simp) _ | with_reducible refine Ext.tr ?_ (by assumption))))⟩
      rw [hd] at HFR
      rw [show reV r0 true = .agg #[.string r0.s, .int .i64 r0.x, .int .i64 r0.lev, .int .i64 r0.mi, .int .i64 r0.cl, .bool r0.wt, .bool r0.one] from rfl] at HFR
      have HI := Lib.hid (HTI.out hd)
      clear hd HTH HTI
      unfold inTk at HI
      generalize el ts k = t at *
      cases q1 : withinB t.a 0 1000000
      · rw [q1] at HM1 HI
        have HE : Hid (tkE rs ts k = 2) := Lib.hid (HI.out false (by simp))
        clear q1 HI
        go_wp2_with (first | (go_at_call 57; with_reducible refine Calls.mono (HFR.out _ (hEw.tr (by (repeat (first | with_reducible exact Ext.rfl' _ | with_reducible assumption | with_reducible refine Ext.al ?_ _ | with_reducible refine Ext.dr ?_ | with_reducible refine Ext.st ?_ (by simp) _ | with_reducible refine Ext.tr ?_ (by assumption)))))) ?_; rintro e w1 ⟨rfl, hb⟩; have hc := hb.ccell; have hf := hb.frz; have hs := hb.sz; (try simp at hs); (try have hs0 := hs w.heap.size (by omega)); (try have hs1 := hs (w.heap.size + 1) (by omega)); (try have hs2 := hs (w.heap.size + 1 + 1) (by omega)); (try have hs3 := hs (w.heap.size + 1 + 1 + 1) (by omega))) | (go_at_call 38; with_reducible refine Calls.mono (HM1.out _) ?_; rintro e w' ⟨rfl, rfl⟩))
        go_ret
        exact ⟨ret_int (by rw [← HTE.out, firstE_at hlt hF.out (by rw [HE.out]; decide), HE.out]), hEw.tr (by (repeat (first | with_reducible exact Ext.rfl' _ | with_reducible assumption | with_reducible refine Ext.al ?_ _ | with_reducible refine Ext.dr ?_ | with_reducible refine Ext.st ?_ (by simp) _ | with_reducible refine Ext.tr ?_ (by assumption))))⟩
      rw [q1] at HM1 HI
      cases q2 : withinB t.b 0 1000000
      · rw [q2] at HM2 HI
        have HE : Hid (tkE rs ts k = 2) := Lib.hid (HI.out false (by simp))
        clear q1 q2 HI
        go_wp2_with (first | (go_at_call 57; with_reducible refine Calls.mono (HFR.out _ (hEw.tr (by (repeat (first | with_reducible exact Ext.rfl' _ | with_reducible assumption | with_reducible refine Ext.al ?_ _ | with_reducible refine Ext.dr ?_ | with_reducible refine Ext.st ?_ (by simp) _ | with_reducible refine Ext.tr ?_ (by assumption)))))) ?_; rintro e w1 ⟨rfl, hb⟩; have hc := hb.ccell; have hf := hb.frz; have hs := hb.sz; (try simp at hs); (try have hs0 := hs w.heap.size (by omega)); (try have hs1 := hs (w.heap.size + 1) (by omega)); (try have hs2 := hs (w.heap.size + 1 + 1) (by omega)); (try have hs3 := hs (w.heap.size + 1 + 1 + 1) (by omega))) | (go_at_call 38; with_reducible refine Calls.mono (HM1.out _) ?_; rintro e w' ⟨rfl, rfl⟩) | (go_at_call 38; with_reducible refine Calls.mono (HM2.out _) ?_; rintro e w' ⟨rfl, rfl⟩))
        go_ret
        exact ⟨ret_int (by rw [← HTE.out, firstE_at hlt hF.out (by rw [HE.out]; decide), HE.out]), hEw.tr (by (repeat (first | with_reducible exact Ext.rfl' _ | with_reducible assumption | with_reducible refine Ext.al ?_ _ | with_reducible refine Ext.dr ?_ | with_reducible refine Ext.st ?_ (by simp) _ | with_reducible refine Ext.tr ?_ (by assumption))))⟩
      rw [q2] at HM2 HI
      by_cases q3 : t.a ≤ t.b
      · have HE : Hid (tkE rs ts k = 0) := Lib.hid (HI.out true (by simp [q3]))
        have q3' : ¬ t.b < t.a := by omega
        clear q1 q2 HI
        go_wp2_with (first | (go_at_call 57; with_reducible refine Calls.mono (HFR.out _ (hEw.tr (by (repeat (first | with_reducible exact Ext.rfl' _ | with_reducible assumption | with_reducible refine Ext.al ?_ _ | with_reducible refine Ext.dr ?_ | with_reducible refine Ext.st ?_ (by simp) _ | with_reducible refine Ext.tr ?_ (by assumption)))))) ?_; rintro e w1 ⟨rfl, hb⟩; have hc := hb.ccell; have hf := hb.frz; have hs := hb.sz; (try simp at hs); (try have hs0 := hs w.heap.size (by omega)); (try have hs1 := hs (w.heap.size + 1) (by omega)); (try have hs2 := hs (w.heap.size + 1 + 1) (by omega)); (try have hs3 := hs (w.heap.size + 1 + 1 + 1) (by omega))) | (go_at_call 38; with_reducible refine Calls.mono (HM1.out _) ?_; rintro e w' ⟨rfl, rfl⟩) | (go_at_call 38; with_reducible refine Calls.mono (HM2.out _) ?_; rintro e w' ⟨rfl, rfl⟩))
        exact ⟨⟨hE.tr (by (repeat (first | with_reducible exact Ext.rfl' _ | with_reducible assumption | with_reducible refine Ext.al ?_ _ | with_reducible refine Ext.dr ?_ | with_reducible refine Ext.st ?_ (by simp) _ | with_reducible refine Ext.tr ?_ (by assumption)))), k + 1, by omega, by go_num, firstE_step hF.out HE.out⟩, by simp [intOf]; omega⟩
      · have HE : Hid (tkE rs ts k = 2) := Lib.hid (HI.out false (by simp [q3]))
        have q3' : t.b < t.a := by omega
        clear q1 q2 HI
        go_wp2_with (first | (go_at_call 57; with_reducible refine Calls.mono (HFR.out _ (hEw.tr (by (repeat (first | with_reducible exact Ext.rfl' _ | with_reducible assumption | with_reducible refine Ext.al ?_ _ | with_reducible refine Ext.dr ?_ | with_reducible refine Ext.st ?_ (by simp) _ | with_reducible refine Ext.tr ?_ (by assumption)))))) ?_; rintro e w1 ⟨rfl, hb⟩; have hc := hb.ccell; have hf := hb.frz; have hs := hb.sz; (try simp at hs); (try have hs0 := hs w.heap.size (by omega)); (try have hs1 := hs (w.heap.size + 1) (by omega)); (try have hs2 := hs (w.heap.size + 1 + 1) (by omega)); (try have hs3 := hs (w.heap.size + 1 + 1 + 1) (by omega))) | (go_at_call 38; with_reducible refine Calls.mono (HM1.out _) ?_; rintro e w' ⟨rfl, rfl⟩) | (go_at_call 38; with_reducible refine Calls.mono (HM2.out _) ?_; rintro e w' ⟨rfl, rfl⟩))
        go_ret
        exact ⟨ret_int (by rw [← HTE.out, firstE_at hlt hF.out (by rw [HE.out]; decide), HE.out]), hEw.tr (by (repeat (first | with_reducible exact Ext.rfl' _ | with_reducible assumption | with_reducible refine Ext.al ?_ _ | with_reducible refine Ext.dr ?_ | with_reducible refine Ext.st ?_ (by simp) _ | with_reducible refine Ext.tr ?_ (by assumption))))⟩
    · have hks : k = ts.length := by omega
      have hT := HTE.out
      rw [← hks, hF.out] at hT
      have HT2 := Lib.hid hT
      clear hT hF
      go_wp2
      go_ret
      exact ⟨ret_int HT2.out, hEw.tr (by (repeat (first | with_reducible exact Ext.rfl' _ | with_reducible assumption | with_reducible refine Ext.al ?_ _ | with_reducible refine Ext.dr ?_ | with_reducible refine Ext.st ?_ (by simp) _ | with_reducible refine Ext.tr ?_ (by assumption))))⟩
end Go.Proofs.Ytmhmfjgahhgbpaa
