/- The contracts of Steeps, first, Small. The contracts of isCell, neighbours, slices.Contains, Allowed. -/
import Derived.Test.YtohdplnlbnoojaaSsteep
import Derived.Test.YtohdplnlbnoojaaSslumps

namespace Go.Proofs.Ytohdplnlbnoojaa
open Go Go.RowKit Go.IntWalk

def prsG (g : Gr) (cn : Nat) : List (Nat × Nat) := prsN cn g.L.length (knB g.L) g.L.length
/-- The steeps of a bed on a ground. -/
def stL6 (soils : List So) (bos : List Bo) (g : Gr) (cn : Nat) : List St := stN g.L (alw g.S (rL soils bos g cn)) (prsG g cn) (prsG g cn).length
def OutS2 (E : Int) (l : List St) (e : Ending) (w' : World) : Prop := ∃ A c, e = .returned (.tuple #[.slice A l.length c, .int .i64 E]) ∧ Row 3 encSt w' A l
set_option maxHeartbeats 8000000 in
theorem gsteeps_err (soils : List So) (bos : List Bo) (g : Gr) (w : World) (AS AB A : Option Addr) (cS cB c : Nat) (gw : GrW w soils AS bos AB) (hl : g.L.length ≤ maxLen) (hA : Row 1 encZ w A g.L) (h0 : cbE soils bos g ≠ 0) :
    Calls Try.prog 38 #[.agg #[.slice AS soils.length cS, .slice AB bos.length cB], .agg #[.int .i64 g.X, .int .i64 g.Y, .int .i64 g.S, .int .i64 g.C, .int .i64 g.R, .slice A g.L.length c]] w fun e w' => OutS2 (cbE soils bos g) [] e w' ∧ Ext w w' := by
  have HC := Lib.hid (fun w' (hw : Ext w w') => checkBed_c soils bos g w' AS AB A cS cB c (gw.ext hw) hl (hA.ext hw))
  have h0' : (cbE soils bos g != 0) = true := by simp [h0]
  clear h0 gw hA
  generalize cbE soils bos g = E at *
  go_enter Try.func38, Try.ntmps38
  go_wp2_with (first | (go_at_call 77; with_reducible refine Calls.mono (HC.out _ (by (repeat (first | with_reducible exact Ext.rfl' _ | with_reducible assumption | with_reducible refine Ext.al ?_ _ | with_reducible refine Ext.dr ?_ | with_reducible refine Ext.st ?_ (by simp) _ | with_reducible refine Ext.tr ?_ (by assumption))))) ?_; rintro e w1 ⟨rfl, hb⟩; have hc := hb.ccell; have hf := hb.frz; have hs := hb.sz; (try simp at hs); (try have hs0 := hs w.heap.size (by omega)); (try have hs1 := hs (w.heap.size + 1) (by omega)); (try have hs2 := hs (w.heap.size + 1 + 1) (by omega)); (try have hs3 := hs (w.heap.size + 1 + 1 + 1) (by omega))))
  exact bodyPost_ret (v := .tuple #[.slice none 0 0, .int .i64 E]) (by simp [results, Try.results38, go_sem]) rfl ⟨⟨none, 0, rfl, .inl rfl⟩, by (repeat (first | with_reducible exact Ext.rfl' _ | with_reducible assumption | with_reducible refine Ext.al ?_ _ | with_reducible refine Ext.dr ?_ | with_reducible refine Ext.st ?_ (by simp) _ | with_reducible refine Ext.tr ?_ (by assumption)))⟩
set_option maxHeartbeats 8000000 in
theorem gsteeps_c (soils : List So) (bos : List Bo) (g : Gr) (cn : Nat) (w : World) (AS AB A : Option Addr) (cS cB c : Nat) (gw : GrW w soils AS bos AB) (hl : g.L.length ≤ maxLen) (hA : Row 1 encZ w A g.L) (h0 : cbE soils bos g = 0) (hC : g.C = cn) :
    Calls Try.prog 38 #[.agg #[.slice AS soils.length cS, .slice AB bos.length cB], .agg #[.int .i64 g.X, .int .i64 g.Y, .int .i64 g.S, .int .i64 g.C, .int .i64 g.R, .slice A g.L.length c]] w fun e w' => OutS2 0 (stL6 soils bos g cn) e w' ∧ Ext w w' := by
  have HC := Lib.hid (fun w' (hw : Ext w w') => checkBed_c soils bos g w' AS AB A cS cB c (gw.ext hw) hl (hA.ext hw))
  rw [h0] at HC
  obtain ⟨v, hg⟩ := cbE_ok h0
  have vg := chkG_ok hg
  obtain ⟨cn', rn, e1, e2, e3, e4, e5, e6, e7, e8⟩ := vg.nat
  have HSO := Lib.hid (fun w' (hw : Ext w w') => slopesOf_c soils bos g cn w' AS AB A cS cB c (gw.ext hw) v hg hC (hA.ext hw))
  have hrl : (rL soils bos g cn).length = g.L.length := by unfold rL; rw [mkI_len]
  have hrv : ∀ i, i < g.L.length → 1 ≤ gi (rL soils bos g cn) i ∧ gi (rL soils bos g cn) i ≤ 1000 := by
    intro i hi
    rw [gi_mkI_rF _ _ _ _ _ hi]
    exact runB_pos v _ _
  have HST := Lib.hid (fun w' B d (hw : Ext w w') hB => steeps_c g cn rn (rL soils bos g cn) w' A B c d vg hC e2 hrl hrv (hA.ext hw) hB)
  unfold stL6 prsG
  generalize stN g.L (alw g.S (rL soils bos g cn)) (prsN cn g.L.length (knB g.L) g.L.length) (prsN cn g.L.length (knB g.L) g.L.length).length = R at *
  generalize rL soils bos g cn = r at *
  clear gw hA h0 hC v hg vg e1 e2 e3 e4 e5 e6 e7 e8 hrl hrv
  go_enter Try.func38, Try.ntmps38
  go_wp2_with (first | (go_at_call 77; with_reducible refine Calls.mono (HC.out _ (by (repeat (first | with_reducible exact Ext.rfl' _ | with_reducible assumption | with_reducible refine Ext.al ?_ _ | with_reducible refine Ext.dr ?_ | with_reducible refine Ext.st ?_ (by simp) _ | with_reducible refine Ext.tr ?_ (by assumption))))) ?_; rintro e w1 ⟨rfl, hb⟩; have hc := hb.ccell; have hf := hb.frz; have hs := hb.sz; (try simp at hs); (try have t0 := hs (w.heap.size) (by first | assumption | omega)); (try have t1 := hs (w.heap.size + 1) (by first | assumption | omega)); (try have t2 := hs (w.heap.size) (by first | assumption | omega)); (try have t3 := hs (w.heap.size) (by first | assumption | omega)); (try have t4 := hs (w.heap.size) (by first | assumption | omega)); (try have t5 := hs (w.heap.size) (by first | assumption | omega))) | (go_at_call 81; (with_reducible refine Calls.mono (HSO.out _ (by (repeat (first | with_reducible exact Ext.rfl' _ | with_reducible assumption | with_reducible refine Ext.al ?_ _ | with_reducible refine Ext.dr ?_ | with_reducible refine Ext.st ?_ (by simp) _ | with_reducible refine Ext.tr ?_ (by assumption))))) ?_); rintro e w2 ⟨⟨B2, d2, rfl, hN2⟩, hb⟩; have hc := hb.ccell; have hf := hb.frz; have hs := hb.sz; (try simp at hs); (try have t0 := hs (w.heap.size) (by first | assumption | omega)); (try have t1 := hs (w.heap.size + 1) (by first | assumption | omega)); (try have t2 := hs (w.heap.size) (by first | assumption | omega)); (try have t3 := hs (w.heap.size) (by first | assumption | omega)); (try have t4 := hs (w.heap.size) (by first | assumption | omega)); (try have t5 := hs (w.heap.size) (by first | assumption | omega))) | (go_at_call 83; (with_reducible refine Calls.mono (HST.out _ _ _ (by (repeat (first | with_reducible exact Ext.rfl' _ | with_reducible assumption | with_reducible refine Ext.al ?_ _ | with_reducible refine Ext.dr ?_ | with_reducible refine Ext.st ?_ (by simp) _ | with_reducible refine Ext.tr ?_ (by assumption)))) hN2.row) ?_); rintro e w3 ⟨⟨A3, c3, rfl, hR3⟩, hb⟩; have hc := hb.ccell; have hf := hb.frz; have hs := hb.sz; (try simp at hs); (try have t0 := hs (w.heap.size) (by first | assumption | omega)); (try have t1 := hs (w.heap.size + 1) (by first | assumption | omega)); (try have t2 := hs (w.heap.size) (by first | assumption | omega)); (try have t3 := hs (w.heap.size) (by first | assumption | omega)); (try have t4 := hs (w.heap.size) (by first | assumption | omega)); (try have t5 := hs (w.heap.size) (by first | assumption | omega))))
  exact bodyPost_ret (v := .tuple #[.slice A3 R.length c3, .int .i64 0]) (by simp [results, Try.results38, go_sem]) rfl ⟨⟨A3, c3, rfl, hR3⟩, by (repeat (first | with_reducible exact Ext.rfl' _ | with_reducible assumption | with_reducible refine Ext.al ?_ _ | with_reducible refine Ext.dr ?_ | with_reducible refine Ext.st ?_ (by simp) _ | with_reducible refine Ext.tr ?_ (by assumption)))⟩
theorem small6_c (g : Gr) (w : World) (A : Option Addr) (c : Nat) (hl : g.L.length ≤ maxLen) :
    Calls Try.prog 30 #[.agg #[.int .i64 g.X, .int .i64 g.Y, .int .i64 g.S, .int .i64 g.C, .int .i64 g.R, .slice A g.L.length c]] w fun e w' => e = .returned (.bool (decide (g.L.length ≤ 30))) ∧ Ext w w' := by
  unfold maxLen at hl
  by_cases h : g.L.length ≤ 30
  · rw [decide_eq_true h]
    have h' : (g.L.length : Int) ≤ 30 := by omega
    clear h
    go_enter Try.func30, Try.ntmps30
    go_wp2
    go_ret
    exact ⟨ret_bool (by simp [*]), by (repeat (first | with_reducible exact Ext.rfl' _ | with_reducible assumption | with_reducible refine Ext.al ?_ _ | with_reducible refine Ext.dr ?_ | with_reducible refine Ext.st ?_ (by simp) _ | with_reducible refine Ext.tr ?_ (by assumption)))⟩
  · rw [decide_eq_false h]
    have h' : ¬ (g.L.length : Int) ≤ 30 := by omega
    clear h
    go_enter Try.func30, Try.ntmps30
    go_wp2
    go_ret
    exact ⟨ret_bool (by simp), by (repeat (first | with_reducible exact Ext.rfl' _ | with_reducible assumption | with_reducible refine Ext.al ?_ _ | with_reducible refine Ext.dr ?_ | with_reducible refine Ext.st ?_ (by simp) _ | with_reducible refine Ext.tr ?_ (by assumption)))⟩
set_option maxHeartbeats 4000000 in
theorem first6_c (l : List Int) (w : World) (A : Option Addr) (c : Nat) (hl : l.length ≤ 1000) (hA : Row 1 encZ w A l) :
    Calls Try.prog 32 #[.slice A l.length c] w fun e w' => e = .returned (.int .i64 (firstE (gi l) l.length)) ∧ Ext w w' := by
  obtain ⟨E, hE0⟩ : ∃ E, firstE (gi l) l.length = E := ⟨_, rfl⟩
  rw [hE0]
  have HE := Lib.hid hE0
  have HA := Lib.hid hA
  clear hE0 hA
  go_enter Try.func32, Try.ntmps32
  go_wp2
  go_loopw [3] (fun i wr => Ext w wr ∧ ∃ k : Nat, k ≤ l.length ∧ i = .int .i64 k ∧ Hid (firstE (gi l) k = 0)) (fun i _ => l.length - (intOf i).toNat)
  case atStart => exact ⟨Ext.rfl' _, 0, Nat.zero_le _, rfl, rfl⟩
  case round =>
    obtain ⟨hE, k, hk, rfl, hF⟩ := hrel
    by_cases hlt : k < l.length
    · obtain ⟨b, off, rfl, hb0, hcell⟩ := HA.out.p1 hlt
      have c1 := hcell _ hE
      rw [← gi_lt] at c1
      have HG := Lib.hid (show gi l k = gi l k from rfl)
      clear hcell
      obtain ⟨z, hz⟩ : ∃ z, gi l k = z := ⟨_, rfl⟩
      rw [hz] at c1
      by_cases h0 : z = 0
      · subst h0
        have HZ := Lib.hid hz
        clear hz
        go_wp2
        exact ⟨⟨hE, k + 1, by omega, by go_num, firstE_step _ hF.out HZ.out⟩, by simp [intOf]; omega⟩
      · have HT : Hid (z = E) := Lib.hid (by rw [← HE.out, firstE_at (gi l) hF.out (by rw [hz]; exact h0) hlt, hz])
        have h0' : (z != 0) = true := by simp [h0]
        clear hz HG
        go_wp2
        go_ret
        exact ⟨ret_int HT.out, hE⟩
    · have hks : k = l.length := by omega
      have HT : Hid ((0 : Int) = E) := Lib.hid (by rw [← HE.out, ← hks, hF.out])
      go_wp2
      go_ret
      exact ⟨ret_int HT.out, hE⟩
end Go.Proofs.Ytohdplnlbnoojaa

namespace Go.Proofs.Ytohdplnlbnoojaa
open Go Go.RowKit Go.IntWalk

def thB (g : Gr) (i : Int) : Bool := decide (0 ≤ i) && decide (i < g.L.length)
set_option maxHeartbeats 4000000 in
theorem sCell_c (g : Gr) (i : Int) (w : World) (A : Option Addr) (c : Nat) (hl : g.L.length ≤ maxLen) :
    Calls Try.prog 78 #[.agg #[.int .i64 g.X, .int .i64 g.Y, .int .i64 g.S, .int .i64 g.C, .int .i64 g.R, .slice A g.L.length c], .int .i64 i] w fun e w' => e = .returned (.bool (thB g i)) ∧ Ext w w' := by
  unfold maxLen at hl
  have hw : IntKind.i64.wrap ((g.L.length : Int) - 1) = (g.L.length : Int) - 1 := IntWalk.i64_in _ (by omega)
  have HW := Lib.hid (fun w => swithin_c i 0 ((g.L.length : Int) - 1) w)
  have he : withinB i 0 ((g.L.length : Int) - 1) = thB g i := by
    unfold withinB thB
    rw [Bool.eq_iff_iff]
    simp only [Bool.and_eq_true, decide_eq_true_eq]
    omega
  rw [he] at HW
  generalize thB g i = B at *
  clear he
  go_enter Try.func78, Try.ntmps78
  go_wp2_with (first | (go_at_call 111; with_reducible refine Calls.mono (HW.out _) ?_; rintro e w' ⟨rfl, rfl⟩))
  go_ret
  exact ⟨rfl, by (repeat (first | with_reducible exact Ext.rfl' _ | with_reducible assumption | with_reducible refine Ext.al ?_ _ | with_reducible refine Ext.dr ?_ | with_reducible refine Ext.st ?_ (by simp) _ | with_reducible refine Ext.tr ?_ (by assumption)))⟩
set_option maxHeartbeats 4000000 in
theorem sneigh_c (g : Gr) (cn rn i : Nat) (w : World) (A : Option Addr) (c : Nat) (hC : g.C = cn) (hR : g.R = rn) (hA : Row 1 encZ w A g.L) (hc0 : chkG g = 0) (hi : i < g.L.length) :
    Calls Try.prog 80 #[.agg #[.int .i64 g.X, .int .i64 g.Y, .int .i64 g.S, .int .i64 g.C, .int .i64 g.R, .slice A g.L.length c], .int .i64 i] w fun e w' => (∃ A c, e = .returned (.slice A (nbr cn rn i).length c) ∧ Row 1 encZ w' A (zl (nbr cn rn i))) ∧ Ext w w' := by
  have h0 : gcE g i = 0 := by
    unfold gcE
    rw [if_neg (by omega), if_pos (by simp; omega)]
  have HN := Lib.hid (fun w' (hw : Ext w w') => near_ok_c g cn rn i w' A c hC hR (hA.ext hw) h0 hc0 hi)
  generalize nbr cn rn i = M at *
  clear h0 hc0 hC hR hA hi
  go_enter Try.func80, Try.ntmps80
  go_wp2_with (first | (go_at_call 113; (with_reducible refine Calls.mono (HN.out _ (by (repeat (first | with_reducible exact Ext.rfl' _ | with_reducible assumption | with_reducible refine Ext.al ?_ _ | with_reducible refine Ext.dr ?_ | with_reducible refine Ext.st ?_ (by simp) _ | with_reducible refine Ext.tr ?_ (by assumption))))) ?_); rintro e w1 ⟨⟨A1, c1, rfl, hR1⟩, hb⟩; have hc := hb.ccell; have hf := hb.frz; have hs := hb.sz; (try simp at hs); (try have t0 := hs (w.heap.size) (by first | assumption | omega)); (try have t1 := hs (w.heap.size) (by first | assumption | omega)); (try have t2 := hs (w.heap.size) (by first | assumption | omega)); (try have t3 := hs (w.heap.size) (by first | assumption | omega)); (try have t4 := hs (w.heap.size) (by first | assumption | omega)); (try have t5 := hs (w.heap.size) (by first | assumption | omega))))
  go_ret
  exact ⟨⟨A1, c1, rfl, hR1⟩, by (repeat (first | with_reducible exact Ext.rfl' _ | with_reducible assumption | with_reducible refine Ext.al ?_ _ | with_reducible refine Ext.dr ?_ | with_reducible refine Ext.st ?_ (by simp) _ | with_reducible refine Ext.tr ?_ (by assumption)))⟩
set_option maxHeartbeats 4000000 in
theorem indexZ_c (l : List Int) (x : Int) (w : World) (A : Option Addr) (c : Nat) (hl : l.length ≤ 1000) (hA : Row 1 encZ w A l) :
    Calls Try.prog 112 #[.slice A l.length c, .int .i64 x] w
      fun e w' => (∃ r : Int, e = .returned (.int .i64 r) ∧ decide (0 ≤ r) = anyN (fun k => decide (x = gi l k)) l.length) ∧ Ext w w' := by
  go_enter Try.func112, Try.ntmps112
  go_wp2
  go_loopw [5, 8] (fun _ i wr => Ext w wr ∧ ∃ k : Nat, k ≤ l.length ∧ i = .int .i64 k ∧ Hid (anyN (fun k => decide (x = gi l k)) k = false)) (fun _ i _ => l.length - (intOf i).toNat)
  case atStart => exact ⟨Ext.rfl' _, 0, Nat.zero_le _, rfl, rfl⟩
  case round =>
    obtain ⟨hE, k, hk, rfl, HN⟩ := hrel
    by_cases hlt : k < l.length
    · obtain ⟨b, off, rfl, hb0, hcell⟩ := hA.p1 hlt
      have c := hcell _ hE
      rw [← gi_lt] at c
      clear hcell
      obtain ⟨z, hz⟩ : ∃ z, gi l k = z := ⟨_, rfl⟩
      rw [hz] at c
      have HZ := Lib.hid hz
      clear hz
      by_cases hx : x = z
      · have hx' : (x == z) = true := by simp [hx]
        have HX := Lib.hid hx
        have HR : Hid (anyN (fun k => decide (x = gi l k)) l.length = true) := Lib.hid (anyN_at (fun k => decide (x = gi l k)) hlt (by rw [HZ.out, HX.out]; simp))
        clear hx
        go_wp2
        go_ret
        exact ⟨⟨k, rfl, by rw [HR.out]; simp⟩, hE⟩
      · have hx' : (x == z) = false := by simp [hx]
        have HX := Lib.hid hx
        have HR : Hid (anyN (fun k => decide (x = gi l k)) (k + 1) = false) := Lib.hid (by rw [anyN, HN.out, HZ.out, decide_eq_false hx]; rfl)
        clear hx
        go_wp2
        exact ⟨⟨hE, k + 1, by omega, by go_num, HR⟩, by simp [intOf]; omega⟩
    · have hks : k = l.length := by omega
      subst hks
      go_wp2
      go_ret
      exact ⟨⟨-1, rfl, by rw [HN.out]; rfl⟩, hE⟩
set_option maxHeartbeats 2000000 in
theorem containsZ_c (l : List Int) (x : Int) (w : World) (A : Option Addr) (c : Nat) (hl : l.length ≤ 1000) (hA : Row 1 encZ w A l) :
    Calls Try.prog 79 #[.slice A l.length c, .int .i64 x] w fun e w' => e = .returned (.bool (anyN (fun k => decide (x = gi l k)) l.length)) ∧ Ext w w' := by
  have HI := Lib.hid (fun w' (hw : Ext w w') => indexZ_c l x w' A c hl (hA.ext hw))
  generalize anyN (fun k => decide (x = gi l k)) l.length = B at *
  go_enter Try.func79, Try.ntmps79
  go_wp2_with (first | (go_at_call 112; (with_reducible refine Calls.mono (HI.out _ (by (repeat (first | with_reducible exact Ext.rfl' _ | with_reducible assumption | with_reducible refine Ext.al ?_ _ | with_reducible refine Ext.dr ?_ | with_reducible refine Ext.st ?_ (by simp) _ | with_reducible refine Ext.tr ?_ (by assumption))))) ?_); rintro e w1 ⟨⟨r, rfl, hr⟩, hb⟩; have hc := hb.ccell; have hf := hb.frz; have hs := hb.sz; (try simp at hs); (try have t0 := hs (w.heap.size) (by first | assumption | omega)); (try have t1 := hs (w.heap.size) (by first | assumption | omega)); (try have t2 := hs (w.heap.size) (by first | assumption | omega)); (try have t3 := hs (w.heap.size) (by first | assumption | omega)); (try have t4 := hs (w.heap.size) (by first | assumption | omega)); (try have t5 := hs (w.heap.size) (by first | assumption | omega))))
  go_ret
  exact ⟨rfl, by (repeat (first | with_reducible exact Ext.rfl' _ | with_reducible assumption | with_reducible refine Ext.al ?_ _ | with_reducible refine Ext.dr ?_ | with_reducible refine Ext.st ?_ (by simp) _ | with_reducible refine Ext.tr ?_ (by assumption)))⟩
theorem anyZ_nbr {cn rn i k : Nat} (hc : 0 < cn) (hi : i < cn * rn) (hk : k < cn * rn) : anyN (fun j => decide ((k : Int) = gi (zl (nbr cn rn i)) j)) (nbr cn rn i).length = nbB cn i k := by
  rw [Bool.eq_iff_iff, anyN_iff]
  constructor
  · rintro ⟨j, hj, h⟩
    have h := of_decide_eq_true h
    rw [gi_lt _ _ (by rw [zl_len]; exact hj)] at h
    have h2 : (nbr cn rn i)[j] = k := by simp [zl] at h; omega
    exact ((nbr_mem hc hi k).1 (by rw [← h2]; exact List.getElem_mem hj)).2
  · intro h
    obtain ⟨j, hj, h2⟩ := List.getElem_of_mem ((nbr_mem hc hi k).2 ⟨hk, h⟩)
    refine ⟨j, hj, decide_eq_true ?_⟩
    rw [gi_lt _ _ (by rw [zl_len]; exact hj)]
    simp [zl, h2]
/-- What Allowed answers. -/
def alE (soils : List So) (bos : List Bo) (g : Gr) (cn : Nat) (a b : Int) : Int := if cbE soils bos g ≠ 0 then cbE soils bos g else if (thB g a && thB g b) = false then 6 else if nbB cn a.toNat b.toNat = false then 3 else 0
def alV (soils : List So) (bos : List Bo) (g : Gr) (cn : Nat) (a b : Int) : Int := if alE soils bos g cn a b = 0 then alw g.S (rL soils bos g cn) a.toNat b.toNat else 0
set_option maxHeartbeats 8000000 in
theorem gallowed_c (soils : List So) (bos : List Bo) (g : Gr) (cn : Nat) (a b : Int) (w : World) (AS AB A : Option Addr) (cS cB c : Nat) (gw : GrW w soils AS bos AB) (hl : g.L.length ≤ maxLen) (hA : Row 1 encZ w A g.L) (hC : cbE soils bos g = 0 → g.C = cn) :
    Calls Try.prog 37 #[.agg #[.slice AS soils.length cS, .slice AB bos.length cB], .agg #[.int .i64 g.X, .int .i64 g.Y, .int .i64 g.S, .int .i64 g.C, .int .i64 g.R, .slice A g.L.length c], .int .i64 a, .int .i64 b] w fun e w' => e = .returned (.tuple #[.int .i64 (alV soils bos g cn a b), .int .i64 (alE soils bos g cn a b)]) ∧ Ext w w' := by
  have HB := Lib.hid (fun w' (hw : Ext w w') => checkBed_c soils bos g w' AS AB A cS cB c (gw.ext hw) hl (hA.ext hw))
  have HTA := Lib.hid (fun w' => sCell_c g a w' A c hl)
  have HTB := Lib.hid (fun w' => sCell_c g b w' A c hl)
  unfold alV
  by_cases h0 : cbE soils bos g = 0
  case neg =>
    have he : alE soils bos g cn a b = cbE soils bos g := by unfold alE; rw [if_pos h0]
    rw [he, if_neg h0]
    have h0' : (cbE soils bos g != 0) = true := by simp [h0]
    clear h0 gw hA he hC
    generalize cbE soils bos g = E at *
    go_enter Try.func37, Try.ntmps37
    go_wp2_with (first | (go_at_call 77; with_reducible refine Calls.mono (HB.out _ (by (repeat (first | with_reducible exact Ext.rfl' _ | with_reducible assumption | with_reducible refine Ext.al ?_ _ | with_reducible refine Ext.dr ?_ | with_reducible refine Ext.st ?_ (by simp) _ | with_reducible refine Ext.tr ?_ (by assumption))))) ?_; rintro e w1 ⟨rfl, hb⟩; have hc := hb.ccell; have hf := hb.frz; have hs := hb.sz; (try simp at hs); (try have hs0 := hs w.heap.size (by omega)); (try have hs1 := hs (w.heap.size + 1) (by omega)); (try have hs2 := hs (w.heap.size + 1 + 1) (by omega)); (try have hs3 := hs (w.heap.size + 1 + 1 + 1) (by omega))))
    exact bodyPost_ret (v := .tuple #[.int .i64 0, .int .i64 E]) (by simp [results, Try.results37, go_sem]) rfl ⟨rfl, by (repeat (first | with_reducible exact Ext.rfl' _ | with_reducible assumption | with_reducible refine Ext.al ?_ _ | with_reducible refine Ext.dr ?_ | with_reducible refine Ext.st ?_ (by simp) _ | with_reducible refine Ext.tr ?_ (by assumption)))⟩
  have hC := hC h0
  have he : alE soils bos g cn a b = if (thB g a && thB g b) = false then 6 else if nbB cn a.toNat b.toNat = false then 3 else 0 := by unfold alE; rw [if_neg (by omega)]
  rw [he]
  rw [h0] at HB
  obtain ⟨v, hg⟩ := cbE_ok h0
  have vg := chkG_ok hg
  obtain ⟨cn', rn, e1, e2, e3, e4, e5, e6, e7, e8⟩ := vg.nat
  have hcc : cn' = cn := by omega
  subst hcc
  by_cases ht : thB g a = true ∧ thB g b = true
  case neg =>
    have hf : (thB g a && thB g b) = false := by
      rw [Bool.eq_false_iff]
      intro h
      rw [Bool.and_eq_true] at h
      exact ht h
    rw [if_pos hf, if_neg (by decide)]
    clear he h0 hg vg e1 e2 e3 e4 e5 e6 e7 e8 gw v ht hC
    cases hta : thB g a
    · rw [hta] at HTA
      clear hta hf
      go_enter Try.func37, Try.ntmps37
      go_wp2_with (first | (go_at_call 77; with_reducible refine Calls.mono (HB.out _ (by (repeat (first | with_reducible exact Ext.rfl' _ | with_reducible assumption | with_reducible refine Ext.al ?_ _ | with_reducible refine Ext.dr ?_ | with_reducible refine Ext.st ?_ (by simp) _ | with_reducible refine Ext.tr ?_ (by assumption))))) ?_; rintro e w1 ⟨rfl, hb⟩; have hc := hb.ccell; have hf := hb.frz; have hs := hb.sz; (try simp at hs); (try have t0 := hs (w.heap.size) (by first | assumption | omega)); (try have t1 := hs (w.heap.size + 1) (by first | assumption | omega)); (try have t2 := hs (w.heap.size) (by first | assumption | omega)); (try have t3 := hs (w.heap.size) (by first | assumption | omega)); (try have t4 := hs (w.heap.size) (by first | assumption | omega)); (try have t5 := hs (w.heap.size) (by first | assumption | omega))) | (go_at_call 78; with_reducible refine Calls.mono (HTA.out _) ?_; rintro e w2 ⟨rfl, hb⟩; have hc := hb.ccell; have hf := hb.frz; have hs := hb.sz; (try simp at hs); (try have t0 := hs (w.heap.size) (by first | assumption | omega)); (try have t1 := hs (w.heap.size + 1) (by first | assumption | omega)); (try have t2 := hs (w.heap.size) (by first | assumption | omega)); (try have t3 := hs (w.heap.size) (by first | assumption | omega)); (try have t4 := hs (w.heap.size) (by first | assumption | omega)); (try have t5 := hs (w.heap.size) (by first | assumption | omega))))
      exact bodyPost_ret (v := .tuple #[.int .i64 0, .int .i64 6]) (by simp [results, Try.results37, go_sem]) rfl ⟨rfl, by (repeat (first | with_reducible exact Ext.rfl' _ | with_reducible assumption | with_reducible refine Ext.al ?_ _ | with_reducible refine Ext.dr ?_ | with_reducible refine Ext.st ?_ (by simp) _ | with_reducible refine Ext.tr ?_ (by assumption)))⟩
    · rw [hta] at HTA hf
      rw [show thB g b = false from by simpa using hf] at HTB
      clear hta hf
      go_enter Try.func37, Try.ntmps37
      go_wp2_with (first | (go_at_call 77; with_reducible refine Calls.mono (HB.out _ (by (repeat (first | with_reducible exact Ext.rfl' _ | with_reducible assumption | with_reducible refine Ext.al ?_ _ | with_reducible refine Ext.dr ?_ | with_reducible refine Ext.st ?_ (by simp) _ | with_reducible refine Ext.tr ?_ (by assumption))))) ?_; rintro e w1 ⟨rfl, hb⟩; have hc := hb.ccell; have hf := hb.frz; have hs := hb.sz; (try simp at hs); (try have t0 := hs (w.heap.size) (by first | assumption | omega)); (try have t1 := hs (w.heap.size + 1) (by first | assumption | omega)); (try have t2 := hs (w.heap.size) (by first | assumption | omega)); (try have t3 := hs (w.heap.size) (by first | assumption | omega)); (try have t4 := hs (w.heap.size) (by first | assumption | omega)); (try have t5 := hs (w.heap.size) (by first | assumption | omega))) | (go_at_call 78; with_reducible refine Calls.mono (HTA.out _) ?_; rintro e w2 ⟨rfl, hb⟩; have hc := hb.ccell; have hf := hb.frz; have hs := hb.sz; (try simp at hs); (try have t0 := hs (w.heap.size) (by first | assumption | omega)); (try have t1 := hs (w.heap.size + 1) (by first | assumption | omega)); (try have t2 := hs (w.heap.size) (by first | assumption | omega)); (try have t3 := hs (w.heap.size) (by first | assumption | omega)); (try have t4 := hs (w.heap.size) (by first | assumption | omega)); (try have t5 := hs (w.heap.size) (by first | assumption | omega))) | (go_at_call 78; with_reducible refine Calls.mono (HTB.out _) ?_; rintro e w3 ⟨rfl, hb⟩; have hc := hb.ccell; have hf := hb.frz; have hs := hb.sz; (try simp at hs); (try have t0 := hs (w.heap.size) (by first | assumption | omega)); (try have t1 := hs (w.heap.size + 1) (by first | assumption | omega)); (try have t2 := hs (w.heap.size) (by first | assumption | omega)); (try have t3 := hs (w.heap.size) (by first | assumption | omega)); (try have t4 := hs (w.heap.size) (by first | assumption | omega)); (try have t5 := hs (w.heap.size) (by first | assumption | omega))))
      exact bodyPost_ret (v := .tuple #[.int .i64 0, .int .i64 6]) (by simp [results, Try.results37, go_sem]) rfl ⟨rfl, by (repeat (first | with_reducible exact Ext.rfl' _ | with_reducible assumption | with_reducible refine Ext.al ?_ _ | with_reducible refine Ext.dr ?_ | with_reducible refine Ext.st ?_ (by simp) _ | with_reducible refine Ext.tr ?_ (by assumption)))⟩
  obtain ⟨hta, htb⟩ := ht
  rw [hta] at HTA
  rw [htb] at HTB
  rw [if_neg (show ¬ (thB g a && thB g b) = false by rw [hta, htb]; decide)]
  unfold thB at hta htb
  rw [Bool.and_eq_true, decide_eq_true_eq, decide_eq_true_eq] at hta htb
  obtain ⟨p, rfl⟩ : ∃ p : Nat, a = p := ⟨a.toNat, by omega⟩
  obtain ⟨q, rfl⟩ : ∃ q : Nat, b = q := ⟨b.toNat, by omega⟩
  rw [Int.toNat_natCast, Int.toNat_natCast]
  have hp : p < g.L.length := by omega
  have hq : q < g.L.length := by omega
  have HNE := Lib.hid (fun w' (hw : Ext w w') => sneigh_c g cn' rn p w' A c e1 e2 (hA.ext hw) hg hp)
  have HCT := Lib.hid (fun w' A2 c2 hr => by
    have h := containsZ_c (zl (nbr cn' rn p)) (q : Int) w' A2 c2 (by rw [zl_len]; have := nbr_len cn' rn p; omega) hr
    rw [zl_len, anyZ_nbr e3 (by omega) (by omega)] at h
    exact h)
  have HSO := Lib.hid (fun w' (hw : Ext w w') => slopesOf_c soils bos g cn' w' AS AB A cS cB c (gw.ext hw) v hg e1 (hA.ext hw))
  have hrl : (rL soils bos g cn').length = g.L.length := by unfold rL; rw [mkI_len]
  have hrv : ∀ i, i < g.L.length → 1 ≤ gi (rL soils bos g cn') i ∧ gi (rL soils bos g cn') i ≤ 1000 := by
    intro i hi
    rw [gi_mkI_rF _ _ _ _ _ hi]
    exact runB_pos v _ _
  have HAL := Lib.hid (fun w' B d hB => allowed_c g (rL soils bos g cn') p q w' A B c d vg.hs (by omega) (by omega) (by omega) (hrv p hp) (hrv q hq) hB)
  generalize alw g.S (rL soils bos g cn') p q = V at *
  generalize rL soils bos g cn' = r at *
  cases hnb : nbB cn' p q
  · rw [hnb] at HCT
    rw [if_pos rfl, if_neg (by decide)]
    clear hnb he h0 hg vg e1 e2 e3 e4 e5 e6 e7 e8 gw v hC hrl hrv hA
    generalize nbr cn' rn p = M at *
    go_enter Try.func37, Try.ntmps37
    go_wp2_with (first | (go_at_call 77; with_reducible refine Calls.mono (HB.out _ (by (repeat (first | with_reducible exact Ext.rfl' _ | with_reducible assumption | with_reducible refine Ext.al ?_ _ | with_reducible refine Ext.dr ?_ | with_reducible refine Ext.st ?_ (by simp) _ | with_reducible refine Ext.tr ?_ (by assumption))))) ?_; rintro e w1 ⟨rfl, hb⟩; have hc := hb.ccell; have hf := hb.frz; have hs := hb.sz; (try simp at hs); (try have t0 := hs (w.heap.size) (by first | assumption | omega)); (try have t1 := hs (w.heap.size + 1) (by first | assumption | omega)); (try have t2 := hs (w.heap.size) (by first | assumption | omega)); (try have t3 := hs (w.heap.size) (by first | assumption | omega)); (try have t4 := hs (w.heap.size) (by first | assumption | omega)); (try have t5 := hs (w.heap.size) (by first | assumption | omega))) | (go_at_call 78; with_reducible refine Calls.mono (HTA.out _) ?_; rintro e w2 ⟨rfl, hb⟩; have hc := hb.ccell; have hf := hb.frz; have hs := hb.sz; (try simp at hs); (try have t0 := hs (w.heap.size) (by first | assumption | omega)); (try have t1 := hs (w.heap.size + 1) (by first | assumption | omega)); (try have t2 := hs (w.heap.size) (by first | assumption | omega)); (try have t3 := hs (w.heap.size) (by first | assumption | omega)); (try have t4 := hs (w.heap.size) (by first | assumption | omega)); (try have t5 := hs (w.heap.size) (by first | assumption | omega))) | (go_at_call 78; with_reducible refine Calls.mono (HTB.out _) ?_; rintro e w3 ⟨rfl, hb⟩; have hc := hb.ccell; have hf := hb.frz; have hs := hb.sz; (try simp at hs); (try have t0 := hs (w.heap.size) (by first | assumption | omega)); (try have t1 := hs (w.heap.size + 1) (by first | assumption | omega)); (try have t2 := hs (w.heap.size) (by first | assumption | omega)); (try have t3 := hs (w.heap.size) (by first | assumption | omega)); (try have t4 := hs (w.heap.size) (by first | assumption | omega)); (try have t5 := hs (w.heap.size) (by first | assumption | omega))) | (go_at_call 80; (with_reducible refine Calls.mono (HNE.out _ (by (repeat (first | with_reducible exact Ext.rfl' _ | with_reducible assumption | with_reducible refine Ext.al ?_ _ | with_reducible refine Ext.dr ?_ | with_reducible refine Ext.st ?_ (by simp) _ | with_reducible refine Ext.tr ?_ (by assumption))))) ?_); rintro e w4 ⟨⟨A4, c4, rfl, hR4⟩, hb⟩; have hc := hb.ccell; have hf := hb.frz; have hs := hb.sz; (try simp at hs); (try have t0 := hs (w.heap.size) (by first | assumption | omega)); (try have t1 := hs (w.heap.size + 1) (by first | assumption | omega)); (try have t2 := hs (w.heap.size) (by first | assumption | omega)); (try have t3 := hs (w.heap.size) (by first | assumption | omega)); (try have t4 := hs (w.heap.size) (by first | assumption | omega)); (try have t5 := hs (w.heap.size) (by first | assumption | omega))) | (go_at_call 79; with_reducible refine Calls.mono (HCT.out _ _ _ hR4) ?_; rintro e w5 ⟨rfl, hb⟩; have hc := hb.ccell; have hf := hb.frz; have hs := hb.sz; (try simp at hs); (try have t0 := hs (w.heap.size) (by first | assumption | omega)); (try have t1 := hs (w.heap.size + 1) (by first | assumption | omega)); (try have t2 := hs (w.heap.size) (by first | assumption | omega)); (try have t3 := hs (w.heap.size) (by first | assumption | omega)); (try have t4 := hs (w.heap.size) (by first | assumption | omega)); (try have t5 := hs (w.heap.size) (by first | assumption | omega))))
    exact bodyPost_ret (v := .tuple #[.int .i64 0, .int .i64 3]) (by simp [results, Try.results37, go_sem]) rfl ⟨rfl, by (repeat (first | with_reducible exact Ext.rfl' _ | with_reducible assumption | with_reducible refine Ext.al ?_ _ | with_reducible refine Ext.dr ?_ | with_reducible refine Ext.st ?_ (by simp) _ | with_reducible refine Ext.tr ?_ (by assumption)))⟩
  · rw [hnb] at HCT
    rw [if_neg (show ¬ (true = false) by decide), if_pos rfl]
    clear hnb he h0 hg vg e1 e2 e3 e4 e5 e6 e7 e8 gw v hC hrl hrv hA
    generalize nbr cn' rn p = M at *
    go_enter Try.func37, Try.ntmps37
    go_wp2_with (first | (go_at_call 77; with_reducible refine Calls.mono (HB.out _ (by (repeat (first | with_reducible exact Ext.rfl' _ | with_reducible assumption | with_reducible refine Ext.al ?_ _ | with_reducible refine Ext.dr ?_ | with_reducible refine Ext.st ?_ (by simp) _ | with_reducible refine Ext.tr ?_ (by assumption))))) ?_; rintro e w1 ⟨rfl, hb⟩; have hc := hb.ccell; have hf := hb.frz; have hs := hb.sz; (try simp at hs); (try have t0 := hs (w.heap.size) (by first | assumption | omega)); (try have t1 := hs (w.heap.size + 1) (by first | assumption | omega)); (try have t2 := hs (w.heap.size) (by first | assumption | omega)); (try have t3 := hs (w.heap.size) (by first | assumption | omega)); (try have t4 := hs (w.heap.size) (by first | assumption | omega)); (try have t5 := hs (w.heap.size) (by first | assumption | omega))) | (go_at_call 78; with_reducible refine Calls.mono (HTA.out _) ?_; rintro e w2 ⟨rfl, hb⟩; have hc := hb.ccell; have hf := hb.frz; have hs := hb.sz; (try simp at hs); (try have t0 := hs (w.heap.size) (by first | assumption | omega)); (try have t1 := hs (w.heap.size + 1) (by first | assumption | omega)); (try have t2 := hs (w.heap.size) (by first | assumption | omega)); (try have t3 := hs (w.heap.size) (by first | assumption | omega)); (try have t4 := hs (w.heap.size) (by first | assumption | omega)); (try have t5 := hs (w.heap.size) (by first | assumption | omega))) | (go_at_call 78; with_reducible refine Calls.mono (HTB.out _) ?_; rintro e w3 ⟨rfl, hb⟩; have hc := hb.ccell; have hf := hb.frz; have hs := hb.sz; (try simp at hs); (try have t0 := hs (w.heap.size) (by first | assumption | omega)); (try have t1 := hs (w.heap.size + 1) (by first | assumption | omega)); (try have t2 := hs (w.heap.size) (by first | assumption | omega)); (try have t3 := hs (w.heap.size) (by first | assumption | omega)); (try have t4 := hs (w.heap.size) (by first | assumption | omega)); (try have t5 := hs (w.heap.size) (by first | assumption | omega))) | (go_at_call 80; (with_reducible refine Calls.mono (HNE.out _ (by (repeat (first | with_reducible exact Ext.rfl' _ | with_reducible assumption | with_reducible refine Ext.al ?_ _ | with_reducible refine Ext.dr ?_ | with_reducible refine Ext.st ?_ (by simp) _ | with_reducible refine Ext.tr ?_ (by assumption))))) ?_); rintro e w4 ⟨⟨A4, c4, rfl, hR4⟩, hb⟩; have hc := hb.ccell; have hf := hb.frz; have hs := hb.sz; (try simp at hs); (try have t0 := hs (w.heap.size) (by first | assumption | omega)); (try have t1 := hs (w.heap.size + 1) (by first | assumption | omega)); (try have t2 := hs (w.heap.size) (by first | assumption | omega)); (try have t3 := hs (w.heap.size) (by first | assumption | omega)); (try have t4 := hs (w.heap.size) (by first | assumption | omega)); (try have t5 := hs (w.heap.size) (by first | assumption | omega))) | (go_at_call 79; with_reducible refine Calls.mono (HCT.out _ _ _ hR4) ?_; rintro e w5 ⟨rfl, hb⟩; have hc := hb.ccell; have hf := hb.frz; have hs := hb.sz; (try simp at hs); (try have t0 := hs (w.heap.size) (by first | assumption | omega)); (try have t1 := hs (w.heap.size + 1) (by first | assumption | omega)); (try have t2 := hs (w.heap.size) (by first | assumption | omega)); (try have t3 := hs (w.heap.size) (by first | assumption | omega)); (try have t4 := hs (w.heap.size) (by first | assumption | omega)); (try have t5 := hs (w.heap.size) (by first | assumption | omega))) | (go_at_call 81; (with_reducible refine Calls.mono (HSO.out _ (by (repeat (first | with_reducible exact Ext.rfl' _ | with_reducible assumption | with_reducible refine Ext.al ?_ _ | with_reducible refine Ext.dr ?_ | with_reducible refine Ext.st ?_ (by simp) _ | with_reducible refine Ext.tr ?_ (by assumption))))) ?_); rintro e w6 ⟨⟨B6, d6, rfl, hN6⟩, hb⟩; have hc := hb.ccell; have hf := hb.frz; have hs := hb.sz; (try simp at hs); (try have t0 := hs (w.heap.size) (by first | assumption | omega)); (try have t1 := hs (w.heap.size + 1) (by first | assumption | omega)); (try have t2 := hs (w.heap.size) (by first | assumption | omega)); (try have t3 := hs (w.heap.size) (by first | assumption | omega)); (try have t4 := hs (w.heap.size) (by first | assumption | omega)); (try have t5 := hs (w.heap.size) (by first | assumption | omega))) | (go_at_call 82; with_reducible refine Calls.mono (HAL.out _ _ _ hN6.row) ?_; rintro e w7 ⟨rfl, hb⟩; have hc := hb.ccell; have hf := hb.frz; have hs := hb.sz; (try simp at hs); (try have t0 := hs (w.heap.size) (by first | assumption | omega)); (try have t1 := hs (w.heap.size + 1) (by first | assumption | omega)); (try have t2 := hs (w.heap.size) (by first | assumption | omega)); (try have t3 := hs (w.heap.size) (by first | assumption | omega)); (try have t4 := hs (w.heap.size) (by first | assumption | omega)); (try have t5 := hs (w.heap.size) (by first | assumption | omega))))
    exact bodyPost_ret (v := .tuple #[.int .i64 V, .int .i64 0]) (by simp [results, Try.results37, go_sem]) rfl ⟨rfl, by (repeat (first | with_reducible exact Ext.rfl' _ | with_reducible assumption | with_reducible refine Ext.al ?_ _ | with_reducible refine Ext.dr ?_ | with_reducible refine Ext.st ?_ (by simp) _ | with_reducible refine Ext.tr ?_ (by assumption)))⟩
end Go.Proofs.Ytohdplnlbnoojaa
