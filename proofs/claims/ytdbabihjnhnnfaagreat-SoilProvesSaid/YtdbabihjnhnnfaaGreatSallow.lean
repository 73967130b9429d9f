/- The contracts of Steeps, first, Small. The contracts of isCell, neighbours, slices.Contains, Allowed. -/
import Derived.Test.YtdbabihjnhnnfaaGreatSsteep
import Derived.Test.YtdbabihjnhnnfaaGreatSslumps

namespace Go.Proofs.YtdbabihjnhnnfaaGreat
open Go Go.RowKit Go.IntWalk

def prsG (g : Gr) (cn : Nat) : List (Nat × Nat) := prsN cn g.L.length (knB g.L) g.L.length
/-- The steeps of a bed on a ground. -/
def stL6 (soils : List So) (bos : List Bo) (g : Gr) (cn : Nat) : List St := stN g.L (alw g.S (rL soils bos g cn)) (prsG g cn) (prsG g cn).length
def OutS2 (E : Int) (l : List St) (e : Ending) (w' : World) : Prop := ∃ A c, e = .returned (.tuple #[.slice A l.length c, .int .i64 E]) ∧ Row 3 encSt w' A l
theorem small6_c (g : Gr) (w : World) (A : Option Addr) (c : Nat) (hl : g.L.length ≤ maxLen) :
    Calls Tryz.prog 6 #[.agg #[.int .i64 g.X, .int .i64 g.Y, .int .i64 g.S, .int .i64 g.C, .int .i64 g.R, .slice A g.L.length c]] w fun e w' => e = .returned (.bool (decide (g.L.length ≤ 30))) ∧ Ext w w' := by
  unfold maxLen at hl
  by_cases h : g.L.length ≤ 30
  · rw [decide_eq_true h]
    have h' : (g.L.length : Int) ≤ 30 := by omega
    clear h
    go_enter Tryz.func6, Tryz.ntmps6
    go_wp2
    go_ret
    exact ⟨ret_bool (by simp [*]), by (repeat (first | with_reducible exact Ext.rfl' _ | with_reducible assumption | with_reducible refine Ext.al ?_ _ | with_reducible refine Ext.dr ?_ | with_reducible refine Ext.st ?_ (by simp) _ | with_reducible refine Ext.tr ?_ (by assumption)))⟩
  · rw [decide_eq_false h]
    have h' : ¬ (g.L.length : Int) ≤ 30 := by omega
    clear h
    go_enter Tryz.func6, Tryz.ntmps6
    go_wp2
    go_ret
    exact ⟨ret_bool (by simp), by (repeat (first | with_reducible exact Ext.rfl' _ | with_reducible assumption | with_reducible refine Ext.al ?_ _ | with_reducible refine Ext.dr ?_ | with_reducible refine Ext.st ?_ (by simp) _ | with_reducible refine Ext.tr ?_ (by assumption)))⟩
set_option maxHeartbeats 4000000 in
theorem first6_c (l : List Int) (w : World) (A : Option Addr) (c : Nat) (hl : l.length ≤ 1000) (hA : Row 1 encZ w A l) :
    Calls Tryz.prog 8 #[.slice A l.length c] w fun e w' => e = .returned (.int .i64 (firstE (gi l) l.length)) ∧ Ext w w' := by
  obtain ⟨E, hE0⟩ : ∃ E, firstE (gi l) l.length = E := ⟨_, rfl⟩
  rw [hE0]
  have HE := Lib.hid hE0
  have HA := Lib.hid hA
  clear hE0 hA
  go_enter Tryz.func8, Tryz.ntmps8
  go_wp2
  go_loopw [3] (fun i wr => Ext w wr ∧ ∃ k : Nat, k ≤ l.length ∧ i = .int .i64 k ∧ Hid (firstE (gi l) k = 0)) (fun i _ => l.length - (intOf i).toNat)
  case atStart => exact ⟨Ext.rfl' _, 0, Nat.zero_le _, rfl, rfl⟩
  case round =>
    obtain ⟨hE, k, hk, rfl, hF⟩ := hrel
    by_cases hlt : k < l.length
    · obtain ⟨b, off, rfl, hb0, hcell⟩ := HA.out.p1 hlt
      have c1 := hcell _ hE
      rw [← gi_lt] at c1
      have HG := Lib.hid (show gi l k = gi l k from rfl)
      clear hcell
      obtain ⟨z, hz⟩ : ∃ z, gi l k = z := ⟨_, rfl⟩
      rw [hz] at c1
      by_cases h0 : z = 0
      · subst h0
        have HZ := Lib.hid hz
        clear hz
        go_wp2
        exact ⟨⟨hE, k + 1, by omega, by go_num, firstE_step _ hF.out HZ.out⟩, by simp [intOf]; omega⟩
      · have HT : Hid (z = E) := Lib.hid (by rw [← HE.out, firstE_at (gi l) hF.out (by rw [hz]; exact h0) hlt, hz])
        have h0' : (z != 0) = true := by simp [h0]
        clear hz HG
        go_wp2
        go_ret
        exact ⟨ret_int HT.out, hE⟩
    · have hks : k = l.length := by omega
      have HT : Hid ((0 : Int) = E) := Lib.hid (by rw [← HE.out, ← hks, hF.out])
      go_wp2
      go_ret
      exact ⟨ret_int HT.out, hE⟩
end Go.Proofs.YtdbabihjnhnnfaaGreat

namespace Go.Proofs.YtdbabihjnhnnfaaGreat
open Go Go.RowKit Go.IntWalk

def thB (g : Gr) (i : Int) : Bool := decide (0 ≤ i) && decide (i < g.L.length)
set_option maxHeartbeats 4000000 in
theorem sneigh_c (g : Gr) (cn rn i : Nat) (w : World) (A : Option Addr) (c : Nat) (hC : g.C = cn) (hR : g.R = rn) (hA : Row 1 encZ w A g.L) (hc0 : chkG g = 0) (hi : i < g.L.length) :
    Calls Tryz.prog 47 #[.agg #[.int .i64 g.X, .int .i64 g.Y, .int .i64 g.S, .int .i64 g.C, .int .i64 g.R, .slice A g.L.length c], .int .i64 i] w fun e w' => (∃ A c, e = .returned (.slice A (nbr cn rn i).length c) ∧ Row 1 encZ w' A (zl (nbr cn rn i))) ∧ Ext w w' := by
  have h0 : gcE g i = 0 := by
    unfold gcE
    rw [if_neg (by omega), if_pos (by simp; omega)]
  have HN := Lib.hid (fun w' (hw : Ext w w') => near_ok_c g cn rn i w' A c hC hR (hA.ext hw) h0 hc0 hi)
  generalize nbr cn rn i = M at *
  clear h0 hc0 hC hR hA hi
  go_enter Tryz.func47, Tryz.ntmps47
  go_wp2_with (first | (go_at_call 71; (with_reducible refine Calls.mono (HN.out _ (by (repeat (first | with_reducible exact Ext.rfl' _ | with_reducible assumption | with_reducible refine Ext.al ?_ _ | with_reducible refine Ext.dr ?_ | with_reducible refine Ext.st ?_ (by simp) _ | with_reducible refine Ext.tr ?_ (by assumption))))) ?_); rintro e w1 ⟨⟨A1, c1, rfl, hR1⟩, hb⟩; have hc := hb.ccell; have hf := hb.frz; have hs := hb.sz; (try simp at hs); (try have t0 := hs (w.heap.size) (by first | assumption | omega)); (try have t1 := hs (w.heap.size) (by first | assumption | omega)); (try have t2 := hs (w.heap.size) (by first | assumption | omega)); (try have t3 := hs (w.heap.size) (by first | assumption | omega)); (try have t4 := hs (w.heap.size) (by first | assumption | omega)); (try have t5 := hs (w.heap.size) (by first | assumption | omega))))
  go_ret
  exact ⟨⟨A1, c1, rfl, hR1⟩, by (repeat (first | with_reducible exact Ext.rfl' _ | with_reducible assumption | with_reducible refine Ext.al ?_ _ | with_reducible refine Ext.dr ?_ | with_reducible refine Ext.st ?_ (by simp) _ | with_reducible refine Ext.tr ?_ (by assumption)))⟩
theorem anyZ_nbr {cn rn i k : Nat} (hc : 0 < cn) (hi : i < cn * rn) (hk : k < cn * rn) : anyN (fun j => decide ((k : Int) = gi (zl (nbr cn rn i)) j)) (nbr cn rn i).length = nbB cn i k := by
  rw [Bool.eq_iff_iff, anyN_iff]
  constructor
  · rintro ⟨j, hj, h⟩
    have h := of_decide_eq_true h
    rw [gi_lt _ _ (by rw [zl_len]; exact hj)] at h
    have h2 : (nbr cn rn i)[j] = k := by simp [zl] at h; omega
    exact ((nbr_mem hc hi k).1 (by rw [← h2]; exact List.getElem_mem hj)).2
  · intro h
    obtain ⟨j, hj, h2⟩ := List.getElem_of_mem ((nbr_mem hc hi k).2 ⟨hk, h⟩)
    refine ⟨j, hj, decide_eq_true ?_⟩
    rw [gi_lt _ _ (by rw [zl_len]; exact hj)]
    simp [zl, h2]
/-- What Allowed answers. -/
def alE (soils : List So) (bos : List Bo) (g : Gr) (cn : Nat) (a b : Int) : Int := if cbE soils bos g ≠ 0 then cbE soils bos g else if (thB g a && thB g b) = false then 6 else if nbB cn a.toNat b.toNat = false then 3 else 0
def alV (soils : List So) (bos : List Bo) (g : Gr) (cn : Nat) (a b : Int) : Int := if alE soils bos g cn a b = 0 then alw g.S (rL soils bos g cn) a.toNat b.toNat else 0
end Go.Proofs.YtdbabihjnhnnfaaGreat
