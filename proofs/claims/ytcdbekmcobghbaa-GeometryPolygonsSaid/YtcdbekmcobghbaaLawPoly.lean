/- Whether corners are a polygon, and its area, are as specified, whichever corner is the first and whichever the direction: the law returns true for every input. Conditions: none. -/
import Derived.Test.YtcdbekmcobghbaaArea
import Derived.Test.YtcdbekmcobghbaaLawPoints
namespace Go.Proofs.Ytcdbekmcobghbaa
open Go Go.RowKit Go.IntWalk

/-- The first m corners of the other list. -/
def upT (l : List Pt) (k m : Nat) : List Pt := (List.range m).map (fun j => cor l (l.length - 1 - j + k))
theorem upT_len (l : List Pt) (k m : Nat) : (upT l k m).length = m := by simp [upT]
theorem upT_all (l : List Pt) (k : Nat) : upT l k l.length = turnL l k := rfl
theorem upT_succ (l : List Pt) (k m : Nat) : upT l k (m + 1) = upT l k m ++ [cor l (l.length - 1 - m + k)] := by simp [upT, List.range_succ]
def UpOwn (l : List Pt) (k m base : Nat) (v : Value) (w : World) : Prop := w.ownsRow base 23 2 v m ((upT l k m).flatMap encP)
theorem UpOwn.start (l : List Pt) (k base : Nat) (w : World) : UpOwn l k 0 base (.slice none 0 0) w := World.ownsRow_nil _ _ _ _
theorem UpOwn.done {l : List Pt} {k base : Nat} {v : Value} {w : World} (h : UpOwn l k l.length base v w) (h0 : 0 < l.length) : ∃ g cap, v = .slice (some ⟨g, 0, none⟩) l.length cap ∧ Row 2 encP w (some ⟨g, 0, none⟩) (turnL l k) := by
  unfold UpOwn at h
  rw [upT_all] at h
  have h' := h
  rcases h'.2 with ⟨_, hn⟩ | ⟨g, cap, cur, hv, _⟩
  · omega
  · subst hv
    refine ⟨g, cap, rfl, ?_⟩
    have := (Own.of_row (l := turnL l k) (base := base) (g := g) (cap := cap) (w := w) (by rw [turn_len]; exact h)).1
    exact this.row
theorem garea_of (o : List Pt) (n : Nat) (hn : o.length = n) (r : Int) (hr : areaV o = r) (he : polyE o = 0) (w : World) (A : Option Addr) (c : Nat) (hl : n ≤ 1000) (hA : Row 2 encP w A o) :
    Calls Try.prog 40 #[.slice A n c] w
      fun e w' => e = .returned (.tuple #[.int .i64 r, .int .i64 0]) ∧ Ext w w' := by
  subst hn
  have h := garea_c o w A c hl hA
  rw [hr, he] at h
  exact h
theorem size_abs {n : Int} (h : -320000000000000 ≤ n ∧ n ≤ 320000000000000) : sizeW n = absW n ∧ sizeW (-n) = absW n := by
  unfold sizeW absW
  rw [wrap64_in _ (by omega), wrap64_in _ (by omega)]
  split <;> omega

set_option maxHeartbeats 4000000 in
theorem poly_walk (l : List Pt) (t : Nat) (w : World) (A : Option Addr) (c : Nat) (ht : t < 256) (hl : l.length ≤ maxLen) (hA : Row 2 encP w A l) :
    Calls Try.prog 7 #[.slice A l.length c, .int .u8 t] w
      fun e w' => e = .returned (.bool true) ∧ Ext w w' := by
  unfold maxLen at hl
  by_cases h1 : 50 < l.length
  · have h1' : (50 : Int) < (l.length : Int) := by omega
    go_enter Try.func7, Try.ntmps7
    go_wp2_with (first | (go_at_call 19; refine Calls.mono (awake_c _) ?_; rintro e w1 ⟨rfl, hb⟩; have hc := hb.ccell; have hf := hb.frz; have hs := hb.sz; (try simp at hs); (try have hs0 := hs w.heap.size (by omega)); (try have hs1 := hs (w.heap.size + 1) (by omega)); (try have hs2 := hs (w.heap.size + 1 + 1) (by omega)); (try have hs3 := hs (w.heap.size + 1 + 1 + 1) (by omega))))
    go_ret
    exact ⟨rfl, by (repeat (first | with_reducible exact Ext.rfl' _ | with_reducible assumption | with_reducible refine Ext.al ?_ _ | with_reducible refine Ext.dr ?_ | with_reducible refine Ext.st ?_ (by simp) _ | with_reducible refine Ext.tr ?_ (by assumption)))⟩
  have h1' : (l.length : Int) ≤ 50 := by omega
  have hl' : l.length ≤ 1000 := by omega
  clear hl
  have hI := fun w' (hw : Ext w w') => garea_c l w' A c hl' (hA.ext hw)
  have hR := fun w' (hw : Ext w w') => rcheckPolygon_c l w' A c hl' (hA.ext hw)
  have hC := fun w' (hw : Ext w w') => checkPolygon_c l w' A c hl' (hA.ext hw)
  rw [polyE_same] at hR
  by_cases hp : polyE l = 0
  case neg =>
    rw [show areaV l = 0 by unfold areaV; rw [if_neg hp]] at hI
    have HI := Lib.hid hI
    have HR := Lib.hid hR
    have HC := Lib.hid hC
    clear hI hR hC
    generalize polyE l = r at *
    have h' : (r == 0) = false := by simp [hp]
    go_enter Try.func7, Try.ntmps7
    go_wp2_with (first | (go_at_call 19; refine Calls.mono (awake_c _) ?_; rintro e w1 ⟨rfl, hb⟩; have hc := hb.ccell; have hf := hb.frz; have hs := hb.sz; (try simp at hs); (try have hs0 := hs w.heap.size (by omega)); (try have hs1 := hs (w.heap.size + 1) (by omega)); (try have hs2 := hs (w.heap.size + 1 + 1) (by omega)); (try have hs3 := hs (w.heap.size + 1 + 1 + 1) (by omega))) | (go_at_call 40; with_reducible refine Calls.mono (HI.out _ (by (repeat (first | with_reducible exact Ext.rfl' _ | with_reducible assumption | with_reducible refine Ext.al ?_ _ | with_reducible refine Ext.dr ?_ | with_reducible refine Ext.st ?_ (by simp) _ | with_reducible refine Ext.tr ?_ (by assumption))))) ?_; rintro e w1 ⟨rfl, hb⟩; have hc := hb.ccell; have hf := hb.frz; have hs := hb.sz; (try simp at hs); (try have hs0 := hs w.heap.size (by omega)); (try have hs1 := hs (w.heap.size + 1) (by omega)); (try have hs2 := hs (w.heap.size + 1 + 1) (by omega)); (try have hs3 := hs (w.heap.size + 1 + 1 + 1) (by omega))) | (go_at_call 41; with_reducible refine Calls.mono (HR.out _ (by (repeat (first | with_reducible exact Ext.rfl' _ | with_reducible assumption | with_reducible refine Ext.al ?_ _ | with_reducible refine Ext.dr ?_ | with_reducible refine Ext.st ?_ (by simp) _ | with_reducible refine Ext.tr ?_ (by assumption))))) ?_; rintro e w1 ⟨rfl, hb⟩; have hc := hb.ccell; have hf := hb.frz; have hs := hb.sz; (try simp at hs); (try have hs0 := hs w.heap.size (by omega)); (try have hs1 := hs (w.heap.size + 1) (by omega)); (try have hs2 := hs (w.heap.size + 1 + 1) (by omega)); (try have hs3 := hs (w.heap.size + 1 + 1 + 1) (by omega))) | (go_at_call 42; with_reducible refine Calls.mono (HC.out _ (by (repeat (first | with_reducible exact Ext.rfl' _ | with_reducible assumption | with_reducible refine Ext.al ?_ _ | with_reducible refine Ext.dr ?_ | with_reducible refine Ext.st ?_ (by simp) _ | with_reducible refine Ext.tr ?_ (by assumption))))) ?_; rintro e w1 ⟨rfl, hb⟩; have hc := hb.ccell; have hf := hb.frz; have hs := hb.sz; (try simp at hs); (try have hs0 := hs w.heap.size (by omega)); (try have hs1 := hs (w.heap.size + 1) (by omega)); (try have hs2 := hs (w.heap.size + 1 + 1) (by omega)); (try have hs3 := hs (w.heap.size + 1 + 1 + 1) (by omega))))
    go_ret
    exact ⟨by simp, by (repeat (first | with_reducible exact Ext.rfl' _ | with_reducible assumption | with_reducible refine Ext.al ?_ _ | with_reducible refine Ext.dr ?_ | with_reducible refine Ext.st ?_ (by simp) _ | with_reducible refine Ext.tr ?_ (by assumption)))⟩
  obtain ⟨g1, g2, g3, g4⟩ := polyE_zero hp
  have h0 : 0 < l.length := by omega
  have hbd := area_bound g3 l.length
  rw [show sumN (fun i => crossZ O (cor l i) (cor l (i + 1))) l.length = areaZ l from rfl] at hbd
  obtain ⟨s1, s2⟩ := size_abs (n := areaZ l) (by omega)
  have hRA := fun w' (hw : Ext w w') => rarea_c l w' A c h0 g2 g3 (hA.ext hw)
  have hT : ∀ k n, n = l.length → ∀ w' A' c', Row 2 encP w' A' (turnL l k) → Calls Try.prog 40 #[.slice A' n c'] w' fun e w'' => e = .returned (.tuple #[.int .i64 (absW (areaZ l)), .int .i64 0]) ∧ Ext w' w'' := by
    intro k n hn w' A' c' hrow
    exact garea_of (turnL l k) n (by rw [turn_len, hn]) _ (by unfold areaV; rw [if_pos (turn_ok k hp), turn_area k h0]; exact s2) (turn_ok k hp) w' A' c' (by omega) hrow
  rw [show areaV l = absW (areaZ l) by unfold areaV; rw [if_pos hp]; exact s1, hp] at hI
  rw [hp] at hR hC
  have HI := Lib.hid hI
  have HR := Lib.hid hR
  have HC := Lib.hid hC
  have HRA := Lib.hid hRA
  have HTN := Lib.hid hT
  clear hI hR hC hRA hT hp g3 g4 hbd s1 s2
  generalize absW (areaZ l) = r at *
  go_enter Try.func7, Try.ntmps7
  go_wp2_with (first | (go_at_call 19; refine Calls.mono (awake_c _) ?_; rintro e w1 ⟨rfl, hb⟩; have hc := hb.ccell; have hf := hb.frz; have hs := hb.sz; (try simp at hs); (try have hs0 := hs w.heap.size (by omega)); (try have hs1 := hs (w.heap.size + 1) (by omega)); (try have hs2 := hs (w.heap.size + 1 + 1) (by omega)); (try have hs3 := hs (w.heap.size + 1 + 1 + 1) (by omega))) | (go_at_call 40; with_reducible refine Calls.mono (HI.out _ (by (repeat (first | with_reducible exact Ext.rfl' _ | with_reducible assumption | with_reducible refine Ext.al ?_ _ | with_reducible refine Ext.dr ?_ | with_reducible refine Ext.st ?_ (by simp) _ | with_reducible refine Ext.tr ?_ (by assumption))))) ?_; rintro e w1 ⟨rfl, hb⟩; have hc := hb.ccell; have hf := hb.frz; have hs := hb.sz; (try simp at hs); (try have hs0 := hs w.heap.size (by omega)); (try have hs1 := hs (w.heap.size + 1) (by omega)); (try have hs2 := hs (w.heap.size + 1 + 1) (by omega)); (try have hs3 := hs (w.heap.size + 1 + 1 + 1) (by omega))) | (go_at_call 41; with_reducible refine Calls.mono (HR.out _ (by (repeat (first | with_reducible exact Ext.rfl' _ | with_reducible assumption | with_reducible refine Ext.al ?_ _ | with_reducible refine Ext.dr ?_ | with_reducible refine Ext.st ?_ (by simp) _ | with_reducible refine Ext.tr ?_ (by assumption))))) ?_; rintro e w1 ⟨rfl, hb⟩; have hc := hb.ccell; have hf := hb.frz; have hs := hb.sz; (try simp at hs); (try have hs0 := hs w.heap.size (by omega)); (try have hs1 := hs (w.heap.size + 1) (by omega)); (try have hs2 := hs (w.heap.size + 1 + 1) (by omega)); (try have hs3 := hs (w.heap.size + 1 + 1 + 1) (by omega))) | (go_at_call 42; with_reducible refine Calls.mono (HC.out _ (by (repeat (first | with_reducible exact Ext.rfl' _ | with_reducible assumption | with_reducible refine Ext.al ?_ _ | with_reducible refine Ext.dr ?_ | with_reducible refine Ext.st ?_ (by simp) _ | with_reducible refine Ext.tr ?_ (by assumption))))) ?_; rintro e w1 ⟨rfl, hb⟩; have hc := hb.ccell; have hf := hb.frz; have hs := hb.sz; (try simp at hs); (try have hs0 := hs w.heap.size (by omega)); (try have hs1 := hs (w.heap.size + 1) (by omega)); (try have hs2 := hs (w.heap.size + 1 + 1) (by omega)); (try have hs3 := hs (w.heap.size + 1 + 1 + 1) (by omega))))
  have hE : Ext w w1 := by (repeat (first | with_reducible exact Ext.rfl' _ | with_reducible assumption | with_reducible refine Ext.al ?_ _ | with_reducible refine Ext.dr ?_ | with_reducible refine Ext.st ?_ (by simp) _ | with_reducible refine Ext.tr ?_ (by assumption)))
  have hk : (t : Int) % (l.length : Int) = ((t % l.length : Nat) : Int) := by rw [Int.natCast_emod]
  have hk2 : t % l.length < l.length := Nat.mod_lt _ h0
  rw [hk]
  generalize t % l.length = k at hk2 ⊢
  clear hk ht hb hc hf hs HI
  obtain ⟨wp, rfl⟩ : ∃ wp : World, wp = w1 := ⟨_, rfl⟩
  obtain ⟨i0, hi, hz0, hz1, hz2⟩ := info_parts infoP
  go_loopw [9, 10] (fun v i wr => Ext w wr ∧ ∃ m : Nat, m ≤ l.length ∧ i = .int .i64 ((l.length : Int) - 1 - m) ∧ UpOwn l k m w.heap.size v wr) (fun _ i _ => (intOf i + 1).toNat)
  case atStart => exact ⟨hE, 0, Nat.zero_le _, by simp, UpOwn.start _ _ _ _⟩
  case round =>
    obtain ⟨hr, m, hm, rfl, hU⟩ := hrel
    by_cases hlt : m < l.length
    · have hmm : (l.length - 1 - m + k) % l.length < l.length := Nat.mod_lt _ h0
      obtain ⟨b, off, rfl, hb0, hcell⟩ := hA.p2 hmm
      have c := hcell _ hr
      have hzb := hr.sz _ hb0
      clear hcell
      have hrem : ((l.length : Int) - 1 - m + k) % (l.length : Int) = (((l.length - 1 - m + k) % l.length : Nat) : Int) := by
        rw [Int.natCast_emod, show ((l.length - 1 - m + k : Nat) : Int) = (l.length : Int) - 1 - m + k by omega]
      have hcor := cor_mod l (l.length - 1 - m + k) hmm
      have HCOR := Lib.hid hcor
      clear hcor
      generalize (l.length - 1 - m + k) % l.length = q at hmm c hrem HCOR
      have hne : ¬ (l.length : Int) = 0 := by omega
      have HU := Lib.hid hU
      have hszr := hr.size
      obtain ⟨z, hzz⟩ : ∃ z : Int, (l.length : Int) - 1 - m = z := ⟨_, rfl⟩
      have z0 : 0 ≤ z := by omega
      have z1 : z ≤ 50 := by omega
      have HZ := Lib.hid hzz
      rw [hzz] at hrem ⊢
      have k0 : (k : Int) ≤ 50 := by omega
      clear hzz
      clear hU
      go_wp2_with (first | (at_builtin; refine wpList_append_own _ rfl _ _ 37 rfl w.heap.size 23 i0 _ 2 16 Try.underlying37 hi hz0 hz1 hz2 rfl (by decide) _ _ _ rfl (World.ownsRow.alloc HU.out _) ⟨_, 0, none⟩ 1 1 [.int .i64 l[q].x, .int .i64 l[q].y] rfl rfl ?c1 ?c2 ?c3 ?c4 ?c5 ?_))
      case c1 => exact two_new _ _ _ _
      case c2 => intro u hu; simp at hu; rcases hu with rfl | rfl <;> rfl
      case c3 => unfold maxLen; omega
      case c4 => omega
      case c5 => simp; omega
      intro v' w2 hown2 hgrow2 _
      clear hi hz0 hz1 hz2
      have hlt2 := World.ownsRow.lt HU.out
      have hE4 : Ext w w2 := Below.grown (show Below w.heap.size w _ from by (repeat (first | with_reducible exact Ext.rfl' _ | with_reducible assumption | with_reducible refine Ext.al ?_ _ | with_reducible refine Ext.dr ?_ | with_reducible refine Ext.st ?_ (by simp) _ | with_reducible refine Ext.tr ?_ (by assumption)))) hgrow2 (by simp; omega) (by intro q hq; exact (hlt2 q hq).1)
      go_wp2
      have hz9 := HZ.out
      refine ⟨⟨hE4, m + 1, by omega, by rw [show (l.length : Int) - 1 - ((m + 1 : Nat) : Int) = z - 1 by omega], ?_⟩, by simp [intOf]; omega⟩
      unfold UpOwn
      rw [upT_succ, HCOR.out]
      have e2 : (upT l k m ++ [l[q]]).flatMap encP = (upT l k m).flatMap encP ++ [.int .i64 l[q].x, .int .i64 l[q].y] := by simp [encP]
      rw [e2]
      exact hown2
    · have hml : m = l.length := by omega
      subst hml
      obtain ⟨g, cap, rfl, hrow⟩ := hU.done h0
      have HROW := Lib.hid hrow
      clear hU hrow hi hz0 hz1 hz2
      go_wp2_with (first | (go_at_call 40; with_reducible refine Calls.mono (HTN.out k _ rfl _ _ _ HROW.out) ?_; rintro e w1 ⟨rfl, hb⟩; have hc := hb.ccell; have hf := hb.frz; have hs := hb.sz) | (go_at_call 43; with_reducible refine Calls.mono (HRA.out _ (by (repeat (first | with_reducible exact Ext.rfl' _ | with_reducible assumption | with_reducible refine Ext.al ?_ _ | with_reducible refine Ext.dr ?_ | with_reducible refine Ext.st ?_ (by simp) _ | with_reducible refine Ext.tr ?_ (by assumption))))) ?_; rintro e w1 ⟨rfl, hb⟩; have hc := hb.ccell; have hf := hb.frz; have hs := hb.sz; (try simp at hs); (try have hs0 := hs w.heap.size (by omega)); (try have hs1 := hs (w.heap.size + 1) (by omega)); (try have hs2 := hs (w.heap.size + 1 + 1) (by omega)); (try have hs3 := hs (w.heap.size + 1 + 1 + 1) (by omega))))
      go_ret
      exact ⟨by simp, by (repeat (first | with_reducible exact Ext.rfl' _ | with_reducible assumption | with_reducible refine Ext.al ?_ _ | with_reducible refine Ext.dr ?_ | with_reducible refine Ext.st ?_ (by simp) _ | with_reducible refine Ext.tr ?_ (by assumption)))⟩
end Go.Proofs.Ytcdbekmcobghbaa
