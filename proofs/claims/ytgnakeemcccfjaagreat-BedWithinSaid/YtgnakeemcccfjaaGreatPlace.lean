/- Contracts of place and of the reference's Inside. -/
import Derived.Test.YtgnakeemcccfjaaGreatRefPoly
namespace Go.Proofs.YtgnakeemcccfjaaGreat
open Go Go.RowKit Go.IntWalk

def rB (a b p : Pt) : Bool := (decide (p.y < a.y) != decide (p.y < b.y)) && (decide (a.y < b.y) == decide (0 < crossW a b p))
def uB (a b p : Pt) : Bool := (decide (a.x ≤ p.x) != decide (b.x ≤ p.x)) && (decide (cmpI (crossW a b p) 0 < 0) == decide (a.x < b.x))
def placeV (on : Nat → Bool) (cut : Nat → Bool) (n : Nat) : Int := if anyN on n = true then 0 else if parN cut n = true then 1 else -1
def onG (l : List Pt) (p : Pt) (i : Nat) : Bool := betweenG (cor l i) (cor l (i + 1)) p
def onR (l : List Pt) (p : Pt) (i : Nat) : Bool := betweenW (cor l i) (cor l (i + 1)) p
def cutG (l : List Pt) (p : Pt) (i : Nat) : Bool := rB (cor l i) (cor l (i + 1)) p
def cutR (l : List Pt) (p : Pt) (i : Nat) : Bool := uB (cor l i) (cor l (i + 1)) p
def placeG (l : List Pt) (p : Pt) : Int := placeV (onG l p) (cutG l p) l.length
def placeR (l : List Pt) (p : Pt) : Int := placeV (onR l p) (cutR l p) l.length
def sgB (b : Bool) : Int := if b then 1 else -1
theorem sgB_bd (b : Bool) : -1 ≤ sgB b ∧ sgB b ≤ 1 := by cases b <;> decide
theorem sgB_neg (b : Bool) : -sgB b = sgB (!b) := by cases b <;> rfl

set_option maxHeartbeats 4000000 in
theorem gplace_c (l : List Pt) (px py : Int) (w : World) (A : Option Addr) (c : Nat) (hl : l.length ≤ 1000) (hA : Row 2 encP w A l) :
    Calls Tryz.prog 74 #[.slice A l.length c, .agg #[.int .i64 px, .int .i64 py]] w
      fun e w' => e = .returned (.int .i64 (placeG l ⟨px, py⟩)) ∧ Ext w w' := by
  have HSD := Lib.hid (fun w' (hw : Ext w w') => sides_c l w' A c hl (hA.ext hw))
  obtain ⟨E, hE0⟩ : ∃ E, placeG l ⟨px, py⟩ = E := ⟨_, rfl⟩
  rw [hE0]
  unfold placeG placeV at hE0
  have HT := Lib.hid hE0
  clear hE0
  go_enter Tryz.func74, Tryz.ntmps74
  go_wp2_with (first | (go_at_call 104; refine Calls.mono (HSD.out _ (by (repeat (first | with_reducible exact Ext.rfl' _ | with_reducible assumption | with_reducible refine Ext.al ?_ _ | with_reducible refine Ext.dr ?_ | with_reducible refine Ext.st ?_ (by simp) _ | with_reducible refine Ext.tr ?_ (by assumption))))) ?_; rintro e w1 ⟨g, rfl, hb, hrow⟩))
  have hE : Ext w w1 := by (repeat (first | with_reducible exact Ext.rfl' _ | with_reducible assumption | with_reducible refine Ext.al ?_ _ | with_reducible refine Ext.dr ?_ | with_reducible refine Ext.st ?_ (by simp) _ | with_reducible refine Ext.tr ?_ (by assumption)))
  have k : w1.cell? ⟨w.heap.size, 0, none⟩ = some (.int .i64 px) ∧ w1.cell? ⟨w.heap.size, 1, none⟩ = some (.int .i64 py) := by
    have hc := hb.ccell
    refine ⟨?_, ?_⟩ <;> (rw [hc _ _ (by simp)]; simp [World.cell?_alloc_new, go_sem])
  have K := Lib.hid k
  have hzp : w.heap.size < w1.heap.size := hb.sz _ (by simp)
  have HROW := Lib.hid hrow
  clear k hrow hb
  go_loopw [5, 7, 8, 12] (fun wh _ _ i wr => Ext w1 wr ∧ ∃ k : Nat, k ≤ l.length ∧ i = .int .i64 k ∧ ∃ o : Bool, wh = .int .i64 (sgB o) ∧ Hid (parN (cutG l ⟨px, py⟩) k = o) ∧ Hid (anyN (onG l ⟨px, py⟩) k = false)) (fun _ _ _ i _ => l.length - (intOf i).toNat)
  case atStart => exact ⟨Ext.rfl' _, 0, Nat.zero_le _, rfl, false, rfl, rfl, rfl⟩
  case round =>
    obtain ⟨hr, k, hk, rfl, o, rfl, hP, hN⟩ := hrel
    by_cases hlt : k < l.length
    · obtain ⟨hg, hcell⟩ := HROW.out.r4 hlt
      have c := hcell _ hr
      simp only [Nat.zero_add] at c
      have hzg := hr.sz _ hg
      have e0 := (hr.ccell _ 0 hzp).trans K.out.1
      have e1 := (hr.ccell _ 1 hzp).trans K.out.2
      have hzq := hr.sz _ hzp
      clear hcell
      have HB := Lib.hid (fun w => between_c (cor l k).x (cor l k).y (cor l (k + 1)).x (cor l (k + 1)).y px py w)
      have HC := Lib.hid (fun w => cross_c (cor l k).x (cor l k).y (cor l (k + 1)).x (cor l (k + 1)).y px py w)
      have HR := Lib.hid (show cutG l ⟨px, py⟩ k = ((decide (py < (cor l k).y) != decide (py < (cor l (k + 1)).y)) && (decide ((cor l k).y < (cor l (k + 1)).y) == decide (0 < crossW ⟨(cor l k).x, (cor l k).y⟩ ⟨(cor l (k + 1)).x, (cor l (k + 1)).y⟩ ⟨px, py⟩))) from rfl)
      have HON := Lib.hid (show onG l ⟨px, py⟩ k = betweenG ⟨(cor l k).x, (cor l k).y⟩ ⟨(cor l (k + 1)).x, (cor l (k + 1)).y⟩ ⟨px, py⟩ from rfl)
      generalize crossW ⟨(cor l k).x, (cor l k).y⟩ ⟨(cor l (k + 1)).x, (cor l (k + 1)).y⟩ ⟨px, py⟩ = z at HC HR
      generalize betweenG ⟨(cor l k).x, (cor l k).y⟩ ⟨(cor l (k + 1)).x, (cor l (k + 1)).y⟩ ⟨px, py⟩ = r at HB HON
      generalize (cor l k).x = ax at HB HC HR c
      generalize (cor l k).y = ay at HB HC HR c
      generalize (cor l (k + 1)).x = bx at HB HC HR c
      generalize (cor l (k + 1)).y = b_y at HB HC HR c
      cases r
      · have hz : ∀ d : Bool, cutG l ⟨px, py⟩ k = d → Hid (parN (cutG l ⟨px, py⟩) (k + 1) = Bool.xor o d) := by
          intro d hd; show parN (cutG l ⟨px, py⟩) (k + 1) = _; rw [parN, hP.out, hd]
        have HZ := Lib.hid hz
        have HN2 : Hid (anyN (onG l ⟨px, py⟩) (k + 1) = false) := by show anyN _ (k + 1) = false; rw [anyN, hN.out, HON.out]; rfl
        clear hz
        obtain ⟨sg0, sg1⟩ := sgB_bd o
        by_cases h1 : py < ay <;> by_cases h2 : py < b_y
        · have d1 : decide (py < ay) = true := decide_eq_true h1
          have d2 : decide (py < b_y) = true := decide_eq_true h2
          have HQ := HZ.out false (by rw [HR.out, d1, d2]; rfl)
          go_wp2_with (first | (go_at_call 105; with_reducible refine Calls.mono (HB.out _) ?_; rintro e w1 ⟨rfl, hb⟩; have hc := hb.ccell; have hf := hb.frz; have hs := hb.sz; (try simp at hs); (try have hs0 := hs w.heap.size (by omega)); (try have hs1 := hs (w.heap.size + 1) (by omega)); (try have hs2 := hs (w.heap.size + 1 + 1) (by omega)); (try have hs3 := hs (w.heap.size + 1 + 1 + 1) (by omega))))
          refine ⟨⟨by (repeat (first | with_reducible exact Ext.rfl' _ | with_reducible assumption | with_reducible refine Ext.al ?_ _ | with_reducible refine Ext.dr ?_ | with_reducible refine Ext.st ?_ (by simp) _ | with_reducible refine Ext.tr ?_ (by assumption))), k + 1, by omega, by go_num, o, rfl, ?_, HN2⟩, by simp [intOf]; omega⟩
          have := HQ.out
          exact Lib.hid (by simpa using this)
        · have h3 : ¬ ay < b_y := by omega
          by_cases h4 : 0 < z
          · have d1 : decide (py < ay) = true := decide_eq_true h1
            have d2 : decide (py < b_y) = false := decide_eq_false h2
            have d3 : decide (ay < b_y) = false := decide_eq_false h3
            have d4 : decide (0 < z) = true := decide_eq_true h4
            have HQ := HZ.out false (by rw [HR.out, d1, d2, d3, d4]; rfl)
            go_wp2_with (first | (go_at_call 105; with_reducible refine Calls.mono (HB.out _) ?_; rintro e w1 ⟨rfl, hb⟩; have hc := hb.ccell; have hf := hb.frz; have hs := hb.sz; (try simp at hs); (try have hs0 := hs w.heap.size (by omega)); (try have hs1 := hs (w.heap.size + 1) (by omega)); (try have hs2 := hs (w.heap.size + 1 + 1) (by omega)); (try have hs3 := hs (w.heap.size + 1 + 1 + 1) (by omega))) | (go_at_call 106; with_reducible refine Calls.mono (HC.out _) ?_; rintro e w1 ⟨rfl, hb⟩; have hc := hb.ccell; have hf := hb.frz; have hs := hb.sz; (try simp at hs); (try have hs0 := hs w.heap.size (by omega)); (try have hs1 := hs (w.heap.size + 1) (by omega)); (try have hs2 := hs (w.heap.size + 1 + 1) (by omega)); (try have hs3 := hs (w.heap.size + 1 + 1 + 1) (by omega))))
            refine ⟨⟨by (repeat (first | with_reducible exact Ext.rfl' _ | with_reducible assumption | with_reducible refine Ext.al ?_ _ | with_reducible refine Ext.dr ?_ | with_reducible refine Ext.st ?_ (by simp) _ | with_reducible refine Ext.tr ?_ (by assumption))), k + 1, by omega, by go_num, o, rfl, ?_, HN2⟩, by simp [intOf]; omega⟩
            have := HQ.out
            exact Lib.hid (by simpa using this)
          · skip
            have d1 : decide (py < ay) = true := decide_eq_true h1
            have d2 : decide (py < b_y) = false := decide_eq_false h2
            have d3 : decide (ay < b_y) = false := decide_eq_false h3
            have d4 : decide (0 < z) = false := decide_eq_false h4
            have HQ := HZ.out true (by rw [HR.out, d1, d2, d3, d4]; rfl)
            go_wp2_with (first | (go_at_call 105; with_reducible refine Calls.mono (HB.out _) ?_; rintro e w1 ⟨rfl, hb⟩; have hc := hb.ccell; have hf := hb.frz; have hs := hb.sz; (try simp at hs); (try have hs0 := hs w.heap.size (by omega)); (try have hs1 := hs (w.heap.size + 1) (by omega)); (try have hs2 := hs (w.heap.size + 1 + 1) (by omega)); (try have hs3 := hs (w.heap.size + 1 + 1 + 1) (by omega))) | (go_at_call 106; with_reducible refine Calls.mono (HC.out _) ?_; rintro e w1 ⟨rfl, hb⟩; have hc := hb.ccell; have hf := hb.frz; have hs := hb.sz; (try simp at hs); (try have hs0 := hs w.heap.size (by omega)); (try have hs1 := hs (w.heap.size + 1) (by omega)); (try have hs2 := hs (w.heap.size + 1 + 1) (by omega)); (try have hs3 := hs (w.heap.size + 1 + 1 + 1) (by omega))))
            refine ⟨⟨by (repeat (first | with_reducible exact Ext.rfl' _ | with_reducible assumption | with_reducible refine Ext.al ?_ _ | with_reducible refine Ext.dr ?_ | with_reducible refine Ext.st ?_ (by simp) _ | with_reducible refine Ext.tr ?_ (by assumption))), k + 1, by omega, by go_num, !o, by rw [← sgB_neg], ?_, HN2⟩, by simp [intOf]; omega⟩
            have := HQ.out
            exact Lib.hid (by simpa using this)
        · have h3 : ay < b_y := by omega
          by_cases h4 : 0 < z
          · have d1 : decide (py < ay) = false := decide_eq_false h1
            have d2 : decide (py < b_y) = true := decide_eq_true h2
            have d3 : decide (ay < b_y) = true := decide_eq_true h3
            have d4 : decide (0 < z) = true := decide_eq_true h4
            have HQ := HZ.out true (by rw [HR.out, d1, d2, d3, d4]; rfl)
            go_wp2_with (first | (go_at_call 105; with_reducible refine Calls.mono (HB.out _) ?_; rintro e w1 ⟨rfl, hb⟩; have hc := hb.ccell; have hf := hb.frz; have hs := hb.sz; (try simp at hs); (try have hs0 := hs w.heap.size (by omega)); (try have hs1 := hs (w.heap.size + 1) (by omega)); (try have hs2 := hs (w.heap.size + 1 + 1) (by omega)); (try have hs3 := hs (w.heap.size + 1 + 1 + 1) (by omega))) | (go_at_call 106; with_reducible refine Calls.mono (HC.out _) ?_; rintro e w1 ⟨rfl, hb⟩; have hc := hb.ccell; have hf := hb.frz; have hs := hb.sz; (try simp at hs); (try have hs0 := hs w.heap.size (by omega)); (try have hs1 := hs (w.heap.size + 1) (by omega)); (try have hs2 := hs (w.heap.size + 1 + 1) (by omega)); (try have hs3 := hs (w.heap.size + 1 + 1 + 1) (by omega))))
            refine ⟨⟨by (repeat (first | with_reducible exact Ext.rfl' _ | with_reducible assumption | with_reducible refine Ext.al ?_ _ | with_reducible refine Ext.dr ?_ | with_reducible refine Ext.st ?_ (by simp) _ | with_reducible refine Ext.tr ?_ (by assumption))), k + 1, by omega, by go_num, !o, by rw [← sgB_neg], ?_, HN2⟩, by simp [intOf]; omega⟩
            have := HQ.out
            exact Lib.hid (by simpa using this)
          · have d1 : decide (py < ay) = false := decide_eq_false h1
            have d2 : decide (py < b_y) = true := decide_eq_true h2
            have d3 : decide (ay < b_y) = true := decide_eq_true h3
            have d4 : decide (0 < z) = false := decide_eq_false h4
            have HQ := HZ.out false (by rw [HR.out, d1, d2, d3, d4]; rfl)
            go_wp2_with (first | (go_at_call 105; with_reducible refine Calls.mono (HB.out _) ?_; rintro e w1 ⟨rfl, hb⟩; have hc := hb.ccell; have hf := hb.frz; have hs := hb.sz; (try simp at hs); (try have hs0 := hs w.heap.size (by omega)); (try have hs1 := hs (w.heap.size + 1) (by omega)); (try have hs2 := hs (w.heap.size + 1 + 1) (by omega)); (try have hs3 := hs (w.heap.size + 1 + 1 + 1) (by omega))) | (go_at_call 106; with_reducible refine Calls.mono (HC.out _) ?_; rintro e w1 ⟨rfl, hb⟩; have hc := hb.ccell; have hf := hb.frz; have hs := hb.sz; (try simp at hs); (try have hs0 := hs w.heap.size (by omega)); (try have hs1 := hs (w.heap.size + 1) (by omega)); (try have hs2 := hs (w.heap.size + 1 + 1) (by omega)); (try have hs3 := hs (w.heap.size + 1 + 1 + 1) (by omega))))
            refine ⟨⟨by (repeat (first | with_reducible exact Ext.rfl' _ | with_reducible assumption | with_reducible refine Ext.al ?_ _ | with_reducible refine Ext.dr ?_ | with_reducible refine Ext.st ?_ (by simp) _ | with_reducible refine Ext.tr ?_ (by assumption))), k + 1, by omega, by go_num, o, rfl, ?_, HN2⟩, by simp [intOf]; omega⟩
            have := HQ.out
            exact Lib.hid (by simpa using this)
        · have d1 : decide (py < ay) = false := decide_eq_false h1
          have d2 : decide (py < b_y) = false := decide_eq_false h2
          have HQ := HZ.out false (by rw [HR.out, d1, d2]; rfl)
          go_wp2_with (first | (go_at_call 105; with_reducible refine Calls.mono (HB.out _) ?_; rintro e w1 ⟨rfl, hb⟩; have hc := hb.ccell; have hf := hb.frz; have hs := hb.sz; (try simp at hs); (try have hs0 := hs w.heap.size (by omega)); (try have hs1 := hs (w.heap.size + 1) (by omega)); (try have hs2 := hs (w.heap.size + 1 + 1) (by omega)); (try have hs3 := hs (w.heap.size + 1 + 1 + 1) (by omega))))
          refine ⟨⟨by (repeat (first | with_reducible exact Ext.rfl' _ | with_reducible assumption | with_reducible refine Ext.al ?_ _ | with_reducible refine Ext.dr ?_ | with_reducible refine Ext.st ?_ (by simp) _ | with_reducible refine Ext.tr ?_ (by assumption))), k + 1, by omega, by go_num, o, rfl, ?_, HN2⟩, by simp [intOf]; omega⟩
          have := HQ.out
          exact Lib.hid (by simpa using this)
      · go_wp2_with (first | (go_at_call 105; with_reducible refine Calls.mono (HB.out _) ?_; rintro e w1 ⟨rfl, hb⟩; have hc := hb.ccell; have hf := hb.frz; have hs := hb.sz; (try simp at hs); (try have hs0 := hs w.heap.size (by omega)); (try have hs1 := hs (w.heap.size + 1) (by omega)); (try have hs2 := hs (w.heap.size + 1 + 1) (by omega)); (try have hs3 := hs (w.heap.size + 1 + 1 + 1) (by omega))))
        go_ret
        refine ⟨ret_int ?_, by (repeat (first | with_reducible exact Ext.rfl' _ | with_reducible assumption | with_reducible refine Ext.al ?_ _ | with_reducible refine Ext.dr ?_ | with_reducible refine Ext.st ?_ (by simp) _ | with_reducible refine Ext.tr ?_ (by assumption)))⟩
        rw [← HT.out, if_pos (anyN_at (onG l ⟨px, py⟩) hlt HON.out)]
    · have hkl : k = l.length := by omega
      have hT := HT.out
      rw [← hkl, if_neg (by rw [hN.out]; decide), hP.out] at hT
      have HT2 := Lib.hid hT
      clear hT hP hN
      go_wp2
      go_ret
      exact ⟨ret_int HT2.out, by (repeat (first | with_reducible exact Ext.rfl' _ | with_reducible assumption | with_reducible refine Ext.al ?_ _ | with_reducible refine Ext.dr ?_ | with_reducible refine Ext.st ?_ (by simp) _ | with_reducible refine Ext.tr ?_ (by assumption)))⟩

theorem onR_at (l : List Pt) (p : Pt) (i : Nat) : onR l p i = betweenW (cor l i) (cor l (i + 1)) p := rfl
set_option maxHeartbeats 4000000 in
theorem rinside_c (l : List Pt) (px py : Int) (w : World) (A : Option Addr) (c : Nat) (h0 : 0 < l.length) (hl : l.length ≤ 1000) (hA : Row 2 encP w A l) :
    Calls Tryz.prog 42 #[.slice A l.length c, .agg #[.int .i64 px, .int .i64 py]] w
      fun e w' => e = .returned (.int .i64 (placeR l ⟨px, py⟩)) ∧ Ext w w' := by
  have HCO := Lib.hid (fun i (hi : i ≤ 100000) w' (hw : Ext w w') z hz => rcornerI_c l i w' A c z h0 hl hi (hA.ext hw) hz)
  obtain ⟨E, hE0⟩ : ∃ E, placeR l ⟨px, py⟩ = E := ⟨_, rfl⟩
  rw [hE0]
  unfold placeR placeV at hE0
  have HT := Lib.hid hE0
  clear hE0
  go_enter Tryz.func42, Tryz.ntmps42
  go_wp2
  have k : (w.alloc (.cells #[.int .i64 px, .int .i64 py] 51)).cell? ⟨w.heap.size, 0, none⟩ = some (.int .i64 px) ∧ (w.alloc (.cells #[.int .i64 px, .int .i64 py] 51)).cell? ⟨w.heap.size, 1, none⟩ = some (.int .i64 py) := by
    refine ⟨?_, ?_⟩ <;> simp [World.cell?_alloc_new, go_sem]
  have hE : Ext w (w.alloc (.cells #[.int .i64 px, .int .i64 py] 51)) := by (repeat (first | with_reducible exact Ext.rfl' _ | with_reducible assumption | with_reducible refine Ext.al ?_ _ | with_reducible refine Ext.dr ?_ | with_reducible refine Ext.st ?_ (by simp) _ | with_reducible refine Ext.tr ?_ (by assumption)))
  have hzp : w.heap.size < (w.alloc (.cells #[.int .i64 px, .int .i64 py] 51)).heap.size := by simp
  generalize w.alloc (.cells #[.int .i64 px, .int .i64 py] 51) = wp at *
  have K := Lib.hid k
  clear k
  go_loopw [5, 6, 7, 8] (fun od i _ _ wr => Ext wp wr ∧ ∃ k : Nat, k ≤ l.length ∧ i = .int .i64 k ∧ ∃ o : Bool, od = .bool o ∧ Hid (parN (cutR l ⟨px, py⟩) k = o) ∧ Hid (anyN (onR l ⟨px, py⟩) k = false)) (fun _ i _ _ _ => l.length - (intOf i).toNat)
  case atStart => exact ⟨Ext.rfl' _, 0, Nat.zero_le _, rfl, false, rfl, rfl, rfl⟩
  case round =>
    obtain ⟨hr, k, hk, rfl, o, rfl, hP, hN⟩ := hrel
    by_cases hlt : k < l.length
    · have e0 := (hr.ccell _ 0 hzp).trans K.out.1
      have e1 := (hr.ccell _ 1 hzp).trans K.out.2
      have hzq := hr.sz _ hzp
      have hEr := hE.tr hr
      have HC0 := Lib.hid (fun w' hw z hz => HCO.out k (by omega) w' hw z hz)
      have HC1 := Lib.hid (fun w' hw z hz => HCO.out (k + 1) (by omega) w' hw z hz)
      have HB := Lib.hid (fun w => rbetween_c (cor l k).x (cor l k).y (cor l (k + 1)).x (cor l (k + 1)).y px py w)
      have HO := Lib.hid (fun w => rorient_c (cor l k).x (cor l k).y (cor l (k + 1)).x (cor l (k + 1)).y px py w)
      have HR := Lib.hid (show cutR l ⟨px, py⟩ k = ((decide ((cor l k).x ≤ px) != decide ((cor l (k + 1)).x ≤ px)) && (decide (cmpI (crossW ⟨(cor l k).x, (cor l k).y⟩ ⟨(cor l (k + 1)).x, (cor l (k + 1)).y⟩ ⟨px, py⟩) 0 < 0) == decide ((cor l k).x < (cor l (k + 1)).x))) from rfl)
      have HON := Lib.hid (show onR l ⟨px, py⟩ k = betweenW ⟨(cor l k).x, (cor l k).y⟩ ⟨(cor l (k + 1)).x, (cor l (k + 1)).y⟩ ⟨px, py⟩ from rfl)
      generalize cmpI (crossW ⟨(cor l k).x, (cor l k).y⟩ ⟨(cor l (k + 1)).x, (cor l (k + 1)).y⟩ ⟨px, py⟩) 0 = z at HO HR
      generalize betweenW ⟨(cor l k).x, (cor l k).y⟩ ⟨(cor l (k + 1)).x, (cor l (k + 1)).y⟩ ⟨px, py⟩ = r at HB HON
      generalize (cor l k).x = ax at HB HO HR HC0 HC1
      generalize (cor l k).y = ay at HB HO HR HC0 HC1
      generalize (cor l (k + 1)).x = bx at HB HO HR HC0 HC1
      generalize (cor l (k + 1)).y = b_y at HB HO HR HC0 HC1
      go_upto_region 6 with (first | (go_at_call 39; with_reducible refine Calls.mono (HC0.out _ (by (repeat (first | with_reducible exact Ext.rfl' _ | with_reducible assumption | with_reducible refine Ext.al ?_ _ | with_reducible refine Ext.dr ?_ | with_reducible refine Ext.st ?_ (by simp) _ | with_reducible refine Ext.tr ?_ (by assumption)))) _ (by omega)) ?_; rintro e w1 ⟨rfl, hb⟩; have hc := hb.ccell; have hf := hb.frz; have hs := hb.sz; (try simp at hs); (try have hs0 := hs w.heap.size (by omega)); (try have hs1 := hs (w.heap.size + 1) (by omega)); (try have hs2 := hs (w.heap.size + 1 + 1) (by omega)); (try have hs3 := hs (w.heap.size + 1 + 1 + 1) (by omega))) | (go_at_call 39; with_reducible refine Calls.mono (HC1.out _ (by (repeat (first | with_reducible exact Ext.rfl' _ | with_reducible assumption | with_reducible refine Ext.al ?_ _ | with_reducible refine Ext.dr ?_ | with_reducible refine Ext.st ?_ (by simp) _ | with_reducible refine Ext.tr ?_ (by assumption)))) _ (by omega)) ?_; rintro e w1 ⟨rfl, hb⟩; have hc := hb.ccell; have hf := hb.frz; have hs := hb.sz; (try simp at hs); (try have hs0 := hs w.heap.size (by omega)); (try have hs1 := hs (w.heap.size + 1) (by omega)); (try have hs2 := hs (w.heap.size + 1 + 1) (by omega)); (try have hs3 := hs (w.heap.size + 1 + 1 + 1) (by omega))))
      refine wp_name (fun W hW => ?_)
      have hE : Ext w W := by rw [hW]; (repeat (first | with_reducible exact Ext.rfl' _ | with_reducible assumption | with_reducible refine Ext.al ?_ _ | with_reducible refine Ext.dr ?_ | with_reducible refine Ext.st ?_ (by simp) _ | with_reducible refine Ext.tr ?_ (by assumption)))
      have HW := Lib.hid hW
      clear hW
      have hrW : Ext wr W := by rw [HW.out]; (repeat (first | with_reducible exact Ext.rfl' _ | with_reducible assumption | with_reducible refine Ext.al ?_ _ | with_reducible refine Ext.dr ?_ | with_reducible refine Ext.st ?_ (by simp) _ | with_reducible refine Ext.tr ?_ (by assumption)))
      have k7 : W.cell? ⟨w1.heap.size, 0, none⟩ = some (.int .i64 ax) ∧ W.cell? ⟨w1.heap.size, 1, none⟩ = some (.int .i64 ay) := by
        rw [HW.out]; refine ⟨?_, ?_⟩ <;> simp [World.cell?_alloc_past, World.cell?_alloc_new, go_sem]
      have k8 : W.cell? ⟨w1.heap.size + 1, 0, none⟩ = some (.int .i64 bx) ∧ W.cell? ⟨w1.heap.size + 1, 1, none⟩ = some (.int .i64 b_y) := by
        rw [HW.out]; refine ⟨?_, ?_⟩ <;> simp [go_sem]
      have z8 : w1.heap.size + 1 < W.heap.size := by rw [HW.out]; simp
      have z7 : w1.heap.size < W.heap.size := by omega
      have zp := hrW.sz _ hzq
      have p0 := (hrW.ccell _ 0 hzq).trans e0
      have p1 := (hrW.ccell _ 1 hzq).trans e1
      have hWp : Ext wp W := hr.tr hrW
      clear HW e0 e1 hzq hEr hrW
      generalize w1.heap.size = n0 at *
      clear hb hc hf hs
      cases r
      case true =>
        go_wp2_with (first | (go_at_call 40; with_reducible refine Calls.mono (HB.out _) ?_; rintro e w1 ⟨rfl, hb⟩; have hc := hb.ccell; have hf := hb.frz; have hs := hb.sz; (try simp at hs); (try have hs0 := hs w.heap.size (by omega)); (try have hs1 := hs (w.heap.size + 1) (by omega)); (try have hs2 := hs (w.heap.size + 1 + 1) (by omega)); (try have hs3 := hs (w.heap.size + 1 + 1 + 1) (by omega))))
        go_ret
        refine ⟨ret_int ?_, by (repeat (first | with_reducible exact Ext.rfl' _ | with_reducible assumption | with_reducible refine Ext.al ?_ _ | with_reducible refine Ext.dr ?_ | with_reducible refine Ext.st ?_ (by simp) _ | with_reducible refine Ext.tr ?_ (by assumption)))⟩
        rw [← HT.out, if_pos (anyN_at (onR l ⟨px, py⟩) hlt HON.out)]
      have hz : ∀ d : Bool, cutR l ⟨px, py⟩ k = d → Hid (parN (cutR l ⟨px, py⟩) (k + 1) = Bool.xor o d) := by
        intro d hd; show parN (cutR l ⟨px, py⟩) (k + 1) = _; rw [parN, hP.out, hd]
      have HZ := Lib.hid hz
      have HN2 : Hid (anyN (onR l ⟨px, py⟩) (k + 1) = false) := by show anyN _ (k + 1) = false; rw [anyN, hN.out, HON.out]; rfl
      clear hz
      by_cases h1 : ax ≤ px <;> by_cases h2 : bx ≤ px
      · have d1 : decide (ax ≤ px) = true := decide_eq_true h1
        have d2 : decide (bx ≤ px) = true := decide_eq_true h2
        have HQ := HZ.out false (by rw [HR.out, d1, d2]; rfl)
        go_upto_region 8 with (first | (go_at_call 40; with_reducible refine Calls.mono (HB.out _) ?_; rintro e w1 ⟨rfl, hb⟩; have hc := hb.ccell; have hf := hb.frz; have hs := hb.sz; (try simp at hs); (try have t0 := hs (n0) (by first | assumption | omega)); (try have t1 := hs (n0 + 1) (by first | assumption | omega)); (try have t2 := hs (w.heap.size) (by first | assumption | omega))))
        refine region_grow (by kernel_rfl) (by kernel_rfl) ?_
        repeat (first | go_big_quiet_step (first  | fail) | quiet_step (first  | fail))
        refine wpQuiet_nil ?_
        intro w1 hb
        have hc := hb.ccell
        have hf := hb.frz
        have hs := hb.sz
        (try simp at hs); (try have hs0 := hs w.heap.size (by omega)); (try have hs1 := hs (w.heap.size + 1) (by omega)); (try have hs2 := hs (w.heap.size + 1 + 1) (by omega)); (try have hs3 := hs (w.heap.size + 1 + 1 + 1) (by omega))
        (try simp only [IntWalk.i64_left])
        go_wp2
        exact ⟨⟨by (repeat (first | with_reducible exact Ext.rfl' _ | with_reducible assumption | with_reducible refine Ext.al ?_ _ | with_reducible refine Ext.dr ?_ | with_reducible refine Ext.st ?_ (by simp) _ | with_reducible refine Ext.tr ?_ (by assumption))), k + 1, by omega, by go_num, o, rfl, Lib.hid (by have := HQ.out; simpa using this), HN2⟩, by simp [intOf]; omega⟩
      · have h3 : ax < bx := by omega
        by_cases h4 : z < 0
        · have d1 : decide (ax ≤ px) = true := decide_eq_true h1
          have d2 : decide (bx ≤ px) = false := decide_eq_false h2
          have d3 : decide (ax < bx) = true := decide_eq_true h3
          have d4 : decide (z < 0) = true := decide_eq_true h4
          have HQ := HZ.out true (by rw [HR.out, d1, d2, d3, d4]; rfl)
          go_upto_region 8 with (first | (go_at_call 40; with_reducible refine Calls.mono (HB.out _) ?_; rintro e w1 ⟨rfl, hb⟩; have hc := hb.ccell; have hf := hb.frz; have hs := hb.sz; (try simp at hs); (try have t0 := hs (n0) (by first | assumption | omega)); (try have t1 := hs (n0 + 1) (by first | assumption | omega)); (try have t2 := hs (w.heap.size) (by first | assumption | omega))))
          refine region_grow (by kernel_rfl) (by kernel_rfl) ?_
          repeat (first | go_big_quiet_step (first | (go_at_call 52; with_reducible exact callsGrow (HO.out _)) | fail) | quiet_step (first | (go_at_call 52; with_reducible exact callsGrow (HO.out _)) | fail))
          refine wpQuiet_nil ?_
          intro w1 hb
          have hc := hb.ccell
          have hf := hb.frz
          have hs := hb.sz
          (try simp at hs); (try have hs0 := hs w.heap.size (by omega)); (try have hs1 := hs (w.heap.size + 1) (by omega)); (try have hs2 := hs (w.heap.size + 1 + 1) (by omega)); (try have hs3 := hs (w.heap.size + 1 + 1 + 1) (by omega))
          (try simp only [IntWalk.i64_left])
          go_wp2
          exact ⟨⟨by (repeat (first | with_reducible exact Ext.rfl' _ | with_reducible assumption | with_reducible refine Ext.al ?_ _ | with_reducible refine Ext.dr ?_ | with_reducible refine Ext.st ?_ (by simp) _ | with_reducible refine Ext.tr ?_ (by assumption))), k + 1, by omega, by go_num, !o, rfl, Lib.hid (by have := HQ.out; simpa using this), HN2⟩, by simp [intOf]; omega⟩
        · have d1 : decide (ax ≤ px) = true := decide_eq_true h1
          have d2 : decide (bx ≤ px) = false := decide_eq_false h2
          have d3 : decide (ax < bx) = true := decide_eq_true h3
          have d4 : decide (z < 0) = false := decide_eq_false h4
          have HQ := HZ.out false (by rw [HR.out, d1, d2, d3, d4]; rfl)
          go_upto_region 8 with (first | (go_at_call 40; with_reducible refine Calls.mono (HB.out _) ?_; rintro e w1 ⟨rfl, hb⟩; have hc := hb.ccell; have hf := hb.frz; have hs := hb.sz; (try simp at hs); (try have t0 := hs (n0) (by first | assumption | omega)); (try have t1 := hs (n0 + 1) (by first | assumption | omega)); (try have t2 := hs (w.heap.size) (by first | assumption | omega))))
          refine region_grow (by kernel_rfl) (by kernel_rfl) ?_
          repeat (first | go_big_quiet_step (first | (go_at_call 52; with_reducible exact callsGrow (HO.out _)) | fail) | quiet_step (first | (go_at_call 52; with_reducible exact callsGrow (HO.out _)) | fail))
          refine wpQuiet_nil ?_
          intro w1 hb
          have hc := hb.ccell
          have hf := hb.frz
          have hs := hb.sz
          (try simp at hs); (try have hs0 := hs w.heap.size (by omega)); (try have hs1 := hs (w.heap.size + 1) (by omega)); (try have hs2 := hs (w.heap.size + 1 + 1) (by omega)); (try have hs3 := hs (w.heap.size + 1 + 1 + 1) (by omega))
          (try simp only [IntWalk.i64_left])
          go_wp2
          exact ⟨⟨by (repeat (first | with_reducible exact Ext.rfl' _ | with_reducible assumption | with_reducible refine Ext.al ?_ _ | with_reducible refine Ext.dr ?_ | with_reducible refine Ext.st ?_ (by simp) _ | with_reducible refine Ext.tr ?_ (by assumption))), k + 1, by omega, by go_num, o, rfl, Lib.hid (by have := HQ.out; simpa using this), HN2⟩, by simp [intOf]; omega⟩
      · have h3 : ¬ ax < bx := by omega
        by_cases h4 : z < 0
        · have d1 : decide (ax ≤ px) = false := decide_eq_false h1
          have d2 : decide (bx ≤ px) = true := decide_eq_true h2
          have d3 : decide (ax < bx) = false := decide_eq_false h3
          have d4 : decide (z < 0) = true := decide_eq_true h4
          have HQ := HZ.out false (by rw [HR.out, d1, d2, d3, d4]; rfl)
          go_upto_region 8 with (first | (go_at_call 40; with_reducible refine Calls.mono (HB.out _) ?_; rintro e w1 ⟨rfl, hb⟩; have hc := hb.ccell; have hf := hb.frz; have hs := hb.sz; (try simp at hs); (try have t0 := hs (n0) (by first | assumption | omega)); (try have t1 := hs (n0 + 1) (by first | assumption | omega)); (try have t2 := hs (w.heap.size) (by first | assumption | omega))))
          refine region_grow (by kernel_rfl) (by kernel_rfl) ?_
          repeat (first | go_big_quiet_step (first | (go_at_call 52; with_reducible exact callsGrow (HO.out _)) | fail) | quiet_step (first | (go_at_call 52; with_reducible exact callsGrow (HO.out _)) | fail))
          refine wpQuiet_nil ?_
          intro w1 hb
          have hc := hb.ccell
          have hf := hb.frz
          have hs := hb.sz
          (try simp at hs); (try have hs0 := hs w.heap.size (by omega)); (try have hs1 := hs (w.heap.size + 1) (by omega)); (try have hs2 := hs (w.heap.size + 1 + 1) (by omega)); (try have hs3 := hs (w.heap.size + 1 + 1 + 1) (by omega))
          (try simp only [IntWalk.i64_left])
          go_wp2
          exact ⟨⟨by (repeat (first | with_reducible exact Ext.rfl' _ | with_reducible assumption | with_reducible refine Ext.al ?_ _ | with_reducible refine Ext.dr ?_ | with_reducible refine Ext.st ?_ (by simp) _ | with_reducible refine Ext.tr ?_ (by assumption))), k + 1, by omega, by go_num, o, rfl, Lib.hid (by have := HQ.out; simpa using this), HN2⟩, by simp [intOf]; omega⟩
        · have d1 : decide (ax ≤ px) = false := decide_eq_false h1
          have d2 : decide (bx ≤ px) = true := decide_eq_true h2
          have d3 : decide (ax < bx) = false := decide_eq_false h3
          have d4 : decide (z < 0) = false := decide_eq_false h4
          have HQ := HZ.out true (by rw [HR.out, d1, d2, d3, d4]; rfl)
          go_upto_region 8 with (first | (go_at_call 40; with_reducible refine Calls.mono (HB.out _) ?_; rintro e w1 ⟨rfl, hb⟩; have hc := hb.ccell; have hf := hb.frz; have hs := hb.sz; (try simp at hs); (try have t0 := hs (n0) (by first | assumption | omega)); (try have t1 := hs (n0 + 1) (by first | assumption | omega)); (try have t2 := hs (w.heap.size) (by first | assumption | omega))))
          refine region_grow (by kernel_rfl) (by kernel_rfl) ?_
          repeat (first | go_big_quiet_step (first | (go_at_call 52; with_reducible exact callsGrow (HO.out _)) | fail) | quiet_step (first | (go_at_call 52; with_reducible exact callsGrow (HO.out _)) | fail))
          refine wpQuiet_nil ?_
          intro w1 hb
          have hc := hb.ccell
          have hf := hb.frz
          have hs := hb.sz
          (try simp at hs); (try have hs0 := hs w.heap.size (by omega)); (try have hs1 := hs (w.heap.size + 1) (by omega)); (try have hs2 := hs (w.heap.size + 1 + 1) (by omega)); (try have hs3 := hs (w.heap.size + 1 + 1 + 1) (by omega))
          (try simp only [IntWalk.i64_left])
          go_wp2
          exact ⟨⟨by (repeat (first | with_reducible exact Ext.rfl' _ | with_reducible assumption | with_reducible refine Ext.al ?_ _ | with_reducible refine Ext.dr ?_ | with_reducible refine Ext.st ?_ (by simp) _ | with_reducible refine Ext.tr ?_ (by assumption))), k + 1, by omega, by go_num, !o, rfl, Lib.hid (by have := HQ.out; simpa using this), HN2⟩, by simp [intOf]; omega⟩
      · have d1 : decide (ax ≤ px) = false := decide_eq_false h1
        have d2 : decide (bx ≤ px) = false := decide_eq_false h2
        have HQ := HZ.out false (by rw [HR.out, d1, d2]; rfl)
        go_upto_region 8 with (first | (go_at_call 40; with_reducible refine Calls.mono (HB.out _) ?_; rintro e w1 ⟨rfl, hb⟩; have hc := hb.ccell; have hf := hb.frz; have hs := hb.sz; (try simp at hs); (try have t0 := hs (n0) (by first | assumption | omega)); (try have t1 := hs (n0 + 1) (by first | assumption | omega)); (try have t2 := hs (w.heap.size) (by first | assumption | omega))))
        refine region_grow (by kernel_rfl) (by kernel_rfl) ?_
        repeat (first | go_big_quiet_step (first  | fail) | quiet_step (first  | fail))
        refine wpQuiet_nil ?_
        intro w1 hb
        have hc := hb.ccell
        have hf := hb.frz
        have hs := hb.sz
        (try simp at hs); (try have hs0 := hs w.heap.size (by omega)); (try have hs1 := hs (w.heap.size + 1) (by omega)); (try have hs2 := hs (w.heap.size + 1 + 1) (by omega)); (try have hs3 := hs (w.heap.size + 1 + 1 + 1) (by omega))
        (try simp only [IntWalk.i64_left])
        go_wp2
        exact ⟨⟨by (repeat (first | with_reducible exact Ext.rfl' _ | with_reducible assumption | with_reducible refine Ext.al ?_ _ | with_reducible refine Ext.dr ?_ | with_reducible refine Ext.st ?_ (by simp) _ | with_reducible refine Ext.tr ?_ (by assumption))), k + 1, by omega, by go_num, o, rfl, Lib.hid (by have := HQ.out; simpa using this), HN2⟩, by simp [intOf]; omega⟩
    · have hkl : k = l.length := by omega
      have hT := HT.out
      rw [← hkl, if_neg (by rw [hN.out]; decide), hP.out] at hT
      have HT2 := Lib.hid hT
      clear hT hP hN
      cases o
      all_goals
        go_wp2
        go_ret
        exact ⟨ret_int HT2.out, by (repeat (first | with_reducible exact Ext.rfl' _ | with_reducible assumption | with_reducible refine Ext.al ?_ _ | with_reducible refine Ext.dr ?_ | with_reducible refine Ext.st ?_ (by simp) _ | with_reducible refine Ext.tr ?_ (by assumption)))⟩
end Go.Proofs.YtgnakeemcccfjaaGreat
