/- BedWithin: places of a polygon, centres, isHigher, Within and Highest, and the reference's. -/
import Derived.Test.YtgnakeemcccfjaaGreatBplpure
import Derived.Test.YtgnakeemcccfjaaGreatNear2
import Derived.Test.YtgnakeemcccfjaaGreatTtail
import Derived.Test.YtgnakeemcccfjaaGreatBawake
namespace Go.Proofs.YtgnakeemcccfjaaGreat
open Go Go.RowKit Go.IntWalk

set_option maxHeartbeats 4000000 in
theorem centre_c (g : Gr) (cn i : Nat) (w : World) (A : Option Addr) (c : Nat) (v : VG g) (hC : g.C = cn) (hi : i < g.L.length) :
    Calls Tryz.prog 33 #[.agg #[.int .i64 g.X, .int .i64 g.Y, .int .i64 g.S, .int .i64 g.C, .int .i64 g.R, .slice A g.L.length c], .int .i64 i] w fun e w' => e = .returned (.agg #[.int .i64 (ctX g cn i), .int .i64 (ctY g cn i)]) ∧ Ext w w' := by
  have hx := v.hx
  have hy := v.hy
  have hs := v.hs
  have hc := v.hc
  have hn := v.hn
  have hln := v.len
  obtain ⟨cn', rn, e1, e2, e3, e4, e5, e6, e7, e8⟩ := v.nat
  have hcn : cn' = cn := by omega
  subst hcn
  have hd1 : i / cn' < rn := by rw [Nat.div_lt_iff_lt_mul e3, Nat.mul_comm]; omega
  have hd2 := Nat.mod_lt i e3
  have ed : (i : Int) / g.C = ((i / cn' : Nat) : Int) := by rw [e1]; simp
  have em : (i : Int) % g.C = ((i % cn' : Nat) : Int) := by rw [e1]; simp
  have hC00 : ¬ g.C = 0 := by omega
  have hgC : 0 < g.C ∧ g.C ≤ 1024 := by omega
  clear hC e1 e2 e7 e8 hn hln hc v
  unfold ctX ctY
  generalize i / cn' = dv at *
  generalize i % cn' = md at *
  have b1 : 0 ≤ (md : Int) * g.S ∧ (md : Int) * g.S ≤ 1024 * 10000 := ⟨Int.mul_nonneg (by omega) (by omega), Int.mul_le_mul (by omega) (by omega) (by omega) (by omega)⟩
  have b2 : 0 ≤ (dv : Int) * g.S ∧ (dv : Int) * g.S ≤ 1024 * 10000 := ⟨Int.mul_nonneg (by omega) (by omega), Int.mul_le_mul (by omega) (by omega) (by omega) (by omega)⟩
  go_enter Tryz.func33, Tryz.ntmps33
  go_upto_region 1 with fail
  refine region_grow (by kernel_rfl) (by kernel_rfl) ?_
  repeat (first | go_big_quiet_step (first  | fail) | quiet_step (first  | fail))
  refine wpQuiet_nil ?_
  intro w1 hb
  have hc := hb.ccell
  have hf := hb.frz
  have hs := hb.sz
  (try simp at hs); (try have hs0 := hs w.heap.size (by omega)); (try have hs1 := hs (w.heap.size + 1) (by omega)); (try have hs2 := hs (w.heap.size + 1 + 1) (by omega)); (try have hs3 := hs (w.heap.size + 1 + 1 + 1) (by omega))
  (try simp only [IntWalk.i64_left])
  go_wp2
  have z0 : w1.cell? ⟨w.heap.size + 1, 0, none⟩ = some (.int .i64 0) := by simp [*, go_sem]
  have z1 : w1.cell? ⟨w.heap.size + 1, 1, none⟩ = some (.int .i64 0) := by simp [*, go_sem]
  exact bodyPost_ret (v := .agg #[.int .i64 (g.X + (md : Int) * g.S + g.S / 2), .int .i64 (g.Y + (dv : Int) * g.S + g.S / 2)]) (by simp [results, Tryz.results33, go_sem, z0, z1]) rfl ⟨rfl, Ext.st (Ext.st (show Ext w w1 by (repeat (first | with_reducible exact Ext.rfl' _ | with_reducible assumption | with_reducible refine Ext.al ?_ _ | with_reducible refine Ext.dr ?_ | with_reducible refine Ext.st ?_ (by simp) _ | with_reducible refine Ext.tr ?_ (by assumption)))) (by simp) _) (by simp) _⟩
set_option maxHeartbeats 4000000 in
theorem rcentre_c (g : Gr) (cn i : Nat) (w : World) (A : Option Addr) (c : Nat) (v : VG g) (hC : g.C = cn) (hi : i < g.L.length) :
    Calls Tryz.prog 43 #[.agg #[.int .i64 g.X, .int .i64 g.Y, .int .i64 g.S, .int .i64 g.C, .int .i64 g.R, .slice A g.L.length c], .int .i64 i] w fun e w' => e = .returned (.agg #[.int .i64 (ctX g cn i), .int .i64 (ctY g cn i)]) ∧ Ext w w' := by
  have hx := v.hx
  have hy := v.hy
  have hs := v.hs
  have hc := v.hc
  have hn := v.hn
  have hln := v.len
  obtain ⟨cn', rn, e1, e2, e3, e4, e5, e6, e7, e8⟩ := v.nat
  have hcn : cn' = cn := by omega
  subst hcn
  have hd1 : i / cn' < rn := by rw [Nat.div_lt_iff_lt_mul e3, Nat.mul_comm]; omega
  have hd2 := Nat.mod_lt i e3
  have ed : (i : Int) / g.C = ((i / cn' : Nat) : Int) := by rw [e1]; simp
  have em : (i : Int) % g.C = ((i % cn' : Nat) : Int) := by rw [e1]; simp
  have hC00 : ¬ g.C = 0 := by omega
  have hgC : 0 < g.C ∧ g.C ≤ 1024 := by omega
  clear hC e1 e2 e7 e8 hn hln hc v
  unfold ctX ctY
  generalize i / cn' = dv at *
  generalize i % cn' = md at *
  have b1 : 0 ≤ (md : Int) * g.S ∧ (md : Int) * g.S ≤ 1024 * 10000 := ⟨Int.mul_nonneg (by omega) (by omega), Int.mul_le_mul (by omega) (by omega) (by omega) (by omega)⟩
  have b2 : 0 ≤ (dv : Int) * g.S ∧ (dv : Int) * g.S ≤ 1024 * 10000 := ⟨Int.mul_nonneg (by omega) (by omega), Int.mul_le_mul (by omega) (by omega) (by omega) (by omega)⟩
  go_enter Tryz.func43, Tryz.ntmps43
  go_upto_region 1 with fail
  refine region_grow_tail 29 (by kernel_rfl) (by kernel_rfl) ?_
  simp only [List.take_succ_cons, List.take_zero, List.drop_succ_cons, List.drop_zero]
  repeat (first | go_big_quiet_step (first | fail | fail) | quiet_step (first | fail | fail))
  refine wpQuiet_nil ?_
  intro w1 hb
  have hc := hb.ccell
  have hf := hb.frz
  have hs := hb.sz
  (try simp at hs); (try have hs0 := hs w.heap.size (by omega)); (try have hs1 := hs (w.heap.size + 1) (by omega)); (try have hs2 := hs (w.heap.size + 1 + 1) (by omega)); (try have hs3 := hs (w.heap.size + 1 + 1 + 1) (by omega))
  go_wp2
  have z0 : w1.cell? ⟨w.heap.size + 1, 0, none⟩ = some (.int .i64 0) := by simp [*, go_sem]
  have z1 : w1.cell? ⟨w.heap.size + 1, 1, none⟩ = some (.int .i64 0) := by simp [*, go_sem]
  exact bodyPost_ret (v := .agg #[.int .i64 (g.X + (md : Int) * g.S + g.S / 2), .int .i64 (g.Y + (dv : Int) * g.S + g.S / 2)]) (by simp [results, Tryz.results43, go_sem, z0, z1]) rfl ⟨rfl, Ext.st (Ext.st (show Ext w w1 by (repeat (first | with_reducible exact Ext.rfl' _ | with_reducible assumption | with_reducible refine Ext.al ?_ _ | with_reducible refine Ext.dr ?_ | with_reducible refine Ext.st ?_ (by simp) _ | with_reducible refine Ext.tr ?_ (by assumption)))) (by simp) _) (by simp) _⟩
theorem cmp_lt0 (z : Int) : (cmpI z 0 < 0) ↔ (z < 0) := by unfold cmpI; split <;> (try split) <;> omega
theorem rB_good {a b p : Pt} (ha : good a = true) (hb : good b = true) (hp : good p = true) : rB a b p = rightB a b p := by
  unfold rB rightB; rw [crossW_good ha hb hp]
theorem uB_good {a b p : Pt} (ha : good a = true) (hb : good b = true) (hp : good p = true) : uB a b p = upcB a b p := by
  unfold uB upcB; rw [crossW_good ha hb hp, dec_eq (cmp_lt0 _)]
theorem place_same (l : List Pt) (p : Pt) (hl : allGood l = true) (hp : good p = true) : placeR l p = placeG l p := by
  unfold placeR placeG placeV
  have e1 : anyN (onR l p) l.length = anyN (onG l p) l.length := anyN_congr _ (fun i _ => (betG_W (cor_good hl _) (cor_good hl _) hp).symm)
  rw [e1]
  cases hc : anyN (onG l p) l.length
  · have h2 : ∀ i, i < l.length → ¬ betZ (cor l i) (cor l (i + 1)) p := by
      intro i hi hb
      have := (anyN_no _ _).1 hc i hi
      rw [show onG l p i = betweenG (cor l i) (cor l (i + 1)) p from rfl, (betG_iff (cor_good hl _) (cor_good hl _) hp).2 hb] at this
      cases this
    have e2 := parity_eq l p h2
    have e3 : parN (cutR l p) l.length = parN (fun i => upcB (cor l i) (cor l (i + 1)) p) l.length := parN_congr _ (fun i _ => uB_good (cor_good hl _) (cor_good hl _) hp)
    have e4 : parN (cutG l p) l.length = parN (fun i => rightB (cor l i) (cor l (i + 1)) p) l.length := parN_congr _ (fun i _ => rB_good (cor_good hl _) (cor_good hl _) hp)
    rw [e3, e4, e2]
  · rfl

def hiB (L : List Int) (i j : Nat) : Bool := decide (gi L j < gi L i) || (decide (gi L i = gi L j) && decide (i < j))
set_option maxHeartbeats 4000000 in
theorem isHigher_c (g : Gr) (i j : Nat) (w : World) (A : Option Addr) (c : Nat) (hi : i < g.L.length) (hj : j < g.L.length) (hA : Row 1 encZ w A g.L) :
    Calls Tryz.prog 36 #[.agg #[.int .i64 g.X, .int .i64 g.Y, .int .i64 g.S, .int .i64 g.C, .int .i64 g.R, .slice A g.L.length c], .int .i64 (i : Int), .int .i64 (j : Int)] w fun e w' => e = .returned (.bool (hiB g.L i j)) ∧ Ext w w' := by
  obtain ⟨bl, ol, rfl, hbl, hcl⟩ := hA.p1 hi
  obtain ⟨bl', ol', hAe, _, hcl2⟩ := hA.p1 hj
  injection hAe with hAe
  injection hAe with e1 e2
  subst e1 e2
  have d1 := hcl _ (Ext.rfl' w)
  have d2 := hcl2 _ (Ext.rfl' w)
  rw [← gi_lt] at d1 d2
  have hi0 : (0 : Int) ≤ i := by omega
  have hj0 : (0 : Int) ≤ j := by omega
  unfold hiB
  clear hcl hcl2
  generalize gi g.L i = a at *
  generalize gi g.L j = b at *
  by_cases h1 : b < a
  · rw [decide_eq_true h1]
    go_enter Tryz.func36, Tryz.ntmps36
    go_upto_region 1 with fail
    refine region_grow (by kernel_rfl) (by kernel_rfl) ?_
    repeat (first | go_big_quiet_step (first  | fail) | quiet_step (first  | fail))
    refine wpQuiet_nil ?_
    intro w1 hb
    have hc := hb.ccell
    have hf := hb.frz
    have hs := hb.sz
    (try simp at hs); (try have hs0 := hs w.heap.size (by omega)); (try have hs1 := hs (w.heap.size + 1) (by omega)); (try have hs2 := hs (w.heap.size + 1 + 1) (by omega)); (try have hs3 := hs (w.heap.size + 1 + 1 + 1) (by omega))
    (try simp only [IntWalk.i64_left])
    go_wp2
    go_ret
    exact ⟨rfl, by (repeat (first | with_reducible exact Ext.rfl' _ | with_reducible assumption | with_reducible refine Ext.al ?_ _ | with_reducible refine Ext.dr ?_ | with_reducible refine Ext.st ?_ (by simp) _ | with_reducible refine Ext.tr ?_ (by assumption)))⟩
  have h1' : decide (b < a) = false := decide_eq_false h1
  rw [h1']
  by_cases h2 : a = b
  · subst h2
    by_cases h3 : i < j
    · have h3' : decide ((i : Int) < j) = true := decide_eq_true (by omega)
      rw [decide_eq_true h3]
      have H3 := Lib.hid h3
      clear h1 h3
      go_enter Tryz.func36, Tryz.ntmps36
      go_upto_region 1 with fail
      refine region_grow (by kernel_rfl) (by kernel_rfl) ?_
      repeat (first | go_big_quiet_step (first  | fail) | quiet_step (first  | fail))
      refine wpQuiet_nil ?_
      intro w1 hb
      have hc := hb.ccell
      have hf := hb.frz
      have hs := hb.sz
      (try simp at hs); (try have hs0 := hs w.heap.size (by omega)); (try have hs1 := hs (w.heap.size + 1) (by omega)); (try have hs2 := hs (w.heap.size + 1 + 1) (by omega)); (try have hs3 := hs (w.heap.size + 1 + 1 + 1) (by omega))
      (try simp only [IntWalk.i64_left])
      go_wp2
      go_ret
      exact ⟨ret_bool (by have := H3.out; simp; omega), by (repeat (first | with_reducible exact Ext.rfl' _ | with_reducible assumption | with_reducible refine Ext.al ?_ _ | with_reducible refine Ext.dr ?_ | with_reducible refine Ext.st ?_ (by simp) _ | with_reducible refine Ext.tr ?_ (by assumption)))⟩
    · have h3' : decide ((i : Int) < j) = false := decide_eq_false (by omega)
      rw [decide_eq_false h3]
      have H3 := Lib.hid h3
      clear h1 h3
      go_enter Tryz.func36, Tryz.ntmps36
      go_upto_region 1 with fail
      refine region_grow (by kernel_rfl) (by kernel_rfl) ?_
      repeat (first | go_big_quiet_step (first  | fail) | quiet_step (first  | fail))
      refine wpQuiet_nil ?_
      intro w1 hb
      have hc := hb.ccell
      have hf := hb.frz
      have hs := hb.sz
      (try simp at hs); (try have hs0 := hs w.heap.size (by omega)); (try have hs1 := hs (w.heap.size + 1) (by omega)); (try have hs2 := hs (w.heap.size + 1 + 1) (by omega)); (try have hs3 := hs (w.heap.size + 1 + 1 + 1) (by omega))
      (try simp only [IntWalk.i64_left])
      go_wp2
      go_ret
      exact ⟨ret_bool (by have := H3.out; simp; omega), by (repeat (first | with_reducible exact Ext.rfl' _ | with_reducible assumption | with_reducible refine Ext.al ?_ _ | with_reducible refine Ext.dr ?_ | with_reducible refine Ext.st ?_ (by simp) _ | with_reducible refine Ext.tr ?_ (by assumption)))⟩
  · have h2' : (a == b) = false := by simp [h2]
    rw [decide_eq_false h2]
    clear h1 h2
    go_enter Tryz.func36, Tryz.ntmps36
    go_upto_region 1 with fail
    refine region_grow (by kernel_rfl) (by kernel_rfl) ?_
    repeat (first | go_big_quiet_step (first  | fail) | quiet_step (first  | fail))
    refine wpQuiet_nil ?_
    intro w1 hb
    have hc := hb.ccell
    have hf := hb.frz
    have hs := hb.sz
    (try simp at hs); (try have hs0 := hs w.heap.size (by omega)); (try have hs1 := hs (w.heap.size + 1) (by omega)); (try have hs2 := hs (w.heap.size + 1 + 1) (by omega)); (try have hs3 := hs (w.heap.size + 1 + 1 + 1) (by omega))
    (try simp only [IntWalk.i64_left])
    go_wp2
    go_ret
    exact ⟨rfl, by (repeat (first | with_reducible exact Ext.rfl' _ | with_reducible assumption | with_reducible refine Ext.al ?_ _ | with_reducible refine Ext.dr ?_ | with_reducible refine Ext.st ?_ (by simp) _ | with_reducible refine Ext.tr ?_ (by assumption)))⟩

/-- The highest known one of the first m cells, of several ones that with the least index; -1 if none is known. -/
def HiI (L : List Int) (cells : List Int) (m : Nat) (best : Int) : Prop :=
  (best = -1 ∧ ∀ j, j < m → ∀ k : Nat, gi cells j = k → k < L.length → knB L k = false) ∨
  ∃ i : Nat, best = i ∧ i < L.length ∧ knB L i = true ∧ (∃ j, j < m ∧ gi cells j = i) ∧ ∀ j, j < m → ∀ k : Nat, gi cells j = k → k < L.length → knB L k = true → gi L k < gi L i ∨ (gi L k = gi L i ∧ i ≤ k)
theorem HiI.skip {L cells : List Int} {m : Nat} {best : Int} (h : HiI L cells m best) (hs : ∀ k : Nat, gi cells m = k → k < L.length → knB L k = true → ∃ i : Nat, best = i ∧ (gi L k < gi L i ∨ (gi L k = gi L i ∧ i ≤ k))) : HiI L cells (m + 1) best := by
  rcases h with ⟨h1, h2⟩ | ⟨i, h1, h2, h3, ⟨j, h4, h5⟩, h6⟩
  · refine .inl ⟨h1, fun j hj k hk hl => ?_⟩
    rcases Nat.lt_succ_iff_lt_or_eq.1 hj with h | h
    · exact h2 j h k hk hl
    · subst h
      cases hkn : knB L k
      · rfl
      · obtain ⟨i, hi, _⟩ := hs k hk hl hkn
        omega
  · refine .inr ⟨i, h1, h2, h3, ⟨j, by omega, h5⟩, fun j hj k hk hl hkn => ?_⟩
    rcases Nat.lt_succ_iff_lt_or_eq.1 hj with h | h
    · exact h6 j h k hk hl hkn
    · subst h
      obtain ⟨i', hi, hc⟩ := hs k hk hl hkn
      have : i' = i := by omega
      subst this
      exact hc
theorem HiI.take {L cells : List Int} {m : Nat} {best : Int} (h : HiI L cells m best) {k : Nat} (hk : gi cells m = k) (hl : k < L.length) (hkn : knB L k = true)
    (hs : ∀ i : Nat, best = i → gi L i < gi L k ∨ (gi L i = gi L k ∧ k < i)) : HiI L cells (m + 1) k := by
  refine .inr ⟨k, rfl, hl, hkn, ⟨m, by omega, hk⟩, fun j hj k' hk' hl' hkn' => ?_⟩
  rcases Nat.lt_succ_iff_lt_or_eq.1 hj with h1 | h1
  · rcases h with ⟨_, h2⟩ | ⟨i, h1', h2, h3, _, h6⟩
    · rw [h2 j h1 k' hk' hl'] at hkn'; cases hkn'
    · have h7 := h6 j h1 k' hk' hl' hkn'
      have h8 := hs i h1'
      omega
  · subst h1
    have : k' = k := by omega
    subst this
    omega
def OutHi (L cells : List Int) (e : Ending) : Prop := ∃ best, e = .returned (.int .i64 best) ∧ HiI L cells cells.length best
set_option maxHeartbeats 8000000 in
theorem rhighest_c (g : Gr) (l : List Int) (w : World) (A B : Option Addr) (c d : Nat) (_hl : g.L.length ≤ 2000) (hm : l.length ≤ 100000) (hA : Row 1 encZ w A g.L) (hB : Row 1 encZ w B l) :
    Calls Tryz.prog 15 #[.agg #[.int .i64 g.X, .int .i64 g.Y, .int .i64 g.S, .int .i64 g.C, .int .i64 g.R, .slice A g.L.length c], .slice B l.length d] w fun e w' => OutHi g.L l e ∧ Ext w w' := by
  have HK := Lib.hid (fun k (hk : k < g.L.length) w' (hw : Ext w w') => known_c g k w' A c hk (hA.ext hw))
  have HKN := Lib.hid (fun i hi w' => known_no_c g i w' A c hi)
  have HA := Lib.hid hA
  clear hA
  go_enter Tryz.func15, Tryz.ntmps15
  go_wp2
  have hEp : Ext w (w.alloc (.cells #[.int .i64 g.X, .int .i64 g.Y, .int .i64 g.S, .int .i64 g.C, .int .i64 g.R, .slice A g.L.length c] 24)) := by (repeat (first | with_reducible exact Ext.rfl' _ | with_reducible assumption | with_reducible refine Ext.al ?_ _ | with_reducible refine Ext.dr ?_ | with_reducible refine Ext.st ?_ (by simp) _ | with_reducible refine Ext.tr ?_ (by assumption)))
  have kg : CellsAt (w.alloc (.cells #[.int .i64 g.X, .int .i64 g.Y, .int .i64 g.S, .int .i64 g.C, .int .i64 g.R, .slice A g.L.length c] 24)) w.heap.size 0 [.int .i64 g.X, .int .i64 g.Y, .int .i64 g.S, .int .i64 g.C, .int .i64 g.R, .slice A g.L.length c] := by
    refine cells_six ⟨?_, ?_, ?_, ?_, ?_, ?_⟩ <;> simp [World.cell?_alloc_new, go_sem]
  have zp : w.heap.size < (w.alloc (.cells #[.int .i64 g.X, .int .i64 g.Y, .int .i64 g.S, .int .i64 g.C, .int .i64 g.R, .slice A g.L.length c] 24)).heap.size := by simp
  generalize w.alloc (.cells #[.int .i64 g.X, .int .i64 g.Y, .int .i64 g.S, .int .i64 g.C, .int .i64 g.R, .slice A g.L.length c] 24) = wp at *
  go_loopw [5, 6, 7] (fun best i _ wr => Ext wp wr ∧ ∃ (k : Nat) (bi : Int), k ≤ l.length ∧ i = .int .i64 k ∧ best = .int .i64 bi ∧ Hid (HiI g.L l k bi)) (fun _ i _ _ => l.length - (intOf i).toNat)
  case atStart => exact ⟨Ext.rfl' _, 0, -1, Nat.zero_le _, rfl, rfl, Lib.hid (.inl ⟨rfl, fun j hj => by omega⟩)⟩
  case round =>
    obtain ⟨hr, k, bi, hk, rfl, rfl, hH⟩ := hrel
    have hE : Ext w wr := hEp.tr hr
    have hzp := hr.sz _ zp
    obtain ⟨g0, g1, g2, g3, g4, g5⟩ := (kg.ext hr zp).six
    by_cases hlt : k < l.length
    · obtain ⟨b, off, rfl, hb0, hcell⟩ := hB.p1 hlt
      have c1 := hcell _ hE
      have hz := hE.sz _ hb0
      rw [← gi_lt] at c1
      obtain ⟨v, hv⟩ : ∃ v, gi l k = v := ⟨_, rfl⟩
      rw [hv] at c1
      have HV := Lib.hid hv
      clear hv hcell
      by_cases hin : v < 0 ∨ (g.L.length : Int) ≤ v
      · have K1 := Lib.hid (fun w' => HKN.out v hin w')
        have HN : Hid (HiI g.L l (k + 1) bi) := Lib.hid (hH.out.skip fun k' h1 h2 _ => by rw [HV.out] at h1; omega)
        clear hin
        go_wp2
        refine region_grow (by kernel_rfl) (by kernel_rfl) ?_
        repeat (first | go_big_quiet_step (first | (go_at_call 44; with_reducible exact callsGrow (K1.out _)) | fail) | quiet_step (first | (go_at_call 44; with_reducible exact callsGrow (K1.out _)) | fail))
        refine wpQuiet_nil ?_
        intro w1 hb
        have hc := hb.ccell
        have hf := hb.frz
        have hs := hb.sz
        (try simp at hs); (try have hs0 := hs w.heap.size (by omega)); (try have hs1 := hs (w.heap.size + 1) (by omega)); (try have hs2 := hs (w.heap.size + 1 + 1) (by omega)); (try have hs3 := hs (w.heap.size + 1 + 1 + 1) (by omega))
        (try simp only [IntWalk.i64_left])
        go_wp2
        exact ⟨⟨by (repeat (first | with_reducible exact Ext.rfl' _ | with_reducible assumption | with_reducible refine Ext.al ?_ _ | with_reducible refine Ext.dr ?_ | with_reducible refine Ext.st ?_ (by simp) _ | with_reducible refine Ext.tr ?_ (by assumption))), k + 1, bi, by omega, by go_num, rfl, HN⟩, by simp [intOf]; omega⟩
      obtain ⟨j, rfl⟩ : ∃ j : Nat, v = j := ⟨v.toNat, by omega⟩
      have hj : j < g.L.length := by omega
      have K1 := Lib.hid (fun w' (hw : Ext w w') => HK.out j hj w' hw)
      clear hin
      cases hkn : knB g.L j
      · rw [hkn] at K1
        have HN : Hid (HiI g.L l (k + 1) bi) := Lib.hid (hH.out.skip fun k' h1 h2 h3 => by
          rw [HV.out] at h1
          have : k' = j := by omega
          subst this
          rw [hkn] at h3; cases h3)
        clear hkn
        go_wp2
        refine region_grow (by kernel_rfl) (by kernel_rfl) ?_
        repeat (first | go_big_quiet_step (first | (go_at_call 44; with_reducible exact callsGrow (K1.out _ (hE.tr (Grow.ok _)))) | fail) | quiet_step (first | (go_at_call 44; with_reducible exact callsGrow (K1.out _ (hE.tr (Grow.ok _)))) | fail))
        refine wpQuiet_nil ?_
        intro w1 hb
        have hc := hb.ccell
        have hf := hb.frz
        have hs := hb.sz
        (try simp at hs); (try have hs0 := hs w.heap.size (by omega)); (try have hs1 := hs (w.heap.size + 1) (by omega)); (try have hs2 := hs (w.heap.size + 1 + 1) (by omega)); (try have hs3 := hs (w.heap.size + 1 + 1 + 1) (by omega))
        (try simp only [IntWalk.i64_left])
        go_wp2
        exact ⟨⟨by (repeat (first | with_reducible exact Ext.rfl' _ | with_reducible assumption | with_reducible refine Ext.al ?_ _ | with_reducible refine Ext.dr ?_ | with_reducible refine Ext.st ?_ (by simp) _ | with_reducible refine Ext.tr ?_ (by assumption))), k + 1, bi, by omega, by go_num, rfl, HN⟩, by simp [intOf]; omega⟩
      rw [hkn] at K1
      have hcase : bi = -1 ∨ ∃ i : Nat, bi = i ∧ i < g.L.length := by
        rcases hH.out with ⟨h, _⟩ | ⟨i, h1, h2, _⟩
        · exact .inl h
        · exact .inr ⟨i, h1, h2⟩
      rcases hcase with rfl | ⟨i, rfl, hi⟩
      · have HN : Hid (HiI g.L l (k + 1) j) := Lib.hid (hH.out.take HV.out hj hkn fun i hi => by omega)
        clear hkn
        go_wp2
        refine region_grow (by kernel_rfl) (by kernel_rfl) ?_
        repeat (first | go_big_quiet_step (first | (go_at_call 44; with_reducible exact callsGrow (K1.out _ (hE.tr (Grow.ok _)))) | fail) | quiet_step (first | (go_at_call 44; with_reducible exact callsGrow (K1.out _ (hE.tr (Grow.ok _)))) | fail))
        refine wpQuiet_nil ?_
        intro w1 hb
        have hc := hb.ccell
        have hf := hb.frz
        have hs := hb.sz
        (try simp at hs); (try have hs0 := hs w.heap.size (by omega)); (try have hs1 := hs (w.heap.size + 1) (by omega)); (try have hs2 := hs (w.heap.size + 1 + 1) (by omega)); (try have hs3 := hs (w.heap.size + 1 + 1 + 1) (by omega))
        (try simp only [IntWalk.i64_left])
        go_wp2
        exact ⟨⟨by (repeat (first | with_reducible exact Ext.rfl' _ | with_reducible assumption | with_reducible refine Ext.al ?_ _ | with_reducible refine Ext.dr ?_ | with_reducible refine Ext.st ?_ (by simp) _ | with_reducible refine Ext.tr ?_ (by assumption))), k + 1, j, by omega, by go_num, rfl, HN⟩, by simp [intOf]; omega⟩
      have hi0 : decide ((i : Int) < 0) = false := decide_eq_false (by omega)
      obtain ⟨bl, ol, hAe, hbl, hcl⟩ := HA.out.p1 hj
      subst hAe
      obtain ⟨bl', ol', hAe, _, hcl2⟩ := HA.out.p1 hi
      injection hAe with hAe
      injection hAe with e1 e2
      subst e1 e2
      have d1 := hcl _ hE
      have d2 := hcl2 _ hE
      rw [← gi_lt] at d1 d2
      have hblz := hE.sz _ hbl
      have hj0 : (0 : Int) ≤ j := by omega
      have hi00 : (0 : Int) ≤ i := by omega
      have HT : Hid ((gi g.L i < gi g.L j ∨ (gi g.L i = gi g.L j ∧ j < i)) → HiI g.L l (k + 1) j) := Lib.hid fun h => hH.out.take HV.out hj hkn fun i' hi' => by
        have : i' = i := by omega
        subst this; exact h
      have HS : Hid ((gi g.L j < gi g.L i ∨ (gi g.L j = gi g.L i ∧ i ≤ j)) → HiI g.L l (k + 1) i) := Lib.hid fun h => hH.out.skip fun k' h1 h2 h3 => by
        rw [HV.out] at h1
        have : k' = j := by omega
        subst this
        exact ⟨i, rfl, h⟩
      clear hcl hcl2 hkn hH
      generalize gi g.L j = a at *
      generalize gi g.L i = bb at *
      by_cases hgt : bb < a
      · have HN := Lib.hid (HT.out (.inl hgt))
        go_wp2
        refine region_grow (by kernel_rfl) (by kernel_rfl) ?_
        repeat (first | go_big_quiet_step (first | (go_at_call 44; with_reducible exact callsGrow (K1.out _ (hE.tr (Grow.ok _)))) | fail) | quiet_step (first | (go_at_call 44; with_reducible exact callsGrow (K1.out _ (hE.tr (Grow.ok _)))) | fail))
        refine wpQuiet_nil ?_
        intro w1 hb
        have hc := hb.ccell
        have hf := hb.frz
        have hs := hb.sz
        (try simp at hs); (try have hs0 := hs w.heap.size (by omega)); (try have hs1 := hs (w.heap.size + 1) (by omega)); (try have hs2 := hs (w.heap.size + 1 + 1) (by omega)); (try have hs3 := hs (w.heap.size + 1 + 1 + 1) (by omega))
        (try simp only [IntWalk.i64_left])
        go_wp2
        exact ⟨⟨by (repeat (first | with_reducible exact Ext.rfl' _ | with_reducible assumption | with_reducible refine Ext.al ?_ _ | with_reducible refine Ext.dr ?_ | with_reducible refine Ext.st ?_ (by simp) _ | with_reducible refine Ext.tr ?_ (by assumption))), k + 1, j, by omega, by go_num, rfl, HN⟩, by simp [intOf]; omega⟩
      have hgt' : decide (bb < a) = false := decide_eq_false hgt
      by_cases heq : a = bb
      · subst heq
        by_cases hji : j < i
        · have HN := Lib.hid (HT.out (.inr ⟨rfl, hji⟩))
          have hji' : (j : Int) < i := by omega
          clear hgt
          go_wp2
          refine region_grow (by kernel_rfl) (by kernel_rfl) ?_
          repeat (first | go_big_quiet_step (first | (go_at_call 44; with_reducible exact callsGrow (K1.out _ (hE.tr (Grow.ok _)))) | fail) | quiet_step (first | (go_at_call 44; with_reducible exact callsGrow (K1.out _ (hE.tr (Grow.ok _)))) | fail))
          refine wpQuiet_nil ?_
          intro w1 hb
          have hc := hb.ccell
          have hf := hb.frz
          have hs := hb.sz
          (try simp at hs); (try have hs0 := hs w.heap.size (by omega)); (try have hs1 := hs (w.heap.size + 1) (by omega)); (try have hs2 := hs (w.heap.size + 1 + 1) (by omega)); (try have hs3 := hs (w.heap.size + 1 + 1 + 1) (by omega))
          (try simp only [IntWalk.i64_left])
          go_wp2
          exact ⟨⟨by (repeat (first | with_reducible exact Ext.rfl' _ | with_reducible assumption | with_reducible refine Ext.al ?_ _ | with_reducible refine Ext.dr ?_ | with_reducible refine Ext.st ?_ (by simp) _ | with_reducible refine Ext.tr ?_ (by assumption))), k + 1, j, by omega, by go_num, rfl, HN⟩, by simp [intOf]; omega⟩
        · have HN := Lib.hid (HS.out (.inr ⟨rfl, by omega⟩))
          have hji' : decide ((j : Int) < i) = false := decide_eq_false (by omega)
          clear hgt
          go_wp2
          refine region_grow (by kernel_rfl) (by kernel_rfl) ?_
          repeat (first | go_big_quiet_step (first | (go_at_call 44; with_reducible exact callsGrow (K1.out _ (hE.tr (Grow.ok _)))) | fail) | quiet_step (first | (go_at_call 44; with_reducible exact callsGrow (K1.out _ (hE.tr (Grow.ok _)))) | fail))
          refine wpQuiet_nil ?_
          intro w1 hb
          have hc := hb.ccell
          have hf := hb.frz
          have hs := hb.sz
          (try simp at hs); (try have hs0 := hs w.heap.size (by omega)); (try have hs1 := hs (w.heap.size + 1) (by omega)); (try have hs2 := hs (w.heap.size + 1 + 1) (by omega)); (try have hs3 := hs (w.heap.size + 1 + 1 + 1) (by omega))
          (try simp only [IntWalk.i64_left])
          go_wp2
          exact ⟨⟨by (repeat (first | with_reducible exact Ext.rfl' _ | with_reducible assumption | with_reducible refine Ext.al ?_ _ | with_reducible refine Ext.dr ?_ | with_reducible refine Ext.st ?_ (by simp) _ | with_reducible refine Ext.tr ?_ (by assumption))), k + 1, i, by omega, by go_num, rfl, HN⟩, by simp [intOf]; omega⟩
      · have HN := Lib.hid (HS.out (.inl (by omega)))
        have heq' : (a == bb) = false := by simp [heq]
        clear hgt heq
        go_wp2
        refine region_grow (by kernel_rfl) (by kernel_rfl) ?_
        repeat (first | go_big_quiet_step (first | (go_at_call 44; with_reducible exact callsGrow (K1.out _ (hE.tr (Grow.ok _)))) | fail) | quiet_step (first | (go_at_call 44; with_reducible exact callsGrow (K1.out _ (hE.tr (Grow.ok _)))) | fail))
        refine wpQuiet_nil ?_
        intro w1 hb
        have hc := hb.ccell
        have hf := hb.frz
        have hs := hb.sz
        (try simp at hs); (try have hs0 := hs w.heap.size (by omega)); (try have hs1 := hs (w.heap.size + 1) (by omega)); (try have hs2 := hs (w.heap.size + 1 + 1) (by omega)); (try have hs3 := hs (w.heap.size + 1 + 1 + 1) (by omega))
        (try simp only [IntWalk.i64_left])
        go_wp2
        exact ⟨⟨by (repeat (first | with_reducible exact Ext.rfl' _ | with_reducible assumption | with_reducible refine Ext.al ?_ _ | with_reducible refine Ext.dr ?_ | with_reducible refine Ext.st ?_ (by simp) _ | with_reducible refine Ext.tr ?_ (by assumption))), k + 1, i, by omega, by go_num, rfl, HN⟩, by simp [intOf]; omega⟩
    · have hks : k = l.length := by omega
      subst hks
      go_wp2
      go_ret
      exact ⟨⟨bi, rfl, hH.out⟩, by (repeat (first | with_reducible exact Ext.rfl' _ | with_reducible assumption | with_reducible refine Ext.al ?_ _ | with_reducible refine Ext.dr ?_ | with_reducible refine Ext.st ?_ (by simp) _ | with_reducible refine Ext.tr ?_ (by assumption)))⟩
theorem hiI_ex (L cells : List Int) : ∀ m, ∃ best, HiI L cells m best
  | 0 => ⟨-1, .inl ⟨rfl, fun j hj => by omega⟩⟩
  | m + 1 => by
    obtain ⟨best, h⟩ := hiI_ex L cells m
    by_cases hk : ∃ k : Nat, gi cells m = k ∧ k < L.length ∧ knB L k = true
    · obtain ⟨k, k1, k2, k3⟩ := hk
      by_cases hb : ∃ i : Nat, best = i ∧ (gi L k < gi L i ∨ (gi L k = gi L i ∧ i ≤ k))
      · refine ⟨best, h.skip fun k' h1 _ _ => ?_⟩
        have : k' = k := by omega
        subst this; exact hb
      · refine ⟨k, h.take k1 k2 k3 fun i hi => ?_⟩
        by_cases h1 : gi L i < gi L k
        · exact .inl h1
        · by_cases h2 : gi L k < gi L i
          · exact absurd ⟨i, hi, .inl h2⟩ hb
          · refine .inr ⟨by omega, ?_⟩
            by_cases h3 : i ≤ k
            · exact absurd ⟨i, hi, .inr ⟨by omega, h3⟩⟩ hb
            · omega
    · exact ⟨best, h.skip fun k' h1 h2 h3 => absurd ⟨k', h1, h2, h3⟩ hk⟩
theorem hiI_one {L cells : List Int} {m : Nat} {b b' : Int} (h : HiI L cells m b) (h' : HiI L cells m b') : b = b' := by
  rcases h with ⟨h1, h2⟩ | ⟨i, h1, h2, h3, ⟨j, h4, h5⟩, h6⟩
  · rcases h' with ⟨h1', _⟩ | ⟨i', h1', h2', h3', ⟨j', h4', h5'⟩, h6'⟩
    · omega
    · rw [h2 j' h4' i' h5' h2'] at h3'; cases h3'
  · rcases h' with ⟨h1', h2'⟩ | ⟨i', h1', h2', h3', ⟨j', h4', h5'⟩, h6'⟩
    · rw [h2' j h4 i h5 h2] at h3; cases h3
    · have a1 := h6 j' h4' i' h5' h2' h3'
      have a2 := h6' j h4 i h5 h2 h3
      omega
/-- The end of Highest. -/
def hiEnd (best : Int) : Value := if best < 0 then .tuple #[.int .i64 0, .int .i64 12] else .tuple #[.int .i64 best, .int .i64 0]
def OutHg (g : Gr) (l : List Int) (e : Ending) : Prop := ∃ best, HiI g.L l l.length best ∧ e = .returned (hiEnd best)
set_option maxHeartbeats 4000000 in
theorem highest_err_c (g : Gr) (l : List Int) (w : World) (A B : Option Addr) (c d : Nat) (E : Int) (hm : g.L.length ≤ maxLen) (hl : l.length ≤ 100000) (hA : Row 1 encZ w A g.L) (hB : Row 1 encZ w B l)
    (hE : E ≠ 0) (h : (if chkG g ≠ 0 then chkG g else cellsE g.L.length l) = E) :
    Calls Tryz.prog 8 #[.agg #[.int .i64 g.X, .int .i64 g.Y, .int .i64 g.S, .int .i64 g.C, .int .i64 g.R, .slice A g.L.length c], .slice B l.length d] w fun e w' => e = .returned (.tuple #[.int .i64 0, .int .i64 E]) ∧ Ext w w' := by
  have H1 := Lib.hid (fun w' (hw : Ext w w') => check_c g w' A c hm (hA.ext hw))
  have hE' : (E != 0) = true := by rw [bne_iff_ne]; exact hE
  by_cases h1 : chkG g = 0
  · have v := chkG_ok h1
    have hn : g.L.length ≤ 1024 := by have h1 := v.len; have h2 := v.hn; omega
    have H2 := Lib.hid (fun w' (hw : Ext w w') => checkCells_c g l w' A B c d (by omega) hl (hB.ext hw))
    rw [if_neg (by omega)] at h
    rw [h] at H2
    rw [h1] at H1
    clear h h1 v hE
    go_enter Tryz.func8, Tryz.ntmps8
    go_wp2_with (first | (go_at_call 28; with_reducible refine Calls.mono (H1.out _ (by (repeat (first | with_reducible exact Ext.rfl' _ | with_reducible assumption | with_reducible refine Ext.al ?_ _ | with_reducible refine Ext.dr ?_ | with_reducible refine Ext.st ?_ (by simp) _ | with_reducible refine Ext.tr ?_ (by assumption))))) ?_; rintro e w1 ⟨rfl, hb⟩; have hc := hb.ccell; have hf := hb.frz; have hs := hb.sz; (try simp at hs); (try have hs0 := hs w.heap.size (by omega)); (try have hs1 := hs (w.heap.size + 1) (by omega)); (try have hs2 := hs (w.heap.size + 1 + 1) (by omega)); (try have hs3 := hs (w.heap.size + 1 + 1 + 1) (by omega))) | (go_at_call 34; with_reducible refine Calls.mono (H2.out _ (by (repeat (first | with_reducible exact Ext.rfl' _ | with_reducible assumption | with_reducible refine Ext.al ?_ _ | with_reducible refine Ext.dr ?_ | with_reducible refine Ext.st ?_ (by simp) _ | with_reducible refine Ext.tr ?_ (by assumption))))) ?_; rintro e w1 ⟨rfl, hb⟩; have hc := hb.ccell; have hf := hb.frz; have hs := hb.sz; (try simp at hs); (try have hs0 := hs w.heap.size (by omega)); (try have hs1 := hs (w.heap.size + 1) (by omega)); (try have hs2 := hs (w.heap.size + 1 + 1) (by omega)); (try have hs3 := hs (w.heap.size + 1 + 1 + 1) (by omega))))
    go_ret2
    exact ⟨rfl, by (repeat (first | with_reducible exact Ext.rfl' _ | with_reducible assumption | with_reducible refine Ext.al ?_ _ | with_reducible refine Ext.dr ?_ | with_reducible refine Ext.st ?_ (by simp) _ | with_reducible refine Ext.tr ?_ (by assumption)))⟩
  · rw [if_pos h1] at h
    rw [h] at H1
    clear h h1 hE
    go_enter Tryz.func8, Tryz.ntmps8
    go_wp2_with (first | (go_at_call 28; with_reducible refine Calls.mono (H1.out _ (by (repeat (first | with_reducible exact Ext.rfl' _ | with_reducible assumption | with_reducible refine Ext.al ?_ _ | with_reducible refine Ext.dr ?_ | with_reducible refine Ext.st ?_ (by simp) _ | with_reducible refine Ext.tr ?_ (by assumption))))) ?_; rintro e w1 ⟨rfl, hb⟩; have hc := hb.ccell; have hf := hb.frz; have hs := hb.sz; (try simp at hs); (try have hs0 := hs w.heap.size (by omega)); (try have hs1 := hs (w.heap.size + 1) (by omega)); (try have hs2 := hs (w.heap.size + 1 + 1) (by omega)); (try have hs3 := hs (w.heap.size + 1 + 1 + 1) (by omega))))
    go_ret2
    exact ⟨rfl, by (repeat (first | with_reducible exact Ext.rfl' _ | with_reducible assumption | with_reducible refine Ext.al ?_ _ | with_reducible refine Ext.dr ?_ | with_reducible refine Ext.st ?_ (by simp) _ | with_reducible refine Ext.tr ?_ (by assumption)))⟩
set_option maxHeartbeats 8000000 in
theorem highest_ok_c (g : Gr) (l : List Int) (w : World) (A B : Option Addr) (c d : Nat) (hl : l.length ≤ 100000) (hA : Row 1 encZ w A g.L) (hB : Row 1 encZ w B l) (h1 : chkG g = 0) (h2 : cellsE g.L.length l = 0) :
    Calls Tryz.prog 8 #[.agg #[.int .i64 g.X, .int .i64 g.Y, .int .i64 g.S, .int .i64 g.C, .int .i64 g.R, .slice A g.L.length c], .slice B l.length d] w fun e w' => OutHg g l e ∧ Ext w w' := by
  have v := chkG_ok h1
  have hn : g.L.length ≤ 1024 := by have h1 := v.len; have h2 := v.hn; omega
  have H1 := Lib.hid (fun w' (hw : Ext w w') => check_c g w' A c (by unfold maxLen; omega) (hA.ext hw))
  have H2 := Lib.hid (fun w' (hw : Ext w w') => checkCells_c g l w' A B c d (by omega) hl (hB.ext hw))
  have HK := Lib.hid (fun k (hk : k < g.L.length) w' (hw : Ext w w') => isKnown_c g k w' A c hk (by unfold maxLen; omega) (hA.ext hw))
  have HH := Lib.hid (fun i j (hi : i < g.L.length) (hj : j < g.L.length) w' (hw : Ext w w') => isHigher_c g i j w' A c hi hj (hA.ext hw))
  have HIN : Hid (∀ k, k < l.length → 0 ≤ gi l k ∧ gi l k < g.L.length) := Lib.hid (by
    intro k hk
    have h3 : anyN (noCell g.L.length l) l.length = false := by
      unfold cellsE at h2
      cases hq : anyN (noCell g.L.length l) l.length
      · rfl
      · rw [hq] at h2; simp at h2
    have := (anyN_no _ _).1 h3 k hk
    unfold noCell at this
    simp at this
    omega)
  rw [h1] at H1
  rw [h2] at H2
  clear v h1 h2 hA
  go_enter Tryz.func8, Tryz.ntmps8
  go_wp2_with (first | (go_at_call 28; with_reducible refine Calls.mono (H1.out _ (by (repeat (first | with_reducible exact Ext.rfl' _ | with_reducible assumption | with_reducible refine Ext.al ?_ _ | with_reducible refine Ext.dr ?_ | with_reducible refine Ext.st ?_ (by simp) _ | with_reducible refine Ext.tr ?_ (by assumption))))) ?_; rintro e w1 ⟨rfl, hb⟩; have hc := hb.ccell; have hf := hb.frz; have hs := hb.sz; (try simp at hs); (try have t0 := hs (w.heap.size) (by first | assumption | omega)); (try have t1 := hs (w.heap.size) (by first | assumption | omega)); (try have t2 := hs (w.heap.size) (by first | assumption | omega)); (try have t3 := hs (w.heap.size) (by first | assumption | omega)); (try have t4 := hs (w.heap.size) (by first | assumption | omega)); (try have t5 := hs (w.heap.size) (by first | assumption | omega))) | (go_at_call 34; with_reducible refine Calls.mono (H2.out _ (by (repeat (first | with_reducible exact Ext.rfl' _ | with_reducible assumption | with_reducible refine Ext.al ?_ _ | with_reducible refine Ext.dr ?_ | with_reducible refine Ext.st ?_ (by simp) _ | with_reducible refine Ext.tr ?_ (by assumption))))) ?_; rintro e w2 ⟨rfl, hb⟩; have hc := hb.ccell; have hf := hb.frz; have hs := hb.sz; (try simp at hs); (try have t0 := hs (w.heap.size) (by first | assumption | omega)); (try have t1 := hs (w.heap.size) (by first | assumption | omega)); (try have t2 := hs (w.heap.size) (by first | assumption | omega)); (try have t3 := hs (w.heap.size) (by first | assumption | omega)); (try have t4 := hs (w.heap.size) (by first | assumption | omega)); (try have t5 := hs (w.heap.size) (by first | assumption | omega))))
  have hEp : Ext w w2 := by (repeat (first | with_reducible exact Ext.rfl' _ | with_reducible assumption | with_reducible refine Ext.al ?_ _ | with_reducible refine Ext.dr ?_ | with_reducible refine Ext.st ?_ (by simp) _ | with_reducible refine Ext.tr ?_ (by assumption)))
  have kg : CellsAt w2 w.heap.size 0 [.int .i64 g.X, .int .i64 g.Y, .int .i64 g.S, .int .i64 g.C, .int .i64 g.R, .slice A g.L.length c] := by
    refine cells_six ⟨?_, ?_, ?_, ?_, ?_, ?_⟩ <;> simp [*, go_sem]
  have zp : w.heap.size < w2.heap.size := by assumption
  clear hc hf hs hb
  go_loopw [8, 9, 11, 25] (fun top found _ i wr => Ext w2 wr ∧ ∃ (k : Nat) (bi : Int), k ≤ l.length ∧ i = .int .i64 k ∧ Hid (HiI g.L l k bi) ∧ ((bi = -1 ∧ top = .int .i64 0 ∧ found = .bool false) ∨ ∃ b : Nat, b < g.L.length ∧ bi = b ∧ top = .int .i64 b ∧ found = .bool true)) (fun _ _ _ i _ => l.length - (intOf i).toNat)
  case atStart => exact ⟨Ext.rfl' _, 0, -1, Nat.zero_le _, rfl, Lib.hid (.inl ⟨rfl, fun j hj => by omega⟩), .inl ⟨rfl, rfl, rfl⟩⟩
  case round =>
    obtain ⟨hr, k, bi, hk, rfl, hH, hcase⟩ := hrel
    have hE : Ext w wr := hEp.tr hr
    have hzp := hr.sz _ zp
    obtain ⟨g0, g1, g2, g3, g4, g5⟩ := (kg.ext hr zp).six
    by_cases hlt : k < l.length
    · obtain ⟨b, off, rfl, hb0, hcell⟩ := hB.p1 hlt
      have c1 := hcell _ hE
      have hz := hE.sz _ hb0
      rw [← gi_lt] at c1
      have hin := HIN.out k hlt
      obtain ⟨v, hv⟩ : ∃ v, gi l k = v := ⟨_, rfl⟩
      rw [hv] at c1 hin
      have HV := Lib.hid hv
      clear hv hcell
      obtain ⟨j, rfl⟩ : ∃ j : Nat, v = j := ⟨v.toNat, by omega⟩
      have hj : j < g.L.length := by omega
      have K1 := Lib.hid (fun w' (hw : Ext w w') => HK.out j hj w' hw)
      clear hin
      cases hkn : knB g.L j
      · rw [hkn] at K1
        have HN : Hid (HiI g.L l (k + 1) bi) := Lib.hid (hH.out.skip fun k' h1 h2 h3 => by
          rw [HV.out] at h1
          have : k' = j := by omega
          subst this
          rw [hkn] at h3; cases h3)
        clear hkn
        rcases hcase with ⟨rfl, rfl, rfl⟩ | ⟨i, hi, rfl, rfl, rfl⟩
        · go_wp2_with (first | (go_at_call 35; with_reducible refine Calls.mono (K1.out _ (by (repeat (first | with_reducible exact Ext.rfl' _ | with_reducible assumption | with_reducible refine Ext.al ?_ _ | with_reducible refine Ext.dr ?_ | with_reducible refine Ext.st ?_ (by simp) _ | with_reducible refine Ext.tr ?_ (by assumption))))) ?_; rintro e w3 ⟨rfl, hb⟩; have hc := hb.ccell; have hf := hb.frz; have hs := hb.sz; (try simp at hs); (try have t0 := hs (w.heap.size) (by first | assumption | omega)); (try have t1 := hs (b) (by first | assumption | omega)); (try have t2 := hs (w.heap.size) (by first | assumption | omega)); (try have t3 := hs (w.heap.size) (by first | assumption | omega)); (try have t4 := hs (w.heap.size) (by first | assumption | omega)); (try have t5 := hs (w.heap.size) (by first | assumption | omega))))
          have hE3 : Ext wr w3 := by assumption
          exact ⟨⟨hr.tr hE3, k + 1, -1, by omega, by go_num, HN, .inl ⟨rfl, rfl, rfl⟩⟩, by simp [intOf]; omega⟩
        · go_wp2_with (first | (go_at_call 35; with_reducible refine Calls.mono (K1.out _ (by (repeat (first | with_reducible exact Ext.rfl' _ | with_reducible assumption | with_reducible refine Ext.al ?_ _ | with_reducible refine Ext.dr ?_ | with_reducible refine Ext.st ?_ (by simp) _ | with_reducible refine Ext.tr ?_ (by assumption))))) ?_; rintro e w3 ⟨rfl, hb⟩; have hc := hb.ccell; have hf := hb.frz; have hs := hb.sz; (try simp at hs); (try have t0 := hs (w.heap.size) (by first | assumption | omega)); (try have t1 := hs (b) (by first | assumption | omega)); (try have t2 := hs (w.heap.size) (by first | assumption | omega)); (try have t3 := hs (w.heap.size) (by first | assumption | omega)); (try have t4 := hs (w.heap.size) (by first | assumption | omega)); (try have t5 := hs (w.heap.size) (by first | assumption | omega))))
          have hE3 : Ext wr w3 := by assumption
          exact ⟨⟨hr.tr hE3, k + 1, i, by omega, by go_num, HN, .inr ⟨i, hi, rfl, rfl, rfl⟩⟩, by simp [intOf]; omega⟩
      rw [hkn] at K1
      rcases hcase with ⟨rfl, rfl, rfl⟩ | ⟨i, hi, rfl, rfl, rfl⟩
      · have HN : Hid (HiI g.L l (k + 1) j) := Lib.hid (hH.out.take HV.out hj hkn fun i hi => by omega)
        clear hkn
        go_wp2_with (first | (go_at_call 35; with_reducible refine Calls.mono (K1.out _ (by (repeat (first | with_reducible exact Ext.rfl' _ | with_reducible assumption | with_reducible refine Ext.al ?_ _ | with_reducible refine Ext.dr ?_ | with_reducible refine Ext.st ?_ (by simp) _ | with_reducible refine Ext.tr ?_ (by assumption))))) ?_; rintro e w3 ⟨rfl, hb⟩; have hc := hb.ccell; have hf := hb.frz; have hs := hb.sz; (try simp at hs); (try have t0 := hs (w.heap.size) (by first | assumption | omega)); (try have t1 := hs (b) (by first | assumption | omega)); (try have t2 := hs (w.heap.size) (by first | assumption | omega)); (try have t3 := hs (w.heap.size) (by first | assumption | omega)); (try have t4 := hs (w.heap.size) (by first | assumption | omega)); (try have t5 := hs (w.heap.size) (by first | assumption | omega))))
        have hE3 : Ext wr w3 := by assumption
        exact ⟨⟨hr.tr hE3, k + 1, j, by omega, by go_num, HN, .inr ⟨j, hj, rfl, rfl, rfl⟩⟩, by simp [intOf]; omega⟩
      have K2 := Lib.hid (fun w' (hw : Ext w w') => HH.out j i hj hi w' hw)
      have HT : Hid (hiB g.L j i = true → HiI g.L l (k + 1) j) := Lib.hid fun h => hH.out.take HV.out hj hkn fun i' hi' => by
        have : i' = i := by omega
        subst this
        unfold hiB at h
        simp at h
        omega
      have HS : Hid (hiB g.L j i = false → HiI g.L l (k + 1) i) := Lib.hid fun h => hH.out.skip fun k' h1 h2 h3 => by
        rw [HV.out] at h1
        have : k' = j := by omega
        subst this
        refine ⟨i, rfl, ?_⟩
        unfold hiB at h
        simp at h
        omega
      clear hkn hH
      cases hq : hiB g.L j i
      · rw [hq] at K2
        have HN := Lib.hid (HS.out hq)
        clear hq
        go_wp2_with (first | (go_at_call 35; with_reducible refine Calls.mono (K1.out _ (by (repeat (first | with_reducible exact Ext.rfl' _ | with_reducible assumption | with_reducible refine Ext.al ?_ _ | with_reducible refine Ext.dr ?_ | with_reducible refine Ext.st ?_ (by simp) _ | with_reducible refine Ext.tr ?_ (by assumption))))) ?_; rintro e w3 ⟨rfl, hb⟩; have hc := hb.ccell; have hf := hb.frz; have hs := hb.sz; (try simp at hs); (try have t0 := hs (w.heap.size) (by first | assumption | omega)); (try have t1 := hs (b) (by first | assumption | omega)); (try have t2 := hs (w.heap.size) (by first | assumption | omega)); (try have t3 := hs (w.heap.size) (by first | assumption | omega)); (try have t4 := hs (w.heap.size) (by first | assumption | omega)); (try have t5 := hs (w.heap.size) (by first | assumption | omega))) | (go_at_call 36; with_reducible refine Calls.mono (K2.out _ (by (repeat (first | with_reducible exact Ext.rfl' _ | with_reducible assumption | with_reducible refine Ext.al ?_ _ | with_reducible refine Ext.dr ?_ | with_reducible refine Ext.st ?_ (by simp) _ | with_reducible refine Ext.tr ?_ (by assumption))))) ?_; rintro e w4 ⟨rfl, hb⟩; have hc := hb.ccell; have hf := hb.frz; have hs := hb.sz; (try simp at hs); (try have t0 := hs (w.heap.size) (by first | assumption | omega)); (try have t1 := hs (b) (by first | assumption | omega)); (try have t2 := hs (w.heap.size) (by first | assumption | omega)); (try have t3 := hs (w.heap.size) (by first | assumption | omega)); (try have t4 := hs (w.heap.size) (by first | assumption | omega)); (try have t5 := hs (w.heap.size) (by first | assumption | omega))))
        exact ⟨⟨by (repeat (first | with_reducible exact Ext.rfl' _ | with_reducible assumption | with_reducible refine Ext.al ?_ _ | with_reducible refine Ext.dr ?_ | with_reducible refine Ext.st ?_ (by simp) _ | with_reducible refine Ext.tr ?_ (by assumption))), k + 1, i, by omega, by go_num, HN, .inr ⟨i, hi, rfl, rfl, rfl⟩⟩, by simp [intOf]; omega⟩
      · rw [hq] at K2
        have HN := Lib.hid (HT.out hq)
        clear hq
        go_wp2_with (first | (go_at_call 35; with_reducible refine Calls.mono (K1.out _ (by (repeat (first | with_reducible exact Ext.rfl' _ | with_reducible assumption | with_reducible refine Ext.al ?_ _ | with_reducible refine Ext.dr ?_ | with_reducible refine Ext.st ?_ (by simp) _ | with_reducible refine Ext.tr ?_ (by assumption))))) ?_; rintro e w3 ⟨rfl, hb⟩; have hc := hb.ccell; have hf := hb.frz; have hs := hb.sz; (try simp at hs); (try have t0 := hs (w.heap.size) (by first | assumption | omega)); (try have t1 := hs (b) (by first | assumption | omega)); (try have t2 := hs (w.heap.size) (by first | assumption | omega)); (try have t3 := hs (w.heap.size) (by first | assumption | omega)); (try have t4 := hs (w.heap.size) (by first | assumption | omega)); (try have t5 := hs (w.heap.size) (by first | assumption | omega))) | (go_at_call 36; with_reducible refine Calls.mono (K2.out _ (by (repeat (first | with_reducible exact Ext.rfl' _ | with_reducible assumption | with_reducible refine Ext.al ?_ _ | with_reducible refine Ext.dr ?_ | with_reducible refine Ext.st ?_ (by simp) _ | with_reducible refine Ext.tr ?_ (by assumption))))) ?_; rintro e w4 ⟨rfl, hb⟩; have hc := hb.ccell; have hf := hb.frz; have hs := hb.sz; (try simp at hs); (try have t0 := hs (w.heap.size) (by first | assumption | omega)); (try have t1 := hs (b) (by first | assumption | omega)); (try have t2 := hs (w.heap.size) (by first | assumption | omega)); (try have t3 := hs (w.heap.size) (by first | assumption | omega)); (try have t4 := hs (w.heap.size) (by first | assumption | omega)); (try have t5 := hs (w.heap.size) (by first | assumption | omega))))
        exact ⟨⟨by (repeat (first | with_reducible exact Ext.rfl' _ | with_reducible assumption | with_reducible refine Ext.al ?_ _ | with_reducible refine Ext.dr ?_ | with_reducible refine Ext.st ?_ (by simp) _ | with_reducible refine Ext.tr ?_ (by assumption))), k + 1, j, by omega, by go_num, HN, .inr ⟨j, hj, rfl, rfl, rfl⟩⟩, by simp [intOf]; omega⟩
    · have hks : k = l.length := by omega
      subst hks
      rcases hcase with ⟨rfl, rfl, rfl⟩ | ⟨i, hi, rfl, rfl, rfl⟩
      · go_wp2
        go_ret2
        exact ⟨⟨-1, hH.out, rfl⟩, by (repeat (first | with_reducible exact Ext.rfl' _ | with_reducible assumption | with_reducible refine Ext.al ?_ _ | with_reducible refine Ext.dr ?_ | with_reducible refine Ext.st ?_ (by simp) _ | with_reducible refine Ext.tr ?_ (by assumption)))⟩
      · have hii : hiEnd (i : Int) = .tuple #[.int .i64 (i : Int), .int .i64 0] := by unfold hiEnd; rw [if_neg (by omega)]
        have HII := Lib.hid hii
        clear hii
        go_wp2
        go_ret2
        exact ⟨⟨i, hH.out, by rw [HII.out]; rfl⟩, by (repeat (first | with_reducible exact Ext.rfl' _ | with_reducible assumption | with_reducible refine Ext.al ?_ _ | with_reducible refine Ext.dr ?_ | with_reducible refine Ext.st ?_ (by simp) _ | with_reducible refine Ext.tr ?_ (by assumption)))⟩


def wiP (g : Gr) (cn : Nat) (l : List Pt) (k : Nat) : Bool := decide (0 ≤ insV l ⟨ctX g cn k, ctY g cn k⟩)
set_option maxHeartbeats 4000000 in
theorem within1_c (g : Gr) (cn k p q : Nat) (l : List Pt) (w : World) (A B : Option Addr) (c cB : Nat) (v : VG g) (hC : g.C = cn) (hk : k < g.L.length) (hl : l.length ≤ 1000) (hB : Row 2 encP w B l)
    (hp : w.cell? ⟨p, 0, none⟩ = some (.slice B l.length cB)) (hpz : p < w.heap.size) (hq : BoxG w q g A c) :
    Calls Tryz.prog 31 #[.int .i64 (k : Int), .pointer (some ⟨p, 0, none⟩), .pointer (some ⟨q, 0, none⟩)] w fun e w' => e = .returned (.bool (wiP g cn l k)) ∧ Ext w w' := by
  have HCt := Lib.hid (fun w' => centre_c g cn k w' A c v hC hk)
  have HIn := Lib.hid (fun w' (hw : Ext w w') => ginside_c l (ctX g cn k) (ctY g cn k) w' B cB hl (hB.ext hw))
  unfold wiP
  obtain ⟨hqz, hq⟩ := hq
  obtain ⟨g0, g1, g2, g3, g4, g5⟩ := hq.six
  clear hq hC v
  generalize insV l ⟨ctX g cn k, ctY g cn k⟩ = V at *
  generalize insE l ⟨ctX g cn k, ctY g cn k⟩ = E at *
  generalize ctX g cn k = X at *
  generalize ctY g cn k = Y at *
  go_enter Tryz.func31, Tryz.ntmps31
  go_upto_region 1 with fail
  refine region_grow (by kernel_rfl) (by kernel_rfl) ?_
  repeat (first | go_big_quiet_step (first | (go_at_call 33; with_reducible exact callsGrow (HCt.out _)) | (go_at_call 32; with_reducible exact callsGrow (HIn.out _ (Grow.ok _))) | fail) | quiet_step (first | (go_at_call 33; with_reducible exact callsGrow (HCt.out _)) | (go_at_call 32; with_reducible exact callsGrow (HIn.out _ (Grow.ok _))) | fail))
  refine wpQuiet_nil ?_
  intro w1 hb
  have hc := hb.ccell
  have hf := hb.frz
  have hs := hb.sz
  (try simp at hs); (try have hs0 := hs w.heap.size (by omega)); (try have hs1 := hs (w.heap.size + 1) (by omega)); (try have hs2 := hs (w.heap.size + 1 + 1) (by omega)); (try have hs3 := hs (w.heap.size + 1 + 1 + 1) (by omega))
  (try simp only [IntWalk.i64_left])
  go_wp2
  go_ret
  exact ⟨rfl, by (repeat (first | with_reducible exact Ext.rfl' _ | with_reducible assumption | with_reducible refine Ext.al ?_ _ | with_reducible refine Ext.dr ?_ | with_reducible refine Ext.st ?_ (by simp) _ | with_reducible refine Ext.tr ?_ (by assumption)))⟩
set_option maxHeartbeats 4000000 in
theorem chooseW_c (g : Gr) (P : Nat → Bool) (p q : Nat) (w : World) (A : Option Addr) (c : Nat) (hl : g.L.length ≤ 2000)
    (hP : ∀ k, k < g.L.length → ∀ w', Ext w w' → Calls Tryz.prog 31 #[.int .i64 (k : Int), .pointer (some ⟨p, 0, none⟩), .pointer (some ⟨q, 0, none⟩)] w' fun e w'' => e = .returned (.bool (P k)) ∧ Ext w' w'') :
    Calls Tryz.prog 30 #[.agg #[.int .i64 g.X, .int .i64 g.Y, .int .i64 g.S, .int .i64 g.C, .int .i64 g.R, .slice A g.L.length c], .func (.func 31) #[] #[.pointer (some ⟨p, 0, none⟩), .pointer (some ⟨q, 0, none⟩)]] w
      fun e w' => OutZN w.heap.size (chs P g.L.length) e w' ∧ Ext w w' := by
  have HP := Lib.hid hP
  obtain ⟨i0, hi0, hzi0, hzi1, hzi2⟩ := info_parts infoZ
  have HI := Lib.hid (And.intro hi0 (And.intro hzi0 (And.intro hzi1 hzi2)))
  clear hP hi0 hzi0 hzi1 hzi2
  go_enter Tryz.func30, Tryz.ntmps30
  go_wp2
  have hEp : Ext w (w.alloc (.cells #[.int .i64 g.X, .int .i64 g.Y, .int .i64 g.S, .int .i64 g.C, .int .i64 g.R, .slice A g.L.length c] 24)) := by (repeat (first | with_reducible exact Ext.rfl' _ | with_reducible assumption | with_reducible refine Ext.al ?_ _ | with_reducible refine Ext.dr ?_ | with_reducible refine Ext.st ?_ (by simp) _ | with_reducible refine Ext.tr ?_ (by assumption)))
  generalize w.alloc (.cells #[.int .i64 g.X, .int .i64 g.Y, .int .i64 g.S, .int .i64 g.C, .int .i64 g.R, .slice A g.L.length c] 24) = wp at *
  go_loopw [5, 6, 10] (fun v _ i wr => Ext wp wr ∧ ∃ k : Nat, k ≤ g.L.length ∧ i = .int .i64 k ∧ Hid (wr.ownsRow wp.heap.size 3 1 v (chs P k).length ((zl (chs P k)).flatMap encZ))) (fun _ _ i _ => g.L.length - (intOf i).toNat)
  case atStart => exact ⟨Ext.rfl' _, 0, Nat.zero_le _, rfl, Lib.hid (World.ownsRow_nil _ _ _ _)⟩
  case round =>
    obtain ⟨hr, k, hk, rfl, hO⟩ := hrel
    have hE : Ext w wr := hEp.tr hr
    by_cases hlt : k < g.L.length
    · have HK1 := Lib.hid (fun w' (hw : Ext w w') => HP.out k hlt w' hw)
      have hln := chs_len P k
      have hcs := chs_succ P k
      cases hq : P k
      · rw [hq] at HK1 hcs
        have HN : Hid (chs P (k + 1) = chs P k) := Lib.hid (by rw [hcs]; simp)
        clear hq hcs
        go_wp2_with (first | (go_at_call 31; with_reducible refine Calls.mono (HK1.out _ (by (repeat (first | with_reducible exact Ext.rfl' _ | with_reducible assumption | with_reducible refine Ext.al ?_ _ | with_reducible refine Ext.dr ?_ | with_reducible refine Ext.st ?_ (by simp) _ | with_reducible refine Ext.tr ?_ (by assumption))))) ?_; rintro e w3 ⟨rfl, hb⟩; have hc := hb.ccell; have hf := hb.frz; have hs := hb.sz; (try simp at hs); (try have t0 := hs (w.heap.size) (by first | assumption | omega)); (try have t1 := hs (w.heap.size) (by first | assumption | omega)); (try have t2 := hs (w.heap.size) (by first | assumption | omega)); (try have t3 := hs (w.heap.size) (by first | assumption | omega)); (try have t4 := hs (w.heap.size) (by first | assumption | omega)); (try have t5 := hs (w.heap.size) (by first | assumption | omega))))
        have hE3 : Ext wr w3 := by assumption
        refine ⟨⟨hr.tr hE3, k + 1, by omega, by go_num, Lib.hid ?_⟩, by simp [intOf]; omega⟩
        rw [HN.out]
        exact ownsRow_ext hO.out hE3
      · rw [hq] at HK1 hcs
        have HN : Hid (chs P (k + 1) = chs P k ++ [k]) := Lib.hid (by rw [hcs]; simp)
        obtain ⟨hi0, hzi0, hzi1, hzi2⟩ := HI.out
        generalize chs P k = M at *
        clear hq hcs
        go_wp2_with (first | (go_at_call 31; with_reducible refine Calls.mono (HK1.out _ (by (repeat (first | with_reducible exact Ext.rfl' _ | with_reducible assumption | with_reducible refine Ext.al ?_ _ | with_reducible refine Ext.dr ?_ | with_reducible refine Ext.st ?_ (by simp) _ | with_reducible refine Ext.tr ?_ (by assumption))))) ?_; rintro e w3 ⟨rfl, hb⟩; have hc := hb.ccell; have hf := hb.frz; have hs := hb.sz; (try simp at hs); (try have t0 := hs (w.heap.size) (by first | assumption | omega)); (try have t1 := hs (w.heap.size) (by first | assumption | omega)); (try have t2 := hs (w.heap.size) (by first | assumption | omega)); (try have t3 := hs (w.heap.size) (by first | assumption | omega)); (try have t4 := hs (w.heap.size) (by first | assumption | omega)); (try have t5 := hs (w.heap.size) (by first | assumption | omega))) | (at_builtin; refine wpList_append_own _ rfl _ _ 22 rfl (wp.heap.size) 3 i0 _ 1 8 Tryz.underlying22 hi0 hzi0 hzi1 hzi2 rfl (by decide) _ _ _ rfl (World.ownsRow.alloc (ownsRow_ext (hO.out) (by assumption)) _) ⟨_, 0, none⟩ 1 1 [.int .i64 ((k : Int))] rfl rfl ?_ ?_ ?_ ?_ ?_ ?_))
        · exact one_newZ _ _ _
        · intro u hu; simp at hu; subst hu; rfl
        · unfold maxLen; omega
        · omega
        · have hE3 : Ext wr w3 := by assumption
          have := (hr.tr hE3).size
          simp; omega
        intro v' w4 hown hgrow _
        have hE3 : Ext wr w3 := by assumption
        have hE4 : Ext wp w4 := grown_ext (Ext.al (hr.tr hE3) _) (World.ownsRow.alloc (ownsRow_ext hO.out hE3) _) (Nat.le_refl _) hgrow
        have hown2 := Lib.hid hown
        clear hown hgrow hi0 hzi0 hzi1 hzi2
        go_wp2
        refine ⟨⟨hE4, k + 1, by omega, by go_num, Lib.hid ?_⟩, by simp [intOf]; omega⟩
        rw [HN.out]
        exact own_put hown2.out
    · have hks : k = g.L.length := by omega
      subst hks
      obtain ⟨A', c', hv, hN⟩ := NewZ.of (l := zl (chs P g.L.length)) rfl (zl_len _).symm hO.out
      rw [zl_len] at hv
      subst hv
      have HN := Lib.hid hN
      clear hO hN
      go_wp2
      go_ret
      exact ⟨⟨A', c', rfl, HN.out.mono hEp.size⟩, hE⟩

def withE (g : Gr) (l : List Pt) : Int := if chkG g ≠ 0 then chkG g else polyE l
set_option maxHeartbeats 4000000 in
theorem within_err_c (g : Gr) (l : List Pt) (w : World) (A B : Option Addr) (c cB : Nat) (hm : g.L.length ≤ maxLen) (hl : l.length ≤ 1000) (hA : Row 1 encZ w A g.L) (hB : Row 2 encP w B l) (h : withE g l ≠ 0) :
    Calls Tryz.prog 7 #[.agg #[.int .i64 g.X, .int .i64 g.Y, .int .i64 g.S, .int .i64 g.C, .int .i64 g.R, .slice A g.L.length c], .slice B l.length cB] w fun e w' => e = .returned (.tuple #[.slice none 0 0, .int .i64 (withE g l)]) ∧ Ext w w' := by
  have H1 := Lib.hid (fun w' (hw : Ext w w') => check_c g w' A c hm (hA.ext hw))
  have H2 := Lib.hid (fun w' (hw : Ext w w') => checkPolygon_c l w' B cB hl (hB.ext hw))
  unfold withE at h ⊢
  generalize chkG g = e1 at *
  generalize polyE l = e2 at *
  by_cases h1 : e1 = 0
  · subst h1
    rw [if_neg (by decide)] at h ⊢
    have h2' : (e2 != 0) = true := by rw [bne_iff_ne]; exact h
    clear h
    go_enter Tryz.func7, Tryz.ntmps7
    go_wp2_with (first | (go_at_call 28; with_reducible refine Calls.mono (H1.out _ (by (repeat (first | with_reducible exact Ext.rfl' _ | with_reducible assumption | with_reducible refine Ext.al ?_ _ | with_reducible refine Ext.dr ?_ | with_reducible refine Ext.st ?_ (by simp) _ | with_reducible refine Ext.tr ?_ (by assumption))))) ?_; rintro e w1 ⟨rfl, hb⟩; have hc := hb.ccell; have hf := hb.frz; have hs := hb.sz; (try simp at hs); (try have hs0 := hs w.heap.size (by omega)); (try have hs1 := hs (w.heap.size + 1) (by omega)); (try have hs2 := hs (w.heap.size + 1 + 1) (by omega)); (try have hs3 := hs (w.heap.size + 1 + 1 + 1) (by omega))) | (go_at_call 29; with_reducible refine Calls.mono (H2.out _ (by (repeat (first | with_reducible exact Ext.rfl' _ | with_reducible assumption | with_reducible refine Ext.al ?_ _ | with_reducible refine Ext.dr ?_ | with_reducible refine Ext.st ?_ (by simp) _ | with_reducible refine Ext.tr ?_ (by assumption))))) ?_; rintro e w1 ⟨rfl, hb⟩; have hc := hb.ccell; have hf := hb.frz; have hs := hb.sz; (try simp at hs); (try have hs0 := hs w.heap.size (by omega)); (try have hs1 := hs (w.heap.size + 1) (by omega)); (try have hs2 := hs (w.heap.size + 1 + 1) (by omega)); (try have hs3 := hs (w.heap.size + 1 + 1 + 1) (by omega))))
    go_ret2
    exact ⟨rfl, by (repeat (first | with_reducible exact Ext.rfl' _ | with_reducible assumption | with_reducible refine Ext.al ?_ _ | with_reducible refine Ext.dr ?_ | with_reducible refine Ext.st ?_ (by simp) _ | with_reducible refine Ext.tr ?_ (by assumption)))⟩
  · rw [if_pos h1] at h ⊢
    have h1' : (e1 != 0) = true := by rw [bne_iff_ne]; exact h1
    clear h h1
    go_enter Tryz.func7, Tryz.ntmps7
    go_wp2_with (first | (go_at_call 28; with_reducible refine Calls.mono (H1.out _ (by (repeat (first | with_reducible exact Ext.rfl' _ | with_reducible assumption | with_reducible refine Ext.al ?_ _ | with_reducible refine Ext.dr ?_ | with_reducible refine Ext.st ?_ (by simp) _ | with_reducible refine Ext.tr ?_ (by assumption))))) ?_; rintro e w1 ⟨rfl, hb⟩; have hc := hb.ccell; have hf := hb.frz; have hs := hb.sz; (try simp at hs); (try have hs0 := hs w.heap.size (by omega)); (try have hs1 := hs (w.heap.size + 1) (by omega)); (try have hs2 := hs (w.heap.size + 1 + 1) (by omega)); (try have hs3 := hs (w.heap.size + 1 + 1 + 1) (by omega))))
    go_ret2
    exact ⟨rfl, by (repeat (first | with_reducible exact Ext.rfl' _ | with_reducible assumption | with_reducible refine Ext.al ?_ _ | with_reducible refine Ext.dr ?_ | with_reducible refine Ext.st ?_ (by simp) _ | with_reducible refine Ext.tr ?_ (by assumption)))⟩
def OutWi (base : Nat) (L : List Nat) (e : Ending) (w' : World) : Prop := ∃ A c, e = .returned (.tuple #[.slice A L.length c, .int .i64 0]) ∧ NewZ base w' A c (zl L)
set_option maxHeartbeats 4000000 in
theorem within_ok_c (g : Gr) (cn : Nat) (l : List Pt) (w : World) (A B : Option Addr) (c cB : Nat) (hC : g.C = cn) (hl : l.length ≤ 1000) (hA : Row 1 encZ w A g.L) (hB : Row 2 encP w B l) (h1 : chkG g = 0) (h2 : polyE l = 0) :
    Calls Tryz.prog 7 #[.agg #[.int .i64 g.X, .int .i64 g.Y, .int .i64 g.S, .int .i64 g.C, .int .i64 g.R, .slice A g.L.length c], .slice B l.length cB] w fun e w' => OutWi w.heap.size (chs (wiP g cn l) g.L.length) e w' ∧ Ext w w' := by
  have v := chkG_ok h1
  have hn : g.L.length ≤ 1024 := by have h1 := v.len; have h2 := v.hn; omega
  have H1 := Lib.hid (fun w' (hw : Ext w w') => check_c g w' A c (by unfold maxLen; omega) (hA.ext hw))
  have H2 := Lib.hid (fun w' (hw : Ext w w') => checkPolygon_c l w' B cB hl (hB.ext hw))
  have HC := Lib.hid (fun p q w' (hw : Ext w w') (hq : BoxG w' q g A c) (hp : w'.cell? ⟨p, 0, none⟩ = some (.slice B l.length cB)) (hpz : p < w'.heap.size) =>
    chooseW_c g (wiP g cn l) p q w' A c (by omega) (fun k hk w'' hw' => within1_c g cn k p q l w'' A B c cB v hC hk hl (hB.ext (hw.tr hw')) ((hw'.ccell _ _ hpz).trans hp) (hw'.sz _ hpz) (hq.ext hw')))
  rw [h1] at H1
  rw [h2] at H2
  clear v h1 h2 hC hA hB
  generalize chs (wiP g cn l) g.L.length = M at *
  go_enter Tryz.func7, Tryz.ntmps7
  go_wp2_with (first | (go_at_call 28; with_reducible refine Calls.mono (H1.out _ (by (repeat (first | with_reducible exact Ext.rfl' _ | with_reducible assumption | with_reducible refine Ext.al ?_ _ | with_reducible refine Ext.dr ?_ | with_reducible refine Ext.st ?_ (by simp) _ | with_reducible refine Ext.tr ?_ (by assumption))))) ?_; rintro e w1 ⟨rfl, hb⟩; have hc := hb.ccell; have hf := hb.frz; have hs := hb.sz; (try simp at hs); (try have t0 := hs (w.heap.size) (by first | assumption | omega)); (try have t1 := hs (w.heap.size + 1) (by first | assumption | omega)); (try have t2 := hs (w.heap.size) (by first | assumption | omega)); (try have t3 := hs (w.heap.size) (by first | assumption | omega)); (try have t4 := hs (w.heap.size) (by first | assumption | omega)); (try have t5 := hs (w.heap.size) (by first | assumption | omega))) | (go_at_call 29; with_reducible refine Calls.mono (H2.out _ (by (repeat (first | with_reducible exact Ext.rfl' _ | with_reducible assumption | with_reducible refine Ext.al ?_ _ | with_reducible refine Ext.dr ?_ | with_reducible refine Ext.st ?_ (by simp) _ | with_reducible refine Ext.tr ?_ (by assumption))))) ?_; rintro e w2 ⟨rfl, hb⟩; have hc := hb.ccell; have hf := hb.frz; have hs := hb.sz; (try simp at hs); (try have t0 := hs (w.heap.size) (by first | assumption | omega)); (try have t1 := hs (w.heap.size + 1) (by first | assumption | omega)); (try have t2 := hs (w.heap.size) (by first | assumption | omega)); (try have t3 := hs (w.heap.size) (by first | assumption | omega)); (try have t4 := hs (w.heap.size) (by first | assumption | omega)); (try have t5 := hs (w.heap.size) (by first | assumption | omega))))
  have hE2 : Ext w w2 := by (repeat (first | with_reducible exact Ext.rfl' _ | with_reducible assumption | with_reducible refine Ext.al ?_ _ | with_reducible refine Ext.dr ?_ | with_reducible refine Ext.st ?_ (by simp) _ | with_reducible refine Ext.tr ?_ (by assumption)))
  have hz2 : w.heap.size + 1 < w2.heap.size := by assumption
  refine Calls.mono (HC.out (w.heap.size + 1) (w.heap.size) _ hE2 ⟨by omega, cells_six ⟨?_, ?_, ?_, ?_, ?_, ?_⟩⟩ ?_ hz2) ?_
  all_goals (try (simp [*, go_sem]; done))
  rintro e w3 ⟨⟨A2, c2, rfl, hN⟩, hb⟩
  have HN := Lib.hid hN
  have HE := Lib.hid (hE2.tr hb)
  have hs1 := hE2.size
  clear hN hb
  dsimp only
  go_wp2
  go_ret2
  exact ⟨⟨A2, c2, rfl, HN.out.mono hs1⟩, HE.out⟩

def riP (g : Gr) (cn : Nat) (l : List Pt) (k : Nat) : Bool := decide (0 ≤ placeR l ⟨ctX g cn k, ctY g cn k⟩)
set_option maxHeartbeats 4000000 in
theorem rwithin_c (g : Gr) (cn : Nat) (l : List Pt) (w : World) (A B : Option Addr) (c cB : Nat) (hC : g.C = cn) (h0 : 0 < l.length) (hl : l.length ≤ 1000) (v : VG g) (hB : Row 2 encP w B l) :
    Calls Tryz.prog 13 #[.agg #[.int .i64 g.X, .int .i64 g.Y, .int .i64 g.S, .int .i64 g.C, .int .i64 g.R, .slice A g.L.length c], .slice B l.length cB] w fun e w' => OutZN w.heap.size (chs (riP g cn l) g.L.length) e w' ∧ Ext w w' := by
  have hn : g.L.length ≤ 1024 := by have h1 := v.len; have h2 := v.hn; omega
  have HCt := Lib.hid (fun k (hk : k < g.L.length) w' => rcentre_c g cn k w' A c v hC hk)
  have HIn := Lib.hid (fun k w' (hw : Ext w w') => rinside_c l (ctX g cn k) (ctY g cn k) w' B cB h0 hl (hB.ext hw))
  obtain ⟨i0, hi0, hzi0, hzi1, hzi2⟩ := info_parts infoZ
  have HI := Lib.hid (And.intro hi0 (And.intro hzi0 (And.intro hzi1 hzi2)))
  clear hi0 hzi0 hzi1 hzi2 hB v hC
  go_enter Tryz.func13, Tryz.ntmps13
  go_wp2
  have hEp : Ext w (w.alloc (.cells #[.int .i64 g.X, .int .i64 g.Y, .int .i64 g.S, .int .i64 g.C, .int .i64 g.R, .slice A g.L.length c] 24)) := by (repeat (first | with_reducible exact Ext.rfl' _ | with_reducible assumption | with_reducible refine Ext.al ?_ _ | with_reducible refine Ext.dr ?_ | with_reducible refine Ext.st ?_ (by simp) _ | with_reducible refine Ext.tr ?_ (by assumption)))
  have kg : CellsAt (w.alloc (.cells #[.int .i64 g.X, .int .i64 g.Y, .int .i64 g.S, .int .i64 g.C, .int .i64 g.R, .slice A g.L.length c] 24)) w.heap.size 0 [.int .i64 g.X, .int .i64 g.Y, .int .i64 g.S, .int .i64 g.C, .int .i64 g.R, .slice A g.L.length c] := by
    refine cells_six ⟨?_, ?_, ?_, ?_, ?_, ?_⟩ <;> simp [World.cell?_alloc_new, go_sem]
  have zp : w.heap.size < (w.alloc (.cells #[.int .i64 g.X, .int .i64 g.Y, .int .i64 g.S, .int .i64 g.C, .int .i64 g.R, .slice A g.L.length c] 24)).heap.size := by simp
  generalize w.alloc (.cells #[.int .i64 g.X, .int .i64 g.Y, .int .i64 g.S, .int .i64 g.C, .int .i64 g.R, .slice A g.L.length c] 24) = wp at *
  go_loopw [5, 6] (fun v i wr => Ext wp wr ∧ ∃ k : Nat, k ≤ g.L.length ∧ i = .int .i64 k ∧ Hid (wr.ownsRow wp.heap.size 3 1 v (chs (riP g cn l) k).length ((zl (chs (riP g cn l) k)).flatMap encZ))) (fun _ i _ => g.L.length - (intOf i).toNat)
  case atStart => exact ⟨Ext.rfl' _, 0, Nat.zero_le _, rfl, Lib.hid (World.ownsRow_nil _ _ _ _)⟩
  case round =>
    obtain ⟨hr, k, hk, rfl, hO⟩ := hrel
    have hE : Ext w wr := hEp.tr hr
    have hzp := hr.sz _ zp
    obtain ⟨g0, g1, g2, g3, g4, g5⟩ := (kg.ext hr zp).six
    by_cases hlt : k < g.L.length
    · have K1 := Lib.hid (fun w' => HCt.out k hlt w')
      have K2 := Lib.hid (fun w' (hw : Ext w w') => HIn.out k w' hw)
      have hln := chs_len (riP g cn l) k
      have hcs := chs_succ (riP g cn l) k
      have hrp : riP g cn l k = decide (0 ≤ placeR l ⟨ctX g cn k, ctY g cn k⟩) := rfl
      generalize placeR l ⟨ctX g cn k, ctY g cn k⟩ = V at *
      generalize ctX g cn k = X at *
      generalize ctY g cn k = Y at *
      by_cases hV : 0 ≤ V
      · rw [hrp, decide_eq_true hV] at hcs
        have HN : Hid (chs (riP g cn l) (k + 1) = chs (riP g cn l) k ++ [k]) := Lib.hid (by rw [hcs]; simp)
        obtain ⟨hi0, hzi0, hzi1, hzi2⟩ := HI.out
        clear hcs hrp
        generalize chs (riP g cn l) k = M at *
        go_wp2_with (first | (go_at_call 43; with_reducible refine Calls.mono (K1.out _) ?_; rintro e w3 ⟨rfl, hb⟩; have hc := hb.ccell; have hf := hb.frz; have hs := hb.sz; (try simp at hs); (try have t0 := hs (w.heap.size) (by first | assumption | omega)); (try have t1 := hs (w.heap.size) (by first | assumption | omega)); (try have t2 := hs (w.heap.size) (by first | assumption | omega)); (try have t3 := hs (w.heap.size) (by first | assumption | omega)); (try have t4 := hs (w.heap.size) (by first | assumption | omega)); (try have t5 := hs (w.heap.size) (by first | assumption | omega))) | (go_at_call 42; with_reducible refine Calls.mono (K2.out _ (by (repeat (first | with_reducible exact Ext.rfl' _ | with_reducible assumption | with_reducible refine Ext.al ?_ _ | with_reducible refine Ext.dr ?_ | with_reducible refine Ext.st ?_ (by simp) _ | with_reducible refine Ext.tr ?_ (by assumption))))) ?_; rintro e w4 ⟨rfl, hb⟩; have hc := hb.ccell; have hf := hb.frz; have hs := hb.sz; (try simp at hs); (try have t0 := hs (w.heap.size) (by first | assumption | omega)); (try have t1 := hs (w.heap.size) (by first | assumption | omega)); (try have t2 := hs (w.heap.size) (by first | assumption | omega)); (try have t3 := hs (w.heap.size) (by first | assumption | omega)); (try have t4 := hs (w.heap.size) (by first | assumption | omega)); (try have t5 := hs (w.heap.size) (by first | assumption | omega))) | (at_builtin; refine wpList_append_own _ rfl _ _ 22 rfl (wp.heap.size) 3 i0 _ 1 8 Tryz.underlying22 hi0 hzi0 hzi1 hzi2 rfl (by decide) _ _ _ rfl (World.ownsRow.alloc (ownsRow_ext (hO.out) (by (repeat (first | with_reducible exact Ext.rfl' _ | with_reducible assumption | with_reducible refine Ext.al ?_ _ | with_reducible refine Ext.dr ?_ | with_reducible refine Ext.st ?_ (by simp) _ | with_reducible refine Ext.tr ?_ (by assumption))))) _) ⟨_, 0, none⟩ 1 1 [.int .i64 ((k : Int))] rfl rfl ?_ ?_ ?_ ?_ ?_ ?_))
        · exact one_newZ _ _ _
        · intro u hu; simp at hu; subst hu; rfl
        · unfold maxLen; omega
        · omega
        · have hE4 : Ext wr w4 := by (repeat (first | with_reducible exact Ext.rfl' _ | with_reducible assumption | with_reducible refine Ext.al ?_ _ | with_reducible refine Ext.dr ?_ | with_reducible refine Ext.st ?_ (by simp) _ | with_reducible refine Ext.tr ?_ (by assumption)))
          have := (hr.tr hE4).size
          simp; omega
        intro v' w5 hown hgrow _
        have hE4 : Ext wr w4 := by (repeat (first | with_reducible exact Ext.rfl' _ | with_reducible assumption | with_reducible refine Ext.al ?_ _ | with_reducible refine Ext.dr ?_ | with_reducible refine Ext.st ?_ (by simp) _ | with_reducible refine Ext.tr ?_ (by assumption)))
        have hE5 : Ext wp w5 := grown_ext (Ext.al (hr.tr hE4) _) (World.ownsRow.alloc (ownsRow_ext hO.out hE4) _) (Nat.le_refl _) hgrow
        have hown2 := Lib.hid hown
        clear hown hgrow hi0 hzi0 hzi1 hzi2
        go_wp2
        refine ⟨⟨hE5, k + 1, by omega, by go_num, Lib.hid ?_⟩, by simp [intOf]; omega⟩
        rw [HN.out]
        exact own_put hown2.out
      · have hV' : decide (0 ≤ V) = false := decide_eq_false hV
        rw [hrp, hV'] at hcs
        have HN : Hid (chs (riP g cn l) (k + 1) = chs (riP g cn l) k) := Lib.hid (by rw [hcs]; simp)
        clear hcs hrp
        go_wp2_with (first | (go_at_call 43; with_reducible refine Calls.mono (K1.out _) ?_; rintro e w3 ⟨rfl, hb⟩; have hc := hb.ccell; have hf := hb.frz; have hs := hb.sz; (try simp at hs); (try have t0 := hs (w.heap.size) (by first | assumption | omega)); (try have t1 := hs (w.heap.size) (by first | assumption | omega)); (try have t2 := hs (w.heap.size) (by first | assumption | omega)); (try have t3 := hs (w.heap.size) (by first | assumption | omega)); (try have t4 := hs (w.heap.size) (by first | assumption | omega)); (try have t5 := hs (w.heap.size) (by first | assumption | omega))) | (go_at_call 42; with_reducible refine Calls.mono (K2.out _ (by (repeat (first | with_reducible exact Ext.rfl' _ | with_reducible assumption | with_reducible refine Ext.al ?_ _ | with_reducible refine Ext.dr ?_ | with_reducible refine Ext.st ?_ (by simp) _ | with_reducible refine Ext.tr ?_ (by assumption))))) ?_; rintro e w4 ⟨rfl, hb⟩; have hc := hb.ccell; have hf := hb.frz; have hs := hb.sz; (try simp at hs); (try have t0 := hs (w.heap.size) (by first | assumption | omega)); (try have t1 := hs (w.heap.size) (by first | assumption | omega)); (try have t2 := hs (w.heap.size) (by first | assumption | omega)); (try have t3 := hs (w.heap.size) (by first | assumption | omega)); (try have t4 := hs (w.heap.size) (by first | assumption | omega)); (try have t5 := hs (w.heap.size) (by first | assumption | omega))))
        have hE4 : Ext wr w4 := by (repeat (first | with_reducible exact Ext.rfl' _ | with_reducible assumption | with_reducible refine Ext.al ?_ _ | with_reducible refine Ext.dr ?_ | with_reducible refine Ext.st ?_ (by simp) _ | with_reducible refine Ext.tr ?_ (by assumption)))
        refine ⟨⟨hr.tr hE4, k + 1, by omega, by go_num, Lib.hid ?_⟩, by simp [intOf]; omega⟩
        rw [HN.out]
        exact ownsRow_ext hO.out hE4
    · have hks : k = g.L.length := by omega
      subst hks
      obtain ⟨A', c', hv, hN⟩ := NewZ.of (l := zl (chs (riP g cn l) g.L.length)) rfl (zl_len _).symm hO.out
      rw [zl_len] at hv
      subst hv
      have HN := Lib.hid hN
      clear hO hN
      go_wp2
      go_ret
      exact ⟨⟨A', c', rfl, HN.out.mono hEp.size⟩, hE⟩
theorem ct_good {g : Gr} (v : VG g) {cn k : Nat} (hC : g.C = cn) (hk : k < g.L.length) : good ⟨ctX g cn k, ctY g cn k⟩ = true := by
  obtain ⟨cn', rn, e1, e2, e3, e4, e5, e6, e7⟩ := v.nat
  have hcn : cn' = cn := by omega
  subst hcn
  have hx := v.hx
  have hy := v.hy
  have hs := v.hs
  have hxe := v.hxe
  have hye := v.hye
  have hd1 : k / cn' < rn := by rw [Nat.div_lt_iff_lt_mul (by omega), Nat.mul_comm]; omega
  have hd2 := Nat.mod_lt k (show 0 < cn' by omega)
  unfold ctX ctY
  generalize k / cn' = dv at *
  generalize k % cn' = md at *
  have a1 : (md : Int) * g.S + g.S ≤ g.C * g.S := by
    have : ((md : Int) + 1) * g.S ≤ g.C * g.S := Int.mul_le_mul_of_nonneg_right (by omega) (by omega)
    rw [Int.add_mul] at this; omega
  have a2 : (dv : Int) * g.S + g.S ≤ g.R * g.S := by
    have : ((dv : Int) + 1) * g.S ≤ g.R * g.S := Int.mul_le_mul_of_nonneg_right (by omega) (by omega)
    rw [Int.add_mul] at this; omega
  have b1 : 0 ≤ (md : Int) * g.S := Int.mul_nonneg (by omega) (by omega)
  have b2 : 0 ≤ (dv : Int) * g.S := Int.mul_nonneg (by omega) (by omega)
  generalize (md : Int) * g.S = p1 at *
  generalize (dv : Int) * g.S = p2 at *
  unfold good withinB
  simp
  omega
theorem within_same {g : Gr} (v : VG g) {cn : Nat} {l : List Pt} (hC : g.C = cn) (h : polyE l = 0) : chs (wiP g cn l) g.L.length = chs (riP g cn l) g.L.length := by
  obtain ⟨_, _, h3, _⟩ := polyE_zero h
  unfold chs
  apply List.filter_congr
  intro k hk
  have hk' : k < g.L.length := List.mem_range.1 hk
  have hg := ct_good v hC hk'
  unfold wiP riP
  rw [place_same l _ h3 hg]
  have e1 : insE l ⟨ctX g cn k, ctY g cn k⟩ = 0 := by unfold insE; rw [if_neg (by rw [h]; simp), hg]; rfl
  have e2 : insV l ⟨ctX g cn k, ctY g cn k⟩ = placeG l ⟨ctX g cn k, ctY g cn k⟩ := by unfold insV; rw [e1]; rfl
  rw [e2]

theorem infoP2 : (Tryz.prog.info? 51).map (fun i => (i.zero, i.size, i.bytes)) = some (some (.agg #[.int .i64 0, .int .i64 0]), 2, 16) := by kernel_rfl
theorem encP_one2 : ∀ (x : Pt), ∀ v ∈ encP x, v.oneCell' = true := fun x v hv => by simp [encP] at hv; rcases hv with rfl | rfl <;> rfl
theorem bstep_append {P : Program} {ops : Array Oper} {o : Oper} {a : Act} {w : World} {K : Act → World → Prop} {Q : Exit → Act → World → Prop} {E : Prop}
    (hg : o.guard = none) (s x : Operand) (t : TypeId) (hop : o.op = Op.call { callee := Callee.builtin Builtin.append, args := #[s, x], argTypes := #[t, t] })
    (base : Nat) (e : TypeId) (i : TypeInfo) (z : Value) (size bytes : Nat) (h1 : P.underlying t = some (.slice e)) (h2 : P.info? e = some i) (h3 : i.zero = some z) (h4 : i.size = size) (h5 : i.bytes = bytes) (h6 : z.cells.size = size) (h7 : 0 < size)
    (v : Value) (n : Nat) (xs : List Value) (hs : a.eval s = v) (hown : w.ownsRow base e size v n xs)
    (ad : Addr) (m c : Nat) (news : List Value) (hx : a.eval x = .slice (some ad) m c) (hn : news.length = m * size) (hc : ∀ j u, news[j]? = some u → w.cell? (ad.add j) = some u) (h1c : ∀ u ∈ news, u.oneCell' = true)
    (b1 : n + m ≤ maxLen) (b2 : (n + m) * bytes ≤ 140737488355328) (b3 : base ≤ w.heap.size)
    (hK : ∀ v' w', w'.ownsRow base e size v' (n + m) (xs ++ news) → w.grownBy w' v.ownBlock → K (a.put o.dst v') w') :
    if Region.wanted o (yielded ops a.tmps) = true then Oper.wp P o a w K Q else E := by
  have hw : Region.wanted o (yielded ops a.tmps) = true := by simp [Region.wanted, hg]
  rw [if_pos hw]
  obtain ⟨v', w', hrun, r1, r2, _⟩ := run_append_own (P := P) w base t o.type e i z size bytes h1 h2 h3 h4 h5 h6 h7 v n xs hown ad m c news hn hc h1c b1 b2 b3
  unfold Oper.wp
  simp [execOp, hop, resolve, invoke, builtin, hs, hx, hrun, Result.andThen]
  exact hK v' w' r1 r2

/-- append of a slice that came in, in a region that draws its order. -/
theorem bstep_append_in {α : Type} {P : Program} {ops : Array Oper} {o : Oper} {a : Act} {w : World} {K : Act → World → Prop} {Q : Exit → Act → World → Prop} {E : Prop}
    (hg : o.guard = none) (s x : Operand) (t : TypeId) (hop : o.op = Op.call { callee := Callee.builtin Builtin.append, args := #[s, x], argTypes := #[t, t] })
    (base : Nat) (e : TypeId) (i : TypeInfo) (z : Value) (k bytes : Nat) (ht : P.underlying t = some (.slice e)) (hi : P.info? e = some i) (hz : i.zero = some z) (hsize : i.size = k) (hby : i.bytes = bytes) (hzs : z.cells.size = k) (hk0 : 0 < k)
    (enc : α → List Value) (hk : ∀ x, (enc x).length = k) (h1 : ∀ x, ∀ u ∈ enc x, u.oneCell' = true)
    (v : Value) (n : Nat) (xs : List Value) (hs : a.eval s = v) (hown : w.ownsRow base e k v n xs) (l : List α) (A : Option Addr) (c : Nat) (hx : a.eval x = .slice A l.length c) (hR : Row k enc w A l) (hl : n + l.length ≤ maxLen) (hb : (n + l.length) * bytes ≤ 140737488355328) (hbase : base ≤ w.heap.size)
    (hK : ∀ v' w', w'.ownsRow base e k v' (n + l.length) (xs ++ l.flatMap enc) → w.grownBy w' v.ownBlock → K (a.put o.dst v') w') :
    if Region.wanted o (yielded ops a.tmps) = true then Oper.wp P o a w K Q else E := by
  have hall : ∀ u ∈ l.flatMap enc, u.oneCell' = true := fun u hu => by
    obtain ⟨y, _, hy⟩ := List.mem_flatMap.1 hu
    exact h1 y u hy
  by_cases hn : l = []
  · subst hn
    cases A with
    | none =>
      have hw : Region.wanted o (yielded ops a.tmps) = true := by simp [Region.wanted, hg]
      rw [if_pos hw]
      have hrun := run_append_none (P := P) w base t o.type e i k ht hi v n xs hown c
      have hx' : a.eval x = .slice none 0 c := hx
      unfold Oper.wp
      simp [execOp, hop, resolve, invoke, builtin, hs, hx', hrun, Result.andThen]
      exact hK v w (by simpa using hown) (World.grownBy.refl w _)
    | some ad =>
      exact bstep_append hg s x t hop base e i z k bytes ht hi hz hsize hby hzs hk0 v n xs hs hown ad 0 c [] hx (by simp) (fun j u hu => by simp at hu) (fun u hu => by simp at hu) hl hb hbase (fun v' w' h1 h2 => hK v' w' (by simpa using h1) h2)
  · rcases id hR with h0 | ⟨b, off, rfl, _⟩
    · exact absurd h0 hn
    · have hf := hR.flat hk hk0
      exact bstep_append hg s x t hop base e i z k bytes ht hi hz hsize hby hzs hk0 v n xs hs hown ⟨b, off, none⟩ l.length c (l.flatMap enc) hx (flat_lenK hk l) (fun j u hu => by rw [addr_addN]; exact hf j u hu) hall hl hb hbase (fun v' w' h1 h2 => hK v' w' h1 h2)

/-- The cells of Within, none with an error. -/
def wiL (g : Gr) (cn : Nat) (l : List Pt) : List Nat := if withE g l = 0 then chs (riP g cn l) g.L.length else []
def OutWA (M : List Nat) (E : Int) (e : Ending) (w' : World) : Prop := ∃ A c, e = .returned (.tuple #[.slice A M.length c, .int .i64 E]) ∧ Row 1 encZ w' A (zl M)
theorem within_any_c (g : Gr) (cn : Nat) (l : List Pt) (w : World) (A B : Option Addr) (c cB : Nat) (hC0 : cn = g.C.toNat) (hm : g.L.length ≤ maxLen) (hl : l.length ≤ 1000) (hA : Row 1 encZ w A g.L) (hB : Row 2 encP w B l) :
    Calls Tryz.prog 7 #[.agg #[.int .i64 g.X, .int .i64 g.Y, .int .i64 g.S, .int .i64 g.C, .int .i64 g.R, .slice A g.L.length c], .slice B l.length cB] w fun e w' => OutWA (wiL g cn l) (withE g l) e w' ∧ Ext w w' := by
  by_cases h : withE g l = 0
  · have h1 : chkG g = 0 := by
      unfold withE at h
      by_cases h1 : chkG g = 0
      · exact h1
      · rw [if_pos h1] at h; exact h
    have h2 : polyE l = 0 := by
      unfold withE at h
      rw [if_neg (by omega)] at h; exact h
    have hC : g.C = (cn : Int) := by have := (chkG_ok h1).hc; omega
    have e1 : wiL g cn l = chs (wiP g cn l) g.L.length := by unfold wiL; rw [if_pos h, within_same (chkG_ok h1) hC h2]
    rw [e1, h]
    exact (within_ok_c g cn l w A B c cB hC hl hA hB h1 h2).mono fun e w' ⟨⟨A2, c2, he, hN⟩, hb⟩ => ⟨⟨A2, c2, he, hN.row⟩, hb⟩
  · have e1 : wiL g cn l = [] := by unfold wiL; rw [if_neg h]
    rw [e1]
    exact (within_err_c g l w A B c cB hm hl hA hB h).mono fun e w' ⟨he, hb⟩ => ⟨⟨none, 0, he, .inl rfl⟩, hb⟩
def hgE (g : Gr) (cells : List Int) : Int := if chkG g ≠ 0 then chkG g else cellsE g.L.length cells
/-- Highest's answer. -/
def hgV (g : Gr) (cells : List Int) (best : Int) : Value := if hgE g cells = 0 then hiEnd best else .tuple #[.int .i64 0, .int .i64 (hgE g cells)]
theorem highest_any_c (g : Gr) (cells : List Int) (best : Int) (w : World) (A D : Option Addr) (c d : Nat) (hb : HiI g.L cells cells.length best) (hm : g.L.length ≤ maxLen) (hl : cells.length ≤ 100000) (hA : Row 1 encZ w A g.L) (hD : Row 1 encZ w D cells) :
    Calls Tryz.prog 8 #[.agg #[.int .i64 g.X, .int .i64 g.Y, .int .i64 g.S, .int .i64 g.C, .int .i64 g.R, .slice A g.L.length c], .slice D cells.length d] w fun e w' => e = .returned (hgV g cells best) ∧ Ext w w' := by
  unfold hgV
  by_cases h : hgE g cells = 0
  · have h1 : chkG g = 0 := by
      unfold hgE at h
      by_cases h1 : chkG g = 0
      · exact h1
      · rw [if_pos h1] at h; exact h
    have h2 : cellsE g.L.length cells = 0 := by
      unfold hgE at h
      rw [if_neg (by omega)] at h; exact h
    rw [if_pos h]
    exact (highest_ok_c g cells w A D c d hl hA hD h1 h2).mono fun e w' ⟨⟨b', hb', he⟩, hx⟩ => ⟨by rw [he, hiI_one hb' hb], hx⟩
  · rw [if_neg h]
    exact highest_err_c g cells w A D c d (hgE g cells) hm hl hA hD h rfl
end Go.Proofs.YtgnakeemcccfjaaGreat
