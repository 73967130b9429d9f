/- Contracts of Above, and of the reference's. -/
import Derived.Test.YtgnakeemcccfjaaBnear
import Derived.Test.YtgnakeemcccfjaaTtail
import Derived.Test.YtgnakeemcccfjaaBpchg
namespace Go.Proofs.Ytgnakeemcccfjaa
open Go Go.RowKit Go.IntWalk

def abV (s lev x : Int) : Int := if x ≠ 30000 ∧ lev < x then s * s * (x - lev) else 0
def abN (lev x : Int) : Int := if x ≠ 30000 ∧ lev < x then 1 else 0
def vAt (s lev : Int) (l : List Int) (i : Nat) : Int := abV s lev (gi l i)
def nAt (lev : Int) (l : List Int) (i : Nat) : Int := abN lev (gi l i)
theorem abV_bd {s lev x : Int} (h0 : 0 ≤ s) (h1 : s ≤ 10000) (hl : -20000 ≤ lev ∧ lev ≤ 20000) (hx : x = 30000 ∨ (-20000 ≤ x ∧ x ≤ 20000)) : 0 ≤ abV s lev x ∧ abV s lev x ≤ 4000000000000 := by
  unfold abV
  split
  · rename_i h
    have h2 : 0 ≤ s * s := Int.mul_nonneg h0 h0
    have h3 : s * s ≤ 10000 * 10000 := Int.mul_le_mul h1 h1 h0 (by omega)
    have h4 : s * s * (x - lev) ≤ (10000 * 10000) * 40000 := Int.mul_le_mul h3 (by omega) (by omega) (by omega)
    have h5 : 0 ≤ s * s * (x - lev) := Int.mul_nonneg h2 (by omega)
    omega
  · omega
theorem abN_bd (lev x : Int) : 0 ≤ abN lev x ∧ abN lev x ≤ 1 := by unfold abN; split <;> omega
theorem above_bd {g : Gr} (v : VG g) {lev : Int} (hl : -20000 ≤ lev ∧ lev ≤ 20000) (k : Nat) (hk : k ≤ g.L.length) :
    (0 ≤ sumN (vAt g.S lev g.L) k ∧ sumN (vAt g.S lev g.L) k ≤ 4000000000000 * 1024) ∧ (0 ≤ sumN (nAt lev g.L) k ∧ sumN (nAt lev g.L) k ≤ 1024) := by
  have h1 := v.len
  have h2 := v.hn
  have hs := v.hs
  have b1 := sumN_bd (f := vAt g.S lev g.L) (M := 4000000000000) k (fun i hi => abV_bd (by omega) (by omega) hl (v.lev i (by omega)))
  have b2 := sumN_bd (f := nAt lev g.L) (M := 1) k (fun i _ => abN_bd _ _)
  omega
theorem lvB_iff {x : Int} : lvB x = true ↔ -20000 ≤ x ∧ x ≤ 20000 := by unfold lvB withinB; simp
/-- The error of a grid and a level. -/
def glE (g : Gr) (lev : Int) : Int := if chkG g ≠ 0 then chkG g else if lvB lev = false then 2 else 0
theorem glE_ok {g : Gr} {lev : Int} (h : glE g lev = 0) : chkG g = 0 ∧ lvB lev = true := by
  unfold glE at h
  by_cases h1 : chkG g ≠ 0
  · rw [if_pos h1] at h; exact absurd h h1
  rw [if_neg h1] at h
  by_cases h2 : lvB lev = false
  · rw [if_pos h2] at h; cases h
  exact ⟨by omega, by simpa using h2⟩
set_option maxHeartbeats 4000000 in
theorem above_err_c (g : Gr) (lev : Int) (w : World) (A : Option Addr) (c : Nat) (hl : g.L.length ≤ maxLen) (hA : Row 1 encZ w A g.L) (h0 : glE g lev ≠ 0) :
    Calls Try.prog 51 #[.agg #[.int .i64 g.X, .int .i64 g.Y, .int .i64 g.S, .int .i64 g.C, .int .i64 g.R, .slice A g.L.length c], .int .i64 lev] w fun e w' => e = .returned (.tuple #[.int .i64 0, .int .i64 0, .int .i64 (glE g lev)]) ∧ Ext w w' := by
  have HC := Lib.hid (fun w' (hw : Ext w w') => check_c g w' A c hl (hA.ext hw))
  have HL := Lib.hid (fun w => checkLevel_c lev w)
  unfold glE at *
  by_cases h1 : chkG g = 0
  case neg =>
    rw [if_pos h1]
    have h1' : (chkG g != 0) = true := by rw [bne_iff_ne]; exact h1
    clear h0
    generalize chkG g = E at *
    go_enter Try.func51, Try.ntmps51
    go_wp2_with (first | (go_at_call 21; with_reducible refine Calls.mono (HC.out _ (by (repeat (first | with_reducible exact Ext.rfl' _ | with_reducible assumption | with_reducible refine Ext.al ?_ _ | with_reducible refine Ext.dr ?_ | with_reducible refine Ext.st ?_ (by simp) _ | with_reducible refine Ext.tr ?_ (by assumption))))) ?_; rintro e w1 ⟨rfl, hb⟩; have hc := hb.ccell; have hf := hb.frz; have hs := hb.sz; (try simp at hs); (try have hs0 := hs w.heap.size (by omega)); (try have hs1 := hs (w.heap.size + 1) (by omega)); (try have hs2 := hs (w.heap.size + 1 + 1) (by omega)); (try have hs3 := hs (w.heap.size + 1 + 1 + 1) (by omega))))
    exact bodyPost_ret (v := .tuple #[.int .i64 0, .int .i64 0, .int .i64 E]) (by simp [results, Try.results51, go_sem]) rfl ⟨rfl, by (repeat (first | with_reducible exact Ext.rfl' _ | with_reducible assumption | with_reducible refine Ext.al ?_ _ | with_reducible refine Ext.dr ?_ | with_reducible refine Ext.st ?_ (by simp) _ | with_reducible refine Ext.tr ?_ (by assumption)))⟩
  rw [if_neg (by omega)] at h0 ⊢
  rw [h1] at HC
  by_cases h2 : lvB lev = false
  case neg => rw [if_neg h2] at h0; exact absurd rfl h0
  rw [if_pos h2] at HL ⊢
  clear h0 h1
  go_enter Try.func51, Try.ntmps51
  go_wp2_with (first | (go_at_call 21; with_reducible refine Calls.mono (HC.out _ (by (repeat (first | with_reducible exact Ext.rfl' _ | with_reducible assumption | with_reducible refine Ext.al ?_ _ | with_reducible refine Ext.dr ?_ | with_reducible refine Ext.st ?_ (by simp) _ | with_reducible refine Ext.tr ?_ (by assumption))))) ?_; rintro e w1 ⟨rfl, hb⟩; have hc := hb.ccell; have hf := hb.frz; have hs := hb.sz; (try simp at hs); (try have hs0 := hs w.heap.size (by omega)); (try have hs1 := hs (w.heap.size + 1) (by omega)); (try have hs2 := hs (w.heap.size + 1 + 1) (by omega)); (try have hs3 := hs (w.heap.size + 1 + 1 + 1) (by omega))) | (go_at_call 93; with_reducible refine Calls.mono (HL.out _) ?_; rintro e w' ⟨rfl, rfl⟩))
  exact bodyPost_ret (v := .tuple #[.int .i64 0, .int .i64 0, .int .i64 2]) (by simp [results, Try.results51, go_sem]) rfl ⟨rfl, by (repeat (first | with_reducible exact Ext.rfl' _ | with_reducible assumption | with_reducible refine Ext.al ?_ _ | with_reducible refine Ext.dr ?_ | with_reducible refine Ext.st ?_ (by simp) _ | with_reducible refine Ext.tr ?_ (by assumption)))⟩
set_option maxHeartbeats 4000000 in
theorem above_ok_c (g : Gr) (lev : Int) (w : World) (A : Option Addr) (c : Nat) (hA : Row 1 encZ w A g.L) (h0 : glE g lev = 0) :
    Calls Try.prog 51 #[.agg #[.int .i64 g.X, .int .i64 g.Y, .int .i64 g.S, .int .i64 g.C, .int .i64 g.R, .slice A g.L.length c], .int .i64 lev] w fun e w' => e = .returned (.tuple #[.int .i64 (sumN (vAt g.S lev g.L) g.L.length), .int .i64 (sumN (nAt lev g.L) g.L.length), .int .i64 0]) ∧ Ext w w' := by
  obtain ⟨hc0, hlv⟩ := glE_ok h0
  have v := chkG_ok hc0
  have hl2 := lvB_iff.1 hlv
  have hn : g.L.length ≤ 1024 := by have h1 := v.len; have h2 := v.hn; omega
  have HC := Lib.hid (fun w' (hw : Ext w w') => by have h := check_c g w' A c (by unfold maxLen; omega) (hA.ext hw); rw [hc0] at h; exact h)
  have HLV := Lib.hid (fun w => by have h := checkLevel_c lev w; rw [hlv, if_neg (by decide)] at h; exact h)
  have HK := Lib.hid (fun k (hk : k < g.L.length) w' (hw : Ext w w') => isKnown_c g k w' A c hk (by unfold maxLen; omega) (hA.ext hw))
  have HAr := Lib.hid (fun w' => area_c g w' A c (by have := v.hs; omega) (by have := v.hs; omega))
  have HBD := Lib.hid (fun k (hk : k ≤ g.L.length) => above_bd v hl2 k hk)
  have HVV := Lib.hid (fun k (hk : k < g.L.length) => (And.intro (v.lev k hk) (abV_bd (s := g.S) (lev := lev) (by have := v.hs; omega) (by have := v.hs; omega) hl2 (v.lev k hk))))
  clear hc0 hlv v h0
  go_enter Try.func51, Try.ntmps51
  go_wp2_with (first | (go_at_call 21; with_reducible refine Calls.mono (HC.out _ (by (repeat (first | with_reducible exact Ext.rfl' _ | with_reducible assumption | with_reducible refine Ext.al ?_ _ | with_reducible refine Ext.dr ?_ | with_reducible refine Ext.st ?_ (by simp) _ | with_reducible refine Ext.tr ?_ (by assumption))))) ?_; rintro e w1 ⟨rfl, hb⟩; have hc := hb.ccell; have hf := hb.frz; have hs := hb.sz; (try simp at hs); (try have hs0 := hs w.heap.size (by omega)); (try have hs1 := hs (w.heap.size + 1) (by omega)); (try have hs2 := hs (w.heap.size + 1 + 1) (by omega)); (try have hs3 := hs (w.heap.size + 1 + 1 + 1) (by omega))) | (go_at_call 93; with_reducible refine Calls.mono (HLV.out _) ?_; rintro e w' ⟨rfl, rfl⟩))
  have hEp : Ext w w1 := by (repeat (first | with_reducible exact Ext.rfl' _ | with_reducible assumption | with_reducible refine Ext.al ?_ _ | with_reducible refine Ext.dr ?_ | with_reducible refine Ext.st ?_ (by simp) _ | with_reducible refine Ext.tr ?_ (by assumption)))
  have kg : CellsAt w1 w.heap.size 0 [.int .i64 g.X, .int .i64 g.Y, .int .i64 g.S, .int .i64 g.C, .int .i64 g.R, .slice A g.L.length c] := by
    refine cells_six ⟨?_, ?_, ?_, ?_, ?_, ?_⟩ <;> simp [*, go_sem]
  have zp : w.heap.size < w1.heap.size := by assumption
  clear hb hc hf hs
  go_loopw [4, 5, 9, 10, 24] (fun x y _ _ i wr => Ext w1 wr ∧ ∃ k : Nat, k ≤ g.L.length ∧ i = .int .i64 k ∧ x = .int .i64 (sumN (vAt g.S lev g.L) k) ∧ y = .int .i64 (sumN (nAt lev g.L) k)) (fun _ _ _ _ i _ => g.L.length - (intOf i).toNat)
  case atStart => exact ⟨Ext.rfl' _, 0, Nat.zero_le _, rfl, rfl, rfl⟩
  case round =>
    obtain ⟨hr, k, hk, rfl, rfl, rfl⟩ := hrel
    have hE : Ext w wr := hEp.tr hr
    have hzp := hr.sz _ zp
    obtain ⟨g0, g1, g2, g3, g4, g5⟩ := (kg.ext hr zp).six
    by_cases hlt : k < g.L.length
    · obtain ⟨b, off, rfl, hb0, hcell⟩ := hA.p1 hlt
      have c1 := hcell _ hE
      have hz := hE.sz _ hb0
      have hcg := gi_lt g.L k hlt
      rw [← hcg] at c1
      obtain ⟨⟨b1, b2⟩, b3, b4⟩ := HBD.out k hk
      obtain ⟨hv, hvb⟩ := HVV.out k hlt
      have K1 := Lib.hid (fun w' (hw : Ext w w') => HK.out k hlt w' hw)
      have s1 : Hid (sumN (vAt g.S lev g.L) (k + 1) = sumN (vAt g.S lev g.L) k + abV g.S lev (gi g.L k)) := Lib.hid rfl
      have s2 : Hid (sumN (nAt lev g.L) (k + 1) = sumN (nAt lev g.L) k + abN lev (gi g.L k)) := Lib.hid rfl
      unfold knB at K1
      generalize sumN (vAt g.S lev g.L) k = x at *
      generalize sumN (nAt lev g.L) k = y at *
      generalize gi g.L k = a at *
      clear hcg hcell
      by_cases hu : a = 30000
      · rw [decide_eq_false (by simpa using hu)] at K1
        have e1 : Hid (abV g.S lev a = 0) := Lib.hid (by unfold abV; rw [if_neg (by omega)])
        have e2 : Hid (abN lev a = 0) := Lib.hid (by unfold abN; rw [if_neg (by omega)])
        clear hu hv hvb
        go_wp2_with (first | (go_at_call 79; with_reducible refine Calls.mono (K1.out _ (by (repeat (first | with_reducible exact Ext.rfl' _ | with_reducible assumption | with_reducible refine Ext.al ?_ _ | with_reducible refine Ext.dr ?_ | with_reducible refine Ext.st ?_ (by simp) _ | with_reducible refine Ext.tr ?_ (by assumption))))) ?_; rintro e w2 ⟨rfl, hb⟩; have hc := hb.ccell; have hf := hb.frz; have hs := hb.sz; (try simp at hs); (try have t0 := hs (w.heap.size) (by first | assumption | omega)); (try have t1 := hs (b) (by first | assumption | omega)); (try have t2 := hs (w.heap.size) (by first | assumption | omega)); (try have t3 := hs (w.heap.size) (by first | assumption | omega)); (try have t4 := hs (w.heap.size) (by first | assumption | omega)); (try have t5 := hs (w.heap.size) (by first | assumption | omega))))
        exact ⟨⟨by (repeat (first | with_reducible exact Ext.rfl' _ | with_reducible assumption | with_reducible refine Ext.al ?_ _ | with_reducible refine Ext.dr ?_ | with_reducible refine Ext.st ?_ (by simp) _ | with_reducible refine Ext.tr ?_ (by assumption))), k + 1, by omega, by go_num, by rw [s1.out, e1.out, Int.add_zero], by rw [s2.out, e2.out, Int.add_zero]⟩, by simp [intOf]; omega⟩
      rw [decide_eq_true hu] at K1
      by_cases hgt : lev < a
      · have e1 : abV g.S lev a = g.S * g.S * (a - lev) := by unfold abV; rw [if_pos ⟨hu, hgt⟩]
        have e2 : Hid (abN lev a = 1) := Lib.hid (by unfold abN; rw [if_pos ⟨hu, hgt⟩])
        obtain ⟨V, hV⟩ : ∃ V, abV g.S lev a = V := ⟨_, rfl⟩
        rw [hV] at e1 s1 hvb
        obtain ⟨P, hP⟩ : ∃ P, g.S * g.S = P := ⟨_, rfl⟩
        have HAR := Lib.hid (fun w' => by have h := HAr.out w'; rw [hP] at h; exact h)
        rw [hP] at e1
        have wv : IntKind.i64.wrap (P * (a - lev)) = V := by rw [← e1]; exact IntWalk.i64_in _ (by omega)
        have wba : IntKind.i64.wrap (a - lev) = a - lev := IntWalk.i64_in _ (by omega)
        clear hV hP hu e1
        go_wp2_with (first | (go_at_call 79; with_reducible refine Calls.mono (K1.out _ (by (repeat (first | with_reducible exact Ext.rfl' _ | with_reducible assumption | with_reducible refine Ext.al ?_ _ | with_reducible refine Ext.dr ?_ | with_reducible refine Ext.st ?_ (by simp) _ | with_reducible refine Ext.tr ?_ (by assumption))))) ?_; rintro e w2 ⟨rfl, hb⟩; have hc := hb.ccell; have hf := hb.frz; have hs := hb.sz; (try simp at hs); (try have t0 := hs (w.heap.size) (by first | assumption | omega)); (try have t1 := hs (b) (by first | assumption | omega)); (try have t2 := hs (w.heap.size) (by first | assumption | omega)); (try have t3 := hs (w.heap.size) (by first | assumption | omega)); (try have t4 := hs (w.heap.size) (by first | assumption | omega)); (try have t5 := hs (w.heap.size) (by first | assumption | omega))) | (go_at_call 94; with_reducible refine Calls.mono (HAR.out _) ?_; rintro e w3 ⟨rfl, hb⟩; have hc := hb.ccell; have hf := hb.frz; have hs := hb.sz; (try simp at hs); (try have t0 := hs (w.heap.size) (by first | assumption | omega)); (try have t1 := hs (b) (by first | assumption | omega)); (try have t2 := hs (w.heap.size) (by first | assumption | omega)); (try have t3 := hs (w.heap.size) (by first | assumption | omega)); (try have t4 := hs (w.heap.size) (by first | assumption | omega)); (try have t5 := hs (w.heap.size) (by first | assumption | omega))))
        exact ⟨⟨by (repeat (first | with_reducible exact Ext.rfl' _ | with_reducible assumption | with_reducible refine Ext.al ?_ _ | with_reducible refine Ext.dr ?_ | with_reducible refine Ext.st ?_ (by simp) _ | with_reducible refine Ext.tr ?_ (by assumption))), k + 1, by omega, by go_num, by rw [s1.out], by rw [s2.out, e2.out]⟩, by simp [intOf]; omega⟩
      · have e1 : Hid (abV g.S lev a = 0) := Lib.hid (by unfold abV; rw [if_neg (by omega)])
        have e2 : Hid (abN lev a = 0) := Lib.hid (by unfold abN; rw [if_neg (by omega)])
        have hgt' : decide (lev < a) = false := decide_eq_false hgt
        clear hu hv hvb
        go_wp2_with (first | (go_at_call 79; with_reducible refine Calls.mono (K1.out _ (by (repeat (first | with_reducible exact Ext.rfl' _ | with_reducible assumption | with_reducible refine Ext.al ?_ _ | with_reducible refine Ext.dr ?_ | with_reducible refine Ext.st ?_ (by simp) _ | with_reducible refine Ext.tr ?_ (by assumption))))) ?_; rintro e w2 ⟨rfl, hb⟩; have hc := hb.ccell; have hf := hb.frz; have hs := hb.sz; (try simp at hs); (try have t0 := hs (w.heap.size) (by first | assumption | omega)); (try have t1 := hs (b) (by first | assumption | omega)); (try have t2 := hs (w.heap.size) (by first | assumption | omega)); (try have t3 := hs (w.heap.size) (by first | assumption | omega)); (try have t4 := hs (w.heap.size) (by first | assumption | omega)); (try have t5 := hs (w.heap.size) (by first | assumption | omega))))
        exact ⟨⟨by (repeat (first | with_reducible exact Ext.rfl' _ | with_reducible assumption | with_reducible refine Ext.al ?_ _ | with_reducible refine Ext.dr ?_ | with_reducible refine Ext.st ?_ (by simp) _ | with_reducible refine Ext.tr ?_ (by assumption))), k + 1, by omega, by go_num, by rw [s1.out, e1.out, Int.add_zero], by rw [s2.out, e2.out, Int.add_zero]⟩, by simp [intOf]; omega⟩
    · have hks : k = g.L.length := by omega
      subst hks
      go_wp2
      exact bodyPost_ret (v := .tuple #[.int .i64 (sumN (vAt g.S lev g.L) g.L.length), .int .i64 (sumN (nAt lev g.L) g.L.length), .int .i64 0]) (by simp [results, Try.results51, go_sem]) rfl ⟨rfl, by (repeat (first | with_reducible exact Ext.rfl' _ | with_reducible assumption | with_reducible refine Ext.al ?_ _ | with_reducible refine Ext.dr ?_ | with_reducible refine Ext.st ?_ (by simp) _ | with_reducible refine Ext.tr ?_ (by assumption)))⟩
set_option maxHeartbeats 4000000 in
theorem rabove_c (g : Gr) (lev : Int) (w : World) (A : Option Addr) (c : Nat) (hA : Row 1 encZ w A g.L) (h0 : glE g lev = 0) :
    Calls Try.prog 53 #[.agg #[.int .i64 g.X, .int .i64 g.Y, .int .i64 g.S, .int .i64 g.C, .int .i64 g.R, .slice A g.L.length c], .int .i64 lev] w fun e w' => e = .returned (.tuple #[.int .i64 (sumN (vAt g.S lev g.L) g.L.length), .int .i64 (sumN (nAt lev g.L) g.L.length)]) ∧ Ext w w' := by
  obtain ⟨hc0, hlv⟩ := glE_ok h0
  have v := chkG_ok hc0
  have hl2 := lvB_iff.1 hlv
  have hn : g.L.length ≤ 1024 := by have h1 := v.len; have h2 := v.hn; omega
  have hss := v.hs
  have HK := Lib.hid (fun k (hk : k < g.L.length) w' (hw : Ext w w') => known_c g k w' A c hk (hA.ext hw))
  have HBD := Lib.hid (fun k (hk : k ≤ g.L.length) => above_bd v hl2 k hk)
  have HVV := Lib.hid (fun k (hk : k < g.L.length) => (And.intro (v.lev k hk) (abV_bd (s := g.S) (lev := lev) (by have := v.hs; omega) (by have := v.hs; omega) hl2 (v.lev k hk))))
  have hp0 : 0 ≤ g.S * g.S := Int.mul_nonneg (by omega) (by omega)
  have hp1 : g.S * g.S ≤ 100000000 := (Int.mul_le_mul hss.2 hss.2 (by omega) (by omega) : g.S * g.S ≤ 10000 * 10000)
  clear hc0 hlv v h0
  go_enter Try.func53, Try.ntmps53
  go_wp2
  have hEp : Ext w (w.alloc (.cells #[.int .i64 g.X, .int .i64 g.Y, .int .i64 g.S, .int .i64 g.C, .int .i64 g.R, .slice A g.L.length c] 24)) := by (repeat (first | with_reducible exact Ext.rfl' _ | with_reducible assumption | with_reducible refine Ext.al ?_ _ | with_reducible refine Ext.dr ?_ | with_reducible refine Ext.st ?_ (by simp) _ | with_reducible refine Ext.tr ?_ (by assumption)))
  have kg : CellsAt (w.alloc (.cells #[.int .i64 g.X, .int .i64 g.Y, .int .i64 g.S, .int .i64 g.C, .int .i64 g.R, .slice A g.L.length c] 24)) w.heap.size 0 [.int .i64 g.X, .int .i64 g.Y, .int .i64 g.S, .int .i64 g.C, .int .i64 g.R, .slice A g.L.length c] := by
    refine cells_six ⟨?_, ?_, ?_, ?_, ?_, ?_⟩ <;> simp [World.cell?_alloc_new, go_sem]
  have zp : w.heap.size < (w.alloc (.cells #[.int .i64 g.X, .int .i64 g.Y, .int .i64 g.S, .int .i64 g.C, .int .i64 g.R, .slice A g.L.length c] 24)).heap.size := by simp
  generalize w.alloc (.cells #[.int .i64 g.X, .int .i64 g.Y, .int .i64 g.S, .int .i64 g.C, .int .i64 g.R, .slice A g.L.length c] 24) = w1 at *
  go_loopw [6, 7, 8] (fun x y i wr => Ext w1 wr ∧ ∃ k : Nat, k ≤ g.L.length ∧ i = .int .i64 k ∧ x = .int .i64 (sumN (vAt g.S lev g.L) k) ∧ y = .int .i64 (sumN (nAt lev g.L) k)) (fun _ _ i _ => g.L.length - (intOf i).toNat)
  case atStart => exact ⟨Ext.rfl' _, 0, Nat.zero_le _, rfl, rfl, rfl⟩
  case round =>
    obtain ⟨hr, k, hk, rfl, rfl, rfl⟩ := hrel
    have hE : Ext w wr := hEp.tr hr
    have hzp := hr.sz _ zp
    obtain ⟨g0, g1, g2, g3, g4, g5⟩ := (kg.ext hr zp).six
    by_cases hlt : k < g.L.length
    · obtain ⟨b, off, rfl, hb0, hcell⟩ := hA.p1 hlt
      have c1 := hcell _ hE
      have hz := hE.sz _ hb0
      have hcg := gi_lt g.L k hlt
      rw [← hcg] at c1
      obtain ⟨⟨b1, b2⟩, b3, b4⟩ := HBD.out k hk
      obtain ⟨hv, hvb⟩ := HVV.out k hlt
      have K1 := Lib.hid (fun w' (hw : Ext w w') => HK.out k hlt w' hw)
      have s1 : Hid (sumN (vAt g.S lev g.L) (k + 1) = sumN (vAt g.S lev g.L) k + abV g.S lev (gi g.L k)) := Lib.hid rfl
      have s2 : Hid (sumN (nAt lev g.L) (k + 1) = sumN (nAt lev g.L) k + abN lev (gi g.L k)) := Lib.hid rfl
      unfold knB at K1
      generalize sumN (vAt g.S lev g.L) k = x at *
      generalize sumN (nAt lev g.L) k = y at *
      generalize gi g.L k = a at *
      clear hcg hcell
      by_cases hu : a = 30000
      · rw [decide_eq_false (by simpa using hu)] at K1
        have e1 : Hid (abV g.S lev a = 0) := Lib.hid (by unfold abV; rw [if_neg (by omega)])
        have e2 : Hid (abN lev a = 0) := Lib.hid (by unfold abN; rw [if_neg (by omega)])
        clear hu hv hvb
        go_wp2_with (first | (go_at_call 95; with_reducible refine Calls.mono (K1.out _ (by (repeat (first | with_reducible exact Ext.rfl' _ | with_reducible assumption | with_reducible refine Ext.al ?_ _ | with_reducible refine Ext.dr ?_ | with_reducible refine Ext.st ?_ (by simp) _ | with_reducible refine Ext.tr ?_ (by assumption))))) ?_; rintro e w2 ⟨rfl, hb⟩; have hc := hb.ccell; have hf := hb.frz; have hs := hb.sz; (try simp at hs); (try have t0 := hs (w.heap.size) (by first | assumption | omega)); (try have t1 := hs (b) (by first | assumption | omega)); (try have t2 := hs (w.heap.size) (by first | assumption | omega)); (try have t3 := hs (w.heap.size) (by first | assumption | omega)); (try have t4 := hs (w.heap.size) (by first | assumption | omega)); (try have t5 := hs (w.heap.size) (by first | assumption | omega))))
        exact ⟨⟨by (repeat (first | with_reducible exact Ext.rfl' _ | with_reducible assumption | with_reducible refine Ext.al ?_ _ | with_reducible refine Ext.dr ?_ | with_reducible refine Ext.st ?_ (by simp) _ | with_reducible refine Ext.tr ?_ (by assumption))), k + 1, by omega, by go_num, by rw [s1.out, e1.out, Int.add_zero], by rw [s2.out, e2.out, Int.add_zero]⟩, by simp [intOf]; omega⟩
      rw [decide_eq_true hu] at K1
      by_cases hgt : lev < a
      · have e1 : abV g.S lev a = g.S * g.S * (a - lev) := by unfold abV; rw [if_pos ⟨hu, hgt⟩]
        have e2 : Hid (abN lev a = 1) := Lib.hid (by unfold abN; rw [if_pos ⟨hu, hgt⟩])
        obtain ⟨V, hV⟩ : ∃ V, abV g.S lev a = V := ⟨_, rfl⟩
        rw [hV] at e1 s1 hvb
        have w0 : IntKind.i64.wrap (g.S * g.S) = g.S * g.S := IntWalk.i64_in _ (by omega)
        obtain ⟨P, hP⟩ : ∃ P, g.S * g.S = P := ⟨_, rfl⟩
        rw [hP] at e1 w0 hp0 hp1
        have wv : IntKind.i64.wrap (P * (a - lev)) = V := by rw [← e1]; exact IntWalk.i64_in _ (by omega)
        have wba : IntKind.i64.wrap (a - lev) = a - lev := IntWalk.i64_in _ (by omega)
        clear hV hu e1
        go_wp2_with (first | (go_at_call 95; with_reducible refine Calls.mono (K1.out _ (by (repeat (first | with_reducible exact Ext.rfl' _ | with_reducible assumption | with_reducible refine Ext.al ?_ _ | with_reducible refine Ext.dr ?_ | with_reducible refine Ext.st ?_ (by simp) _ | with_reducible refine Ext.tr ?_ (by assumption))))) ?_; rintro e w2 ⟨rfl, hb⟩; have hc := hb.ccell; have hf := hb.frz; have hs := hb.sz; (try simp at hs); (try have t0 := hs (w.heap.size) (by first | assumption | omega)); (try have t1 := hs (b) (by first | assumption | omega)); (try have t2 := hs (w.heap.size) (by first | assumption | omega)); (try have t3 := hs (w.heap.size) (by first | assumption | omega)); (try have t4 := hs (w.heap.size) (by first | assumption | omega)); (try have t5 := hs (w.heap.size) (by first | assumption | omega))))
        go_region
        go_wp2
        exact ⟨⟨by (repeat (first | with_reducible exact Ext.rfl' _ | with_reducible assumption | with_reducible refine Ext.al ?_ _ | with_reducible refine Ext.dr ?_ | with_reducible refine Ext.st ?_ (by simp) _ | with_reducible refine Ext.tr ?_ (by assumption))), k + 1, by omega, by go_num, by rw [s1.out], by rw [s2.out, e2.out]⟩, by simp [intOf]; omega⟩
      · have e1 : Hid (abV g.S lev a = 0) := Lib.hid (by unfold abV; rw [if_neg (by omega)])
        have e2 : Hid (abN lev a = 0) := Lib.hid (by unfold abN; rw [if_neg (by omega)])
        have hgt' : decide (lev < a) = false := decide_eq_false hgt
        clear hu hv hvb
        go_wp2_with (first | (go_at_call 95; with_reducible refine Calls.mono (K1.out _ (by (repeat (first | with_reducible exact Ext.rfl' _ | with_reducible assumption | with_reducible refine Ext.al ?_ _ | with_reducible refine Ext.dr ?_ | with_reducible refine Ext.st ?_ (by simp) _ | with_reducible refine Ext.tr ?_ (by assumption))))) ?_; rintro e w2 ⟨rfl, hb⟩; have hc := hb.ccell; have hf := hb.frz; have hs := hb.sz; (try simp at hs); (try have t0 := hs (w.heap.size) (by first | assumption | omega)); (try have t1 := hs (b) (by first | assumption | omega)); (try have t2 := hs (w.heap.size) (by first | assumption | omega)); (try have t3 := hs (w.heap.size) (by first | assumption | omega)); (try have t4 := hs (w.heap.size) (by first | assumption | omega)); (try have t5 := hs (w.heap.size) (by first | assumption | omega))))
        exact ⟨⟨by (repeat (first | with_reducible exact Ext.rfl' _ | with_reducible assumption | with_reducible refine Ext.al ?_ _ | with_reducible refine Ext.dr ?_ | with_reducible refine Ext.st ?_ (by simp) _ | with_reducible refine Ext.tr ?_ (by assumption))), k + 1, by omega, by go_num, by rw [s1.out, e1.out, Int.add_zero], by rw [s2.out, e2.out, Int.add_zero]⟩, by simp [intOf]; omega⟩
    · have hks : k = g.L.length := by omega
      subst hks
      go_wp2
      exact bodyPost_ret (v := .tuple #[.int .i64 (sumN (vAt g.S lev g.L) g.L.length), .int .i64 (sumN (nAt lev g.L) g.L.length)]) (by simp [results, Try.results53, go_sem]) rfl ⟨rfl, by (repeat (first | with_reducible exact Ext.rfl' _ | with_reducible assumption | with_reducible refine Ext.al ?_ _ | with_reducible refine Ext.dr ?_ | with_reducible refine Ext.st ?_ (by simp) _ | with_reducible refine Ext.tr ?_ (by assumption)))⟩
end Go.Proofs.Ytgnakeemcccfjaa
