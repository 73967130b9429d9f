/- Contracts of Profile, of what it uses, and of the reference's Profile. -/
import Derived.Test.YtgnakeemcccfjaaBplace
import Derived.Test.YtgnakeemcccfjaaBwith
import Derived.Test.YtgnakeemcccfjaaBset
namespace Go.Proofs.Ytgnakeemcccfjaa
open Go Go.RowKit Go.IntWalk

/-- The level at a place. -/
def lvX (g : Gr) (x y : Int) : Int := if inB g x y = true then gi g.L (cIdx g x y).toNat else 30000
set_option maxHeartbeats 4000000 in
theorem levelAt_c (g : Gr) (x y : Int) (w : World) (A : Option Addr) (c : Nat) (v : VG g) (hA : Row 1 encZ w A g.L) :
    Calls Try.prog 82 #[.agg #[.int .i64 g.X, .int .i64 g.Y, .int .i64 g.S, .int .i64 g.C, .int .i64 g.R, .slice A g.L.length c], .agg #[.int .i64 x, .int .i64 y]] w fun e w' => e = .returned (.int .i64 (lvX g x y)) ∧ Ext w w' := by
  have HA := Lib.hid (fun w' => cellAt_c g x y w' A c v)
  unfold lvX
  cases hb : inB g x y
  · rw [hb, if_neg (by decide)] at HA
    rw [if_neg (by decide)]
    clear hb v
    go_enter Try.func82, Try.ntmps82
    go_wp2_with (first | (go_at_call 75; with_reducible refine Calls.mono (HA.out _) ?_; rintro e w2 ⟨rfl, hb⟩; have hc := hb.ccell; have hf := hb.frz; have hs := hb.sz; (try simp at hs); (try have t0 := hs (w.heap.size) (by first | assumption | omega)); (try have t1 := hs (w.heap.size + 1) (by first | assumption | omega)); (try have t2 := hs (w.heap.size) (by first | assumption | omega)); (try have t3 := hs (w.heap.size) (by first | assumption | omega)); (try have t4 := hs (w.heap.size) (by first | assumption | omega)); (try have t5 := hs (w.heap.size) (by first | assumption | omega))))
    go_ret
    exact ⟨rfl, by (repeat (first | with_reducible exact Ext.rfl' _ | with_reducible assumption | with_reducible refine Ext.al ?_ _ | with_reducible refine Ext.dr ?_ | with_reducible refine Ext.st ?_ (by simp) _ | with_reducible refine Ext.tr ?_ (by assumption)))⟩
  · obtain ⟨cn, rn, e1, e2, e3, e4, e5, e6, e7, e8⟩ := v.nat
    obtain ⟨_, _, k, hk, hck⟩ := cIdx_cell e1 e2 e3 (show 0 < g.S by have := v.hs; omega) hb
    have hkl : k < g.L.length := by omega
    rw [hb, if_pos rfl, hck] at HA
    rw [if_pos rfl, hck, show ((k : Int).toNat) = k from rfl]
    obtain ⟨bl, ol, hAe, hbl, hcell⟩ := hA.p1 hkl
    subst hAe
    have ck := hcell _ (Ext.rfl' w)
    rw [← gi_lt] at ck
    have hk00 : (0 : Int) ≤ k := by omega
    have zb2 : bl < w.heap.size + 1 + 1 := by omega
    clear hb hck hk v e1 e2 e3 e4 e5 e6 e7 e8 hcell hA
    go_enter Try.func82, Try.ntmps82
    go_wp2_with (first | (go_at_call 75; with_reducible refine Calls.mono (HA.out _) ?_; rintro e w2 ⟨rfl, hb⟩; have hc := hb.ccell; have hf := hb.frz; have hs := hb.sz; (try simp at hs); (try have t0 := hs (w.heap.size) (by first | assumption | omega)); (try have t1 := hs (w.heap.size + 1) (by first | assumption | omega)); (try have t2 := hs (bl) (by first | assumption | omega)); (try have t3 := hs (w.heap.size) (by first | assumption | omega)); (try have t4 := hs (w.heap.size) (by first | assumption | omega)); (try have t5 := hs (w.heap.size) (by first | assumption | omega))))
    go_ret
    exact ⟨rfl, by (repeat (first | with_reducible exact Ext.rfl' _ | with_reducible assumption | with_reducible refine Ext.al ?_ _ | with_reducible refine Ext.dr ?_ | with_reducible refine Ext.st ?_ (by simp) _ | with_reducible refine Ext.tr ?_ (by assumption)))⟩
def pwI (a b : Int) (k n : Nat) : Int := a + (b - a) * k / n
theorem pw_bd {a b : Int} {k n : Nat} (ha : -1000000 ≤ a ∧ a ≤ 1000000) (hb : -1000000 ≤ b ∧ b ≤ 1000000) (hk : k ≤ n) (hn : 0 < n) (hn2 : n ≤ 200) : (-400000000 ≤ (b - a) * k ∧ (b - a) * k ≤ 400000000) ∧ (-400000000 ≤ (b - a) * k / n ∧ (b - a) * k / n ≤ 400000000) := by
  have h1 : (b - a) * k ≤ 2000000 * 200 := by
    by_cases h : 0 ≤ b - a
    · exact Int.mul_le_mul (by omega) (by omega) (by omega) (by omega)
    · have : (b - a) * k ≤ 0 := Int.mul_nonpos_of_nonpos_of_nonneg (by omega) (by omega)
      omega
  have h2 : -(2000000 * 200) ≤ (b - a) * k := by
    by_cases h : 0 ≤ b - a
    · have : 0 ≤ (b - a) * k := Int.mul_nonneg h (by omega)
      omega
    · have : (a - b) * k ≤ 2000000 * 200 := Int.mul_le_mul (by omega) (by omega) (by omega) (by omega)
      have e : (b - a) * k = -((a - b) * k) := by rw [← Int.neg_mul]; congr 1; omega
      omega
  generalize (b - a) * k = p at *
  have hn0 : (0 : Int) < n := by omega
  refine ⟨by omega, ?_, ?_⟩
  · rw [Int.le_ediv_iff_mul_le hn0]
    have : (400000000 : Int) * 1 ≤ 400000000 * n := Int.mul_le_mul_of_nonneg_left (by omega) (by omega)
    omega
  · apply Int.ediv_le_of_le_mul hn0
    have : (400000000 : Int) * 1 ≤ 400000000 * n := Int.mul_le_mul_of_nonneg_left (by omega) (by omega)
    omega
theorem partWay_c (a b : Int) (k n : Nat) (w : World) (ha : -1000000 ≤ a ∧ a ≤ 1000000) (hb : -1000000 ≤ b ∧ b ≤ 1000000) (hk : k ≤ n) (hn : 0 < n) (hn2 : n ≤ 200) :
    Calls Try.prog 81 #[.int .i64 a, .int .i64 b, .int .i64 k, .int .i64 n] w fun e w' => e = .returned (.int .i64 (pwI a b k n)) ∧ Ext w w' := by
  obtain ⟨⟨h1, h2⟩, h3, h4⟩ := pw_bd ha hb hk hn hn2
  have HD := Lib.hid (fun w => divideDown_c ((b - a) * k) n w (by omega) (by omega) (by omega) (by omega))
  unfold pwI
  generalize hp : (b - a) * (k : Int) = p at *
  generalize p / (n : Int) = q at *
  have w0 : IntKind.i64.wrap ((b - a) * (k : Int)) = p := by rw [hp]; exact IntWalk.i64_in _ (by omega)
  clear hp
  go_enter Try.func81, Try.ntmps81
  go_wp2_with (first | (go_at_call 124; with_reducible refine Calls.mono (HD.out _) ?_; rintro e w' ⟨rfl, rfl⟩))
  go_ret
  exact ⟨rfl, by (repeat (first | with_reducible exact Ext.rfl' _ | with_reducible assumption | with_reducible refine Ext.al ?_ _ | with_reducible refine Ext.dr ?_ | with_reducible refine Ext.st ?_ (by simp) _ | with_reducible refine Ext.tr ?_ (by assumption)))⟩
/-- The level at a part of a line. -/
def prF (g : Gr) (ax ay bx b_y : Int) (n k : Nat) : Int := lvX g (pwI ax bx k n) (pwI ay b_y k n)
end Go.Proofs.Ytgnakeemcccfjaa
