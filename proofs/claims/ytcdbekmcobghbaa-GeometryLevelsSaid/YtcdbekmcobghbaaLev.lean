/- Levels in triangles and volumes of prisms: what the program computes. -/
import Derived.Test.YtcdbekmcobghbaaLow
namespace Go.Proofs.Ytcdbekmcobghbaa
open Go Go.RowKit Go.IntWalk

/-! ### Fractions in lowest terms -/
def lowX (num den : Int) : Int := if den < 0 then -((Nat.gcd num.natAbs den.natAbs : Nat) : Int) else (Nat.gcd num.natAbs den.natAbs : Nat)
def lowN (num den : Int) : Int := wrap64 (num.tdiv (lowX num den))
def lowD (num den : Int) : Int := wrap64 (den.tdiv (lowX num den))
theorem sizeW_abs {n : Int} (h0 : -1000000000000000000 ≤ n) (h1 : n ≤ 1000000000000000000) : sizeW n = (n.natAbs : Int) := by
  unfold sizeW
  rw [wrap64_in _ (by omega)]; omega
theorem absW_abs {n : Int} (h0 : -1000000000000000000 ≤ n) (h1 : n ≤ 1000000000000000000) : absW n = (n.natAbs : Int) := by
  unfold absW
  split
  · rw [wrap64_in _ (by omega)]; omega
  · omega
theorem glow_c (num den : Int) (w : World) (h0 : -1000000000000000000 ≤ num) (h1 : num ≤ 1000000000000000000) (h2 : -1000000000000000000 ≤ den) (h3 : den ≤ 1000000000000000000) (hne : den ≠ 0) :
    Calls Try.prog 107 #[.int .i64 num, .int .i64 den] w
      fun e w' => e = .returned (.agg #[.int .i64 (lowN num den), .int .i64 (lowD num den)]) ∧ Ext w w' := by
  have hg : Nat.gcd num.natAbs den.natAbs ≠ 0 := fun h => by have := (Nat.gcd_eq_zero_iff.1 h).2; omega
  have h := lowest_c num den (cmpI den 0) (wrap64 (cmpI den 0 * num)) num.natAbs den.natAbs _ w (sizeW_abs h0 h1) (sizeW_abs h2 h3) rfl rfl (by omega) (by omega) rfl hg
  have e1 : wrap64 ((wrap64 (cmpI den 0 * num)).tdiv (Nat.gcd num.natAbs den.natAbs : Nat)) = lowN num den := by
    unfold lowN lowX cmpI
    by_cases hd : den < 0
    · rw [if_pos hd, if_pos hd, show (-1 : Int) * num = -num by omega, wrap64_in (-num) (by omega), Int.neg_tdiv, Int.tdiv_neg]
    · rw [if_neg hd, if_neg hd, if_pos (by omega), show (1 : Int) * num = num by omega, wrap64_in num (by omega)]
  have e2 : wrap64 (((den.natAbs : Nat) : Int).tdiv (Nat.gcd num.natAbs den.natAbs : Nat)) = lowD num den := by
    unfold lowD lowX
    by_cases hd : den < 0
    · rw [if_pos hd, show ((den.natAbs : Nat) : Int) = -den by omega, Int.neg_tdiv, Int.tdiv_neg]
    · rw [if_neg hd, show ((den.natAbs : Nat) : Int) = den by omega]
  rw [e1, e2] at h
  exact h
theorem rlow_c (num den : Int) (w : World) (h0 : -1000000000000000000 ≤ num) (h1 : num ≤ 1000000000000000000) (h2 : -1000000000000000000 ≤ den) (h3 : den ≤ 1000000000000000000) (hne : den ≠ 0) :
    Calls Try.prog 110 #[.int .i64 num, .int .i64 den] w
      fun e w' => e = .returned (.agg #[.int .i64 (lowN num den), .int .i64 (lowD num den)]) ∧ Ext w w' := by
  have hg : Nat.gcd num.natAbs den.natAbs ≠ 0 := fun h => by have := (Nat.gcd_eq_zero_iff.1 h).2; omega
  exact rlowest_c num den (lowX num den) num.natAbs den.natAbs _ w (absW_abs h0 h1) (absW_abs h2 h3) (by omega) (by omega) rfl hg rfl

/-! ### Three nodes -/
/-- What is known of three nodes that are a triangle. -/
structure Three (ns : List I3) (a b c : Int) (i0 i1 i2 : Nat) (x0 y0 L0 x1 y1 L1 x2 y2 L2 : Int) : Prop where
  a0 : a = i0
  a1 : b = i1
  a2 : c = i2
  n0 : ns[i0]? = some (x0, y0, L0)
  n1 : ns[i1]? = some (x1, y1, L1)
  n2 : ns[i2]? = some (x2, y2, L2)
  g0 : good ⟨x0, y0⟩ = true
  g1 : good ⟨x1, y1⟩ = true
  g2 : good ⟨x2, y2⟩ = true
  l0 : -20000 ≤ L0 ∧ L0 ≤ 20000
  l1 : -20000 ≤ L1 ∧ L1 ≤ 20000
  l2 : -20000 ≤ L2 ∧ L2 ≤ 20000
  p0 : atI (psN ns) a = ⟨x0, y0⟩
  p1 : atI (psN ns) b = ⟨x1, y1⟩
  p2 : atI (psN ns) c = ⟨x2, y2⟩
  cr : crossZ ⟨x0, y0⟩ ⟨x1, y1⟩ ⟨x2, y2⟩ ≠ 0
  len : ns.length ≤ 64
theorem three_of {ns : List I3} {a b c : Int} (h : nodesE ns (a, b, c) = 0) : ∃ (i0 i1 i2 : Nat) (x0 y0 L0 x1 y1 L1 x2 y2 L2 : Int), Three ns a b c i0 i1 i2 x0 y0 L0 x1 y1 L1 x2 y2 L2 := by
  obtain ⟨hlen, hall, hh, hcr⟩ := nodesE_zero h
  simp only [hasL, Bool.and_eq_true] at hh
  obtain ⟨q0, q1, q2⟩ := hh
  obtain ⟨i0, b0, m0⟩ := inL_nat q0
  obtain ⟨i1, b1, m1⟩ := inL_nat q1
  obtain ⟨i2, b2, m2⟩ := inL_nat q2
  have e0 : i0 < ns.length := by rwa [psN_len] at b0
  have e1 : i1 < ns.length := by rwa [psN_len] at b1
  have e2 : i2 < ns.length := by rwa [psN_len] at b2
  have gd : ∀ i (hi : i < ns.length), goodN ns[i] = true := fun i hi => by rw [List.all_eq_true] at hall; exact hall _ (List.getElem_mem hi)
  have at_ : ∀ i (hi : i < ns.length), atI (psN ns) (i : Nat) = ⟨ns[i].1, ns[i].2.1⟩ := fun i hi => by
    rw [atI_nat (psN ns) i (by rw [psN_len]; exact hi)]; simp [psN, ptN]
  have f0 := gd i0 e0
  have f1 := gd i1 e1
  have f2 := gd i2 e2
  simp only [goodN, ptN, Bool.and_eq_true] at f0 f1 f2
  have lv : ∀ n : Int, withinB n (-20000) 20000 = true → -20000 ≤ n ∧ n ≤ 20000 := fun n hn => by simpa [withinB] using hn
  refine ⟨i0, i1, i2, ns[i0].1, ns[i0].2.1, ns[i0].2.2, ns[i1].1, ns[i1].2.1, ns[i1].2.2, ns[i2].1, ns[i2].2.1, ns[i2].2.2, m0, m1, m2, List.getElem?_eq_getElem e0, List.getElem?_eq_getElem e1, List.getElem?_eq_getElem e2, f0.1, f1.1, f2.1, lv _ f0.2, lv _ f1.2, lv _ f2.2, by rw [m0]; exact at_ i0 e0, by rw [m1]; exact at_ i1 e1, by rw [m2]; exact at_ i2 e2, ?_, hlen⟩
  unfold crI at hcr
  simp only [m0, m1, m2, at_ i0 e0, at_ i1 e1, at_ i2 e2] at hcr
  rwa [crossW_good f0.1 f1.1 f2.1] at hcr
theorem Row.q3 {w : World} {A : Option Addr} {l : List I3} (h : Row 3 encI w A l) {k : Nat} {x y z : Int} (hk : l[k]? = some (x, y, z)) :
    ∃ b off, A = some ⟨b, off, none⟩ ∧ b < w.heap.size ∧ ∀ w', Ext w w' → w'.cell? ⟨b, off + k * 3, none⟩ = some (.int .i64 x) ∧ w'.cell? ⟨b, off + k * 3 + 1, none⟩ = some (.int .i64 y) ∧ w'.cell? ⟨b, off + k * 3 + 2, none⟩ = some (.int .i64 z) := by
  obtain ⟨hlt, he⟩ := List.getElem?_eq_some_iff.1 hk
  obtain ⟨b, off, h1, h2, h3⟩ := h.p3 hlt
  rw [he] at h3
  exact ⟨b, off, h1, h2, h3⟩
theorem Row.q3' {w : World} {b off : Nat} {l : List I3} (h : Row 3 encI w (some ⟨b, off, none⟩) l) {k : Nat} {x y z : Int} (hk : l[k]? = some (x, y, z)) :
    ∀ w', Ext w w' → w'.cell? ⟨b, off + k * 3, none⟩ = some (.int .i64 x) ∧ w'.cell? ⟨b, off + k * 3 + 1, none⟩ = some (.int .i64 y) ∧ w'.cell? ⟨b, off + k * 3 + 2, none⟩ = some (.int .i64 z) := by
  obtain ⟨b', off', h1, _, h3⟩ := h.q3 hk
  injection h1 with h1
  injection h1 with h1 h2
  subst h1 h2
  exact h3
end Go.Proofs.Ytcdbekmcobghbaa
