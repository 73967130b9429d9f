/- What BedAdds says, as arithmetic: columns and layers add up; the net change by way of a third bed. -/
import Derived.Test.YtgnakeemcccfjaaBslice
namespace Go.Proofs.Ytgnakeemcccfjaa
open Go Go.RowKit Go.IntWalk

theorem sumN_swap (f : Nat → Nat → Int) (m : Nat) : ∀ n, sumN (fun i => sumN (fun k => f i k) m) n = sumN (fun k => sumN (fun i => f i k) n) m
  | 0 => by
    show (0 : Int) = sumN (fun k => 0) m
    rw [sumN_zero]
  | n + 1 => by
    show sumN (fun i => sumN (fun k => f i k) m) n + sumN (fun k => f n k) m = sumN (fun k => sumN (fun i => f i k) n + f n k) m
    rw [sumN_swap f m n, sumN_add]
theorem cols_x {g h : Gr} {cn rn : Nat} (hl : g.L.length = cn * rn) : sumN (fun k => (colF g h cn rn k).x) cn = allC g h := by
  unfold allC
  rw [hl]
  exact sumN_cols (cutAt g.S g.L h.L) cn rn
theorem cols_y {g h : Gr} {cn rn : Nat} (hl : g.L.length = cn * rn) (hn : g.L.length = h.L.length) (hs : g.S = h.S) : sumN (fun k => (colF g h cn rn k).y) cn = allC h g := by
  unfold allC
  rw [← hn, hl, ← hs]
  exact sumN_cols (cutAt g.S h.L g.L) cn rn
theorem cols_z {g h : Gr} {cn rn : Nat} (hl : g.L.length = cn * rn) : sumN (fun k => (colF g h cn rn k).z) cn = allU g h := by
  unfold allU
  rw [hl]
  exact sumN_cols (unkAt g.L h.L) cn rn
/-- A level, moved into the first k layers one by one: the moves add up. -/
theorem tele {l : List Int} (hl : levE l = 0) {a b : Int} (hab : b ≤ a) : ∀ k, k ≤ l.length → sumN (fun j => max (min (max a (loL l j)) (hiV l j) - min (max b (loL l j)) (hiV l j)) 0) k = min (max a (-20000)) (loL l k) - min (max b (-20000)) (loL l k) := by
  obtain ⟨_, h⟩ := levE_ok hl
  intro k
  induction k with
  | zero =>
    intro _
    show (0 : Int) = _
    have e : loL l 0 = -20000 := rfl
    rw [e]; omega
  | succ k ih =>
    intro hk
    have h1 := ih (by omega)
    have h2 := h k (by omega)
    have h3 : loL l (k + 1) = hiV l k := by rw [loL_succ, hiV_lt (by omega)]
    show sumN (fun j => max (min (max a (loL l j)) (hiV l j) - min (max b (loL l j)) (hiV l j)) 0) k + max (min (max a (loL l k)) (hiV l k) - min (max b (loL l k)) (hiV l k)) 0 = _
    rw [h1, h3]
    generalize loL l k = p at *
    generalize hiV l k = q at *
    omega
theorem tele_all {l : List Int} (hl : levE l = 0) {a b : Int} (ha : -20000 ≤ a ∧ a ≤ 20000) (hb : -20000 ≤ b ∧ b ≤ 20000) : sumN (fun j => max (min (max a (loL l j)) (hiV l j) - min (max b (loL l j)) (hiV l j)) 0) (l.length + 1) = max (a - b) 0 := by
  obtain ⟨_, h⟩ := levE_ok hl
  have h2 := h l.length (Nat.le_refl _)
  rcases (by omega : b ≤ a ∨ a < b) with hab | hab
  · show sumN (fun j => max (min (max a (loL l j)) (hiV l j) - min (max b (loL l j)) (hiV l j)) 0) l.length + max (min (max a (loL l l.length)) (hiV l l.length) - min (max b (loL l l.length)) (hiV l l.length)) 0 = _
    rw [tele hl hab l.length (Nat.le_refl _)]
    rw [hiV_end] at h2 ⊢
    generalize loL l l.length = p at *
    omega
  · have : sumN (fun j => max (min (max a (loL l j)) (hiV l j) - min (max b (loL l j)) (hiV l j)) 0) (l.length + 1) = sumN (fun _ => 0) (l.length + 1) := sumN_congr _ (fun j _ => by omega)
    rw [this, sumN_zero]; omega
theorem sumN_mul (c : Int) (f : Nat → Int) : ∀ n, sumN (fun i => c * f i) n = c * sumN f n
  | 0 => by show (0 : Int) = c * 0; omega
  | n + 1 => by
    show sumN (fun i => c * f i) n + c * f n = c * (sumN f n + f n)
    rw [sumN_mul c f n, Int.mul_add]
theorem cell_layers {l : List Int} (hl : levE l = 0) {s a b : Int} (ha : a = 30000 ∨ (-20000 ≤ a ∧ a ≤ 20000)) (hb : b = 30000 ∨ (-20000 ≤ b ∧ b ≤ 20000)) : sumN (fun k => cutC s (mvI (loL l k) (hiV l k) a) (mvI (loL l k) (hiV l k) b)) (l.length + 1) = cutC s a b := by
  obtain ⟨_, h⟩ := levE_ok hl
  by_cases hu : a = 30000 ∨ b = 30000
  · have : sumN (fun k => cutC s (mvI (loL l k) (hiV l k) a) (mvI (loL l k) (hiV l k) b)) (l.length + 1) = sumN (fun _ => 0) (l.length + 1) := sumN_congr _ (fun k hk => by
      have h2 := h k (by omega)
      unfold cutC
      rw [if_pos (by rw [mvI_lev h2, mvI_lev h2]; exact hu)])
    rw [this, sumN_zero]
    unfold cutC
    rw [if_pos hu]
  · have e1 : ¬ a = 30000 := fun e => hu (.inl e)
    have e2 : ¬ b = 30000 := fun e => hu (.inr e)
    have : sumN (fun k => cutC s (mvI (loL l k) (hiV l k) a) (mvI (loL l k) (hiV l k) b)) (l.length + 1) = sumN (fun k => s * s * max (min (max a (loL l k)) (hiV l k) - min (max b (loL l k)) (hiV l k)) 0) (l.length + 1) := sumN_congr _ (fun k hk => by
      have h2 := h k (by omega)
      unfold cutC
      rw [if_neg (by rw [mvI_lev h2, mvI_lev h2]; exact hu)]
      unfold mvI
      rw [if_neg e1, if_neg e2])
    rw [this, sumN_mul, tele_all hl (by omega) (by omega)]
    unfold cutC
    rw [if_neg hu]
theorem lays_x {g h : Gr} {l : List Int} (vg : VG g) (vh : VG h) (hn : g.L.length = h.L.length) (hl : levE l = 0) : sumN (fun k => (layK g h l k).x) (l.length + 1) = allC g h := by
  show sumN (fun k => sumN (fun i => cutC g.S (mvI (loL l k) (hiV l k) (gi g.L i)) (mvI (loL l k) (hiV l k) (gi h.L i))) g.L.length) (l.length + 1) = _
  rw [sumN_swap]
  unfold allC
  exact sumN_congr _ (fun i hi => cell_layers hl (vg.lev i hi) (vh.lev i (by omega)))
theorem lays_y {g h : Gr} {l : List Int} (vg : VG g) (vh : VG h) (hn : g.L.length = h.L.length) (hs : g.S = h.S) (hl : levE l = 0) : sumN (fun k => (layK g h l k).y) (l.length + 1) = allC h g := by
  show sumN (fun k => sumN (fun i => cutC g.S (mvI (loL l k) (hiV l k) (gi h.L i)) (mvI (loL l k) (hiV l k) (gi g.L i))) g.L.length) (l.length + 1) = _
  rw [sumN_swap]
  unfold allC
  rw [← hn, ← hs]
  exact sumN_congr _ (fun i hi => cell_layers hl (vh.lev i (by omega)) (vg.lev i hi))
theorem sumN_nn {f : Nat → Int} : ∀ n, (∀ i, i < n → 0 ≤ f i) → sumN f n ≤ 0 → ∀ i, i < n → f i = 0
  | 0, _, _, i, hi => by omega
  | n + 1, h0, hs, i, hi => by
    have hs' : sumN f n + f n ≤ 0 := hs
    have h1 := h0 n (by omega)
    have h2 : 0 ≤ sumN f n := by
      have : ∀ m, m ≤ n → 0 ≤ sumN f m := by
        intro m
        induction m with
        | zero => intro _; exact Int.le_refl _
        | succ m ih => intro hm; have := ih (by omega); have := h0 m (by omega); show 0 ≤ sumN f m + f m; omega
      exact this n (Nat.le_refl _)
    by_cases e : i = n
    · subst e; omega
    · exact sumN_nn n (fun j hj => h0 j (by omega)) (by omega) i (by omega)
theorem net_one {s a b : Int} (ha : ¬ a = 30000) (hb : ¬ b = 30000) : cutC s a b - cutC s b a = s * s * (a - b) := by
  unfold cutC
  rw [if_neg (by omega), if_neg (by omega), ← Int.mul_sub]
  congr 1
  omega
theorem sumN_sub (f f' : Nat → Int) : ∀ n, sumN (fun i => f i - f' i) n = sumN f n - sumN f' n
  | 0 => rfl
  | n + 1 => by
    show sumN (fun i => f i - f' i) n + (f n - f' n) = (sumN f n + f n) - (sumN f' n + f' n)
    rw [sumN_sub f f' n]; omega
theorem unk_known {g h : Gr} (hu : allU g h ≤ 0) : ∀ i, i < g.L.length → ¬ gi g.L i = 30000 ∧ ¬ gi h.L i = 30000 := by
  intro i hi
  have h1 := sumN_nn (f := unkAt g.L h.L) g.L.length (fun j _ => (unkC_bd _ _).1) hu i hi
  unfold unkAt unkC at h1
  by_cases e : gi g.L i = 30000 ∨ gi h.L i = 30000
  · rw [if_pos e] at h1; cases h1
  · exact ⟨fun e1 => e (.inl e1), fun e1 => e (.inr e1)⟩
theorem net_all {g h : Gr} (hn : g.L.length = h.L.length) (hs : g.S = h.S) (hk : ∀ i, i < g.L.length → ¬ gi g.L i = 30000 ∧ ¬ gi h.L i = 30000) : allC g h - allC h g = sumN (fun i => g.S * g.S * (gi g.L i - gi h.L i)) g.L.length := by
  unfold allC
  rw [← hn, ← hs, ← sumN_sub]
  exact sumN_congr _ (fun i hi => net_one (hk i hi).1 (hk i hi).2)
/-- The net change by way of a third bed. -/
theorem net_way {g h c : Gr} (h1 : twoE g h = 0) (h2 : twoE g c = 0) (h3 : twoE h c = 0) (hu : allU g h + allU g c + allU h c ≤ 0) : allC g c - allC c g = allC g h - allC h g + (allC h c - allC c h) := by
  obtain ⟨_, _, s1, n1⟩ := twoE_ok h1
  obtain ⟨_, _, s2, n2⟩ := twoE_ok h2
  obtain ⟨_, _, s3, n3⟩ := twoE_ok h3
  have u1 : 0 ≤ allU g h := (sumN_bd (M := 1) _ (fun _ _ => unkC_bd _ _)).1
  have u2 : 0 ≤ allU g c := (sumN_bd (M := 1) _ (fun _ _ => unkC_bd _ _)).1
  have u3 : 0 ≤ allU h c := (sumN_bd (M := 1) _ (fun _ _ => unkC_bd _ _)).1
  have k1 := unk_known (show allU g h ≤ 0 by omega)
  have k2 := unk_known (show allU g c ≤ 0 by omega)
  rw [net_all n2 s2.2.2.1 k2, net_all n1 s1.2.2.1 k1, net_all n3 s3.2.2.1 (fun i hi => ⟨(k1 i (by omega)).2, (k2 i (by omega)).2⟩), ← n1, ← s1.2.2.1, ← sumN_add]
  exact sumN_congr _ (fun i _ => by rw [← Int.mul_add]; congr 1; omega)
theorem allC_bd {g h : Gr} (h0 : twoE g h = 0) : (0 ≤ allC g h ∧ allC g h ≤ 4000000000000 * 1024) ∧ (0 ≤ allC h g ∧ allC h g ≤ 4000000000000 * 1024) ∧ (0 ≤ allU g h ∧ allU g h ≤ 1024) := by
  obtain ⟨vg, vh, hs, hn⟩ := twoE_ok h0
  have hl : g.L.length ≤ 1024 := by have h1 := vg.len; have h2 := vg.hn; omega
  have b1 := sumN_bd (f := cutAt g.S g.L h.L) (M := 4000000000000) g.L.length (fun i hi => (cutAt_bd vg vh hn i hi).1)
  have b2 := sumN_bd (f := cutAt h.S h.L g.L) (M := 4000000000000) h.L.length (fun i hi => by rw [← hs.2.2.1]; exact (cutAt_bd vg vh hn i (by omega)).2.1)
  have b3 := sumN_bd (f := unkAt g.L h.L) (M := 1) g.L.length (fun i _ => unkC_bd _ _)
  unfold allC allU
  omega
end Go.Proofs.Ytgnakeemcccfjaa
