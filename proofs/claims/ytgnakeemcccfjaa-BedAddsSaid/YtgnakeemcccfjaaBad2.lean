/- What BedAdds' walk needs: a box of nineteen cells, lists of changes and their sums. -/
import Derived.Test.YtgnakeemcccfjaaBadpure
namespace Go.Proofs.Ytgnakeemcccfjaa
open Go Go.RowKit Go.IntWalk

theorem twoE_flip2 {g h : Gr} (k : twoE g h = 0) : twoE h g = 0 := by
  unfold twoE at k ⊢
  by_cases h1 : chkG g = 0
  · by_cases h2 : chkG h = 0
    · rw [if_neg (by omega), if_neg (by omega)] at k
      rw [if_neg (by omega), if_neg (by omega)]
      by_cases h3 : sameB g h = false
      · rw [if_pos h3] at k; cases k
      · have h4 : sameB g h = true := by simpa using h3
        obtain ⟨e1, e2, e3, e4, e5⟩ := (sameB_iff _ _).1 h4
        rw [if_neg (by rw [(sameB_iff h g).2 ⟨e1.symm, e2.symm, e3.symm, e4.symm, e5.symm⟩]; decide)]
    · rw [if_neg (by omega), if_pos h2] at k; exact absurd k h2
  · rw [if_pos h1] at k; exact absurd k h1
theorem CellsAt.n19 {w : World} {b : Nat} {v0 v1 v2 v3 v4 v5 v6 v7 v8 v9 v10 v11 v12 v13 v14 v15 v16 v17 v18 : Value} (h : CellsAt w b 0 [v0, v1, v2, v3, v4, v5, v6, v7, v8, v9, v10, v11, v12, v13, v14, v15, v16, v17, v18]) :
    w.cell? ⟨b, 0, none⟩ = some v0 ∧ w.cell? ⟨b, 1, none⟩ = some v1 ∧ w.cell? ⟨b, 2, none⟩ = some v2 ∧ w.cell? ⟨b, 3, none⟩ = some v3 ∧ w.cell? ⟨b, 4, none⟩ = some v4 ∧ w.cell? ⟨b, 5, none⟩ = some v5 ∧ w.cell? ⟨b, 6, none⟩ = some v6 ∧ w.cell? ⟨b, 7, none⟩ = some v7 ∧ w.cell? ⟨b, 8, none⟩ = some v8 ∧ w.cell? ⟨b, 9, none⟩ = some v9 ∧ w.cell? ⟨b, 10, none⟩ = some v10 ∧ w.cell? ⟨b, 11, none⟩ = some v11 ∧ w.cell? ⟨b, 12, none⟩ = some v12 ∧ w.cell? ⟨b, 13, none⟩ = some v13 ∧ w.cell? ⟨b, 14, none⟩ = some v14 ∧ w.cell? ⟨b, 15, none⟩ = some v15 ∧ w.cell? ⟨b, 16, none⟩ = some v16 ∧ w.cell? ⟨b, 17, none⟩ = some v17 ∧ w.cell? ⟨b, 18, none⟩ = some v18 :=
  ⟨by simpa using h 0 _ rfl, by simpa using h 1 _ rfl, by simpa using h 2 _ rfl, by simpa using h 3 _ rfl, by simpa using h 4 _ rfl, by simpa using h 5 _ rfl, by simpa using h 6 _ rfl, by simpa using h 7 _ rfl, by simpa using h 8 _ rfl, by simpa using h 9 _ rfl, by simpa using h 10 _ rfl, by simpa using h 11 _ rfl, by simpa using h 12 _ rfl, by simpa using h 13 _ rfl, by simpa using h 14 _ rfl, by simpa using h 15 _ rfl, by simpa using h 16 _ rfl, by simpa using h 17 _ rfl, by simpa using h 18 _ rfl⟩
theorem cells_of {w : World} {b : Nat} {l : List Value} (h : ∀ j v, l[j]? = some v → w.cell? ⟨b, j, none⟩ = some v) : CellsAt w b 0 l := fun j v hv => by rw [Nat.zero_add]; exact h j v hv
theorem box_cells (w : World) (l : List Value) (t : TypeId) : CellsAt (w.alloc (.cells l.toArray t)) w.heap.size 0 l := by
  intro j v hv
  rw [Nat.zero_add, World.cell?_alloc_at _ _ _ _ rfl]
  simpa using hv
def cget (M : List C3) (j : Nat) : C3 := M.getD j ⟨0, 0, 0⟩
theorem cget_lt (M : List C3) (j : Nat) (h : j < M.length) : cget M j = M[j] := by simp [cget, List.getD, h]
def sx (M : List C3) (k : Nat) : Int := sumN (fun j => (cget M j).x) k
def sy (M : List C3) (k : Nat) : Int := sumN (fun j => (cget M j).y) k
def sz (M : List C3) (k : Nat) : Int := sumN (fun j => (cget M j).z) k
theorem sumN_le {f : Nat → Int} {n : Nat} (h : ∀ i, i < n → 0 ≤ f i) : ∀ k, k ≤ n → 0 ≤ sumN f k ∧ sumN f k ≤ sumN f n := by
  have h0 : ∀ k, k ≤ n → 0 ≤ sumN f k := by
    intro k
    induction k with
    | zero => intro _; exact Int.le_refl _
    | succ k ih => intro hk; have := ih (by omega); have := h k (by omega); show 0 ≤ sumN f k + f k; omega
  intro k hk
  refine ⟨h0 k hk, ?_⟩
  have : ∀ d, k + d ≤ n → sumN f k ≤ sumN f (k + d) := by
    intro d
    induction d with
    | zero => intro _; exact Int.le_refl _
    | succ d ih => intro hd; have := ih (by omega); have := h (k + d) (by omega); show sumN f k ≤ sumN f (k + d) + f (k + d); omega
  have := this (n - k) (by omega)
  rwa [show k + (n - k) = n by omega] at this
/-- A list of changes that are not negative, and whose sums are not great. -/
structure TotC (M : List C3) : Prop where
  len : M.length ≤ 1100
  nn : ∀ j, j < M.length → 0 ≤ (cget M j).x ∧ 0 ≤ (cget M j).y ∧ 0 ≤ (cget M j).z
  bx : sx M M.length ≤ 4000000000000000000
  by' : sy M M.length ≤ 4000000000000000000
  bz : sz M M.length ≤ 4000000000000000000
theorem TotC.bd {M : List C3} (t : TotC M) {k : Nat} (hk : k ≤ M.length) : (0 ≤ sx M k ∧ sx M k ≤ 4000000000000000000) ∧ (0 ≤ sy M k ∧ sy M k ≤ 4000000000000000000) ∧ (0 ≤ sz M k ∧ sz M k ≤ 4000000000000000000) := by
  have h1 := sumN_le (f := fun j => (cget M j).x) (fun i hi => (t.nn i hi).1) k hk
  have h2 := sumN_le (f := fun j => (cget M j).y) (fun i hi => (t.nn i hi).2.1) k hk
  have h3 := sumN_le (f := fun j => (cget M j).z) (fun i hi => (t.nn i hi).2.2) k hk
  have := t.bx
  have := t.by'
  have := t.bz
  unfold sx sy sz at *
  omega
theorem TotC.one {M : List C3} (t : TotC M) {k : Nat} (hk : k < M.length) : (0 ≤ (cget M k).x ∧ (cget M k).x ≤ 4000000000000000000) ∧ (0 ≤ (cget M k).y ∧ (cget M k).y ≤ 4000000000000000000) ∧ (0 ≤ (cget M k).z ∧ (cget M k).z ≤ 4000000000000000000) := by
  obtain ⟨n1, n2, n3⟩ := t.nn k hk
  have h1 := t.bd (k := k) (by omega)
  have h2 := t.bd (k := k + 1) (by omega)
  have e1 : sx M (k + 1) = sx M k + (cget M k).x := rfl
  have e2 : sy M (k + 1) = sy M k + (cget M k).y := rfl
  have e3 : sz M (k + 1) = sz M k + (cget M k).z := rfl
  omega
theorem cget_mk (F : Nat → C3) (n j : Nat) (h : j < n) : cget (mkC F n) j = F j := by rw [cget_lt _ _ (by rw [mkC_len]; exact h), mkC_get]
theorem sx_mk (F : Nat → C3) (n : Nat) : sx (mkC F n) n = sumN (fun k => (F k).x) n := sumN_congr _ (fun j hj => by rw [cget_mk _ _ _ hj])
theorem sy_mk (F : Nat → C3) (n : Nat) : sy (mkC F n) n = sumN (fun k => (F k).y) n := sumN_congr _ (fun j hj => by rw [cget_mk _ _ _ hj])
theorem sz_mk (F : Nat → C3) (n : Nat) : sz (mkC F n) n = sumN (fun k => (F k).z) n := sumN_congr _ (fun j hj => by rw [cget_mk _ _ _ hj])
theorem tot_nil : TotC [] := ⟨by decide, fun j hj => absurd hj (Nat.not_lt_zero _), by decide, by decide, by decide⟩
theorem tot_cols {g h : Gr} {cn rn : Nat} (h0 : twoE g h = 0) (hl : g.L.length = cn * rn) (hc : cn ≤ 1024) : TotC (mkC (colF g h cn rn) cn) ∧ sx (mkC (colF g h cn rn) cn) cn = allC g h ∧ sy (mkC (colF g h cn rn) cn) cn = allC h g ∧ sz (mkC (colF g h cn rn) cn) cn = allU g h := by
  obtain ⟨vg, vh, hs, hn⟩ := twoE_ok h0
  have b := allC_bd h0
  have e1 := cols_x (h := h) hl
  have e2 := cols_y (h := h) hl hn hs.2.2.1
  have e3 := cols_z (h := h) hl
  have i1 : ∀ k, k < cn → ∀ j, j < rn → k + j * cn < g.L.length := fun k hk j hj => by
    rw [hl]
    calc k + j * cn < (j + 1) * cn := by rw [Nat.succ_mul]; omega
      _ ≤ rn * cn := Nat.mul_le_mul_right _ hj
      _ = cn * rn := Nat.mul_comm _ _
  refine ⟨⟨by rw [mkC_len]; omega, fun j hj => ?_, ?_, ?_, ?_⟩, by rw [sx_mk]; exact e1, by rw [sy_mk]; exact e2, by rw [sz_mk]; exact e3⟩
  · rw [mkC_len] at hj
    rw [cget_mk _ _ _ hj]
    refine ⟨?_, ?_, ?_⟩
    · exact (sumN_le (f := fun i => cutAt g.S g.L h.L (j + i * cn)) (fun i hi => (cutAt_bd vg vh hn _ (i1 j hj i hi)).1.1) rn (Nat.le_refl _)).1
    · exact (sumN_le (f := fun i => cutAt g.S h.L g.L (j + i * cn)) (fun i hi => (cutAt_bd vg vh hn _ (i1 j hj i hi)).2.1.1) rn (Nat.le_refl _)).1
    · exact (sumN_le (f := fun i => unkAt g.L h.L (j + i * cn)) (fun i hi => (unkC_bd _ _).1) rn (Nat.le_refl _)).1
  · rw [mkC_len, sx_mk, e1]; omega
  · rw [mkC_len, sy_mk, e2]; omega
  · rw [mkC_len, sz_mk, e3]; omega
theorem tot_lays {g h : Gr} {l : List Int} (h0 : twoE g h = 0) (hv : levE l = 0) : TotC (mkC (layK g h l) (l.length + 1)) ∧ sx (mkC (layK g h l) (l.length + 1)) (l.length + 1) = allC g h ∧ sy (mkC (layK g h l) (l.length + 1)) (l.length + 1) = allC h g := by
  obtain ⟨vg, vh, hs, hn⟩ := twoE_ok h0
  obtain ⟨hk20, hlev⟩ := levE_ok hv
  have b := allC_bd h0
  have e1 := lays_x vg vh hn hv
  have e2 := lays_y vg vh hn hs.2.2.1 hv
  refine ⟨⟨by rw [mkC_len]; omega, fun j hj => ?_, ?_, ?_, ?_⟩, by rw [sx_mk]; exact e1, by rw [sy_mk]; exact e2⟩
  · rw [mkC_len] at hj
    rw [cget_mk _ _ _ hj]
    exact ⟨(layP_bd vg _ _ (hlev j (by omega)) g.L h.L g.L.length).1, (layP_bd vg _ _ (hlev j (by omega)) h.L g.L g.L.length).1, Int.le_refl _⟩
  · rw [mkC_len, sx_mk, e1]; omega
  · rw [mkC_len, sy_mk, e2]; omega
  · rw [mkC_len, sz_mk]
    have : sumN (fun k => (layK g h l k).z) (l.length + 1) = sumN (fun _ => 0) (l.length + 1) := sumN_congr _ (fun _ _ => rfl)
    rw [this, sumN_zero]; omega
/-- What Slices answers, with an error or without. -/
def OutSl (g h : Gr) (l : List Int) (e : Ending) (w' : World) : Prop := ∃ (M : List C3) (A : Option Addr) (c : Nat) (G : Int), e = .returned (.tuple #[.slice A M.length c, .int .i64 G]) ∧ Row 3 encC w' A M ∧ TotC M ∧ (G = 0 → sx M M.length = allC g h ∧ sy M M.length = allC h g)
theorem slices_any_c (g h : Gr) (l : List Int) (w : World) (A B D : Option Addr) (c d e : Nat) (hl : g.L.length ≤ maxLen) (hm : h.L.length ≤ maxLen) (hk : l.length ≤ 1000) (hA : Row 1 encZ w A g.L) (hB : Row 1 encZ w B h.L) (hD : Row 1 encZ w D l) (h0 : twoE g h = 0) :
    Calls Try.prog 46 #[.agg #[.int .i64 g.X, .int .i64 g.Y, .int .i64 g.S, .int .i64 g.C, .int .i64 g.R, .slice A g.L.length c], .agg #[.int .i64 h.X, .int .i64 h.Y, .int .i64 h.S, .int .i64 h.C, .int .i64 h.R, .slice B h.L.length d], .slice D l.length e] w fun e w' => OutSl g h l e w' ∧ Ext w w' := by
  by_cases hv : levE l = 0
  · refine (slices_ok_c g h l w A B D c d e hA hB hD h0 hv).mono fun e w' k => ⟨?_, k.2⟩
    obtain ⟨A2, c2, he, hR⟩ := k.1
    obtain ⟨t1, t2, t3⟩ := tot_lays (g := g) (h := h) h0 hv
    exact ⟨_, A2, c2, 0, he, hR, t1, fun _ => by rw [mkC_len]; exact ⟨t2, t3⟩⟩
  · have hs : slE g h l = levE l := by unfold slE; rw [if_neg (by omega)]
    refine (slices_err_c g h l w A B D c d e hl hm hk hA hB hD (by rw [hs]; exact hv)).mono fun e w' k => ⟨?_, k.2⟩
    rw [hs] at k
    exact ⟨[], none, 0, levE l, k.1, .inl rfl, tot_nil, fun e => absurd e hv⟩
theorem allU_symm {g h : Gr} (hn : g.L.length = h.L.length) : allU h g = allU g h := by
  unfold allU
  rw [← hn]
  exact sumN_congr _ (fun i _ => by unfold unkAt unkC; simp only [Or.comm])
theorem chV_agg (e : Int) (g h : Gr) : ∃ x y z : Int, chV e g h = .agg #[.int .i64 x, .int .i64 y, .int .i64 z] ∧ (e = 0 → x = allC g h ∧ y = allC h g ∧ z = allU g h) ∧ (e ≠ 0 → x = 0 ∧ y = 0 ∧ z = 0) := by
  unfold chV
  by_cases h0 : e = 0
  · rw [if_pos h0]; exact ⟨_, _, _, rfl, fun _ => ⟨rfl, rfl, rfl⟩, fun h => absurd h0 h⟩
  · rw [if_neg h0]; exact ⟨0, 0, 0, rfl, fun h => absurd h h0, fun _ => ⟨rfl, rfl, rfl⟩⟩
/-- What the third bed's changes are, before the walk. -/
theorem third_bed {g h q : Gr} (h0 : twoE g h = 0) : ∃ a1 b1 u1 a2 b2 u2 : Int, chV (twoE g q) g q = .agg #[.int .i64 a1, .int .i64 b1, .int .i64 u1] ∧ chV (twoE h q) h q = .agg #[.int .i64 a2, .int .i64 b2, .int .i64 u2] ∧
    ((0 ≤ a1 ∧ a1 ≤ 4096000000000000) ∧ (0 ≤ b1 ∧ b1 ≤ 4096000000000000) ∧ (0 ≤ u1 ∧ u1 ≤ 1024)) ∧ ((0 ≤ a2 ∧ a2 ≤ 4096000000000000) ∧ (0 ≤ b2 ∧ b2 ≤ 4096000000000000) ∧ (0 ≤ u2 ∧ u2 ≤ 1024)) ∧
    ((twoE g q != 0) = true ∨ (twoE g q = 0 ∧ (twoE h q != 0) = true) ∨ (twoE g q = 0 ∧ twoE h q = 0 ∧ 0 < allU g h + u1 + u2) ∨ (twoE g q = 0 ∧ twoE h q = 0 ∧ ¬ 0 < allU g h + u1 + u2 ∧ (a1 - b1 == allC g h - allC h g + a2 - b2) = true)) := by
  obtain ⟨a1, b1, u1, k1, k2, k3⟩ := chV_agg (twoE g q) g q
  obtain ⟨a2, b2, u2, l1, l2, l3⟩ := chV_agg (twoE h q) h q
  refine ⟨a1, b1, u1, a2, b2, u2, k1, l1, ?_, ?_, ?_⟩
  · by_cases e : twoE g q = 0
    · obtain ⟨r1, r2, r3⟩ := k2 e
      have := allC_bd e
      subst r1 r2 r3
      omega
    · obtain ⟨r1, r2, r3⟩ := k3 e
      omega
  · by_cases e : twoE h q = 0
    · obtain ⟨r1, r2, r3⟩ := l2 e
      have := allC_bd e
      subst r1 r2 r3
      omega
    · obtain ⟨r1, r2, r3⟩ := l3 e
      omega
  · by_cases e1 : twoE g q = 0
    · by_cases e2 : twoE h q = 0
      · obtain ⟨r1, r2, r3⟩ := k2 e1
        obtain ⟨r4, r5, r6⟩ := l2 e2
        by_cases hu : 0 < allU g h + u1 + u2
        · exact .inr (.inr (.inl ⟨e1, e2, hu⟩))
        · refine .inr (.inr (.inr ⟨e1, e2, hu, ?_⟩))
          have := net_way h0 e1 e2 (by omega)
          rw [beq_iff_eq]; omega
      · exact .inr (.inl ⟨e1, by rw [bne_iff_ne]; exact e2⟩)
    · exact .inl (by rw [bne_iff_ne]; exact e1)
end Go.Proofs.Ytgnakeemcccfjaa
