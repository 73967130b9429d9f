/- BedWithin: Within and Highest return what the reference does, or the first error, for all grids, polygons and cells. It holds for every input; there is no condition. -/
import Derived.Test.YtgnakeemcccfjaaGreatBrow
import Derived.Test.YtgnakeemcccfjaaGreatBlawwi
import Derived.Test.YtgnakeemcccfjaaGreatBfactsWithin
namespace Go.Proofs.YtgnakeemcccfjaaGreat
open Go Go.ChangeShapes Go.WideShapes Go.ChangeAt Go.RowKit Go.Joins

theorem cellsP : Tryz.prog.cellsOf 51 = 2 := by kernel_rfl
theorem point_two_ints {H : Type} {enc : TypeId × Value → H} {w : World} {base : Nat} {spare : Nat → Bool} {held : Bool} {fuel : Nat} {c0 c1 : Value} {x : DataW H × List MemPlace}
    (h : DataW.trod enc Tryz.prog w base spare held fuel 51 [c0, c1] = some x) : ∃ a b, c0 = .int .i64 a ∧ c1 = .int .i64 b := by
  obtain ⟨y0, y1, n, _, _, h0, h1⟩ := trod_struct2 Tryz.underlying51 h
  simp only [cells1] at h0 h1
  obtain ⟨a0, e0, _, _⟩ := DataW.trod_int Tryz.underlying3 h0
  obtain ⟨a1, e1, _, _⟩ := DataW.trod_int Tryz.underlying3 h1
  simp at e0 e1
  exact ⟨_, _, e0, e1⟩

theorem point_enc {H : Type} {enc : TypeId × Value → H} {w : World} {base : Nat} {spare : Nat → Bool} {held : Bool} (n : Nat) (cs : List Value) (y : DataW H × List MemPlace) (hl : cs.length = 2)
    (h : DataW.trod enc Tryz.prog w base spare held n 51 cs = some y) : ∃ a, cs = encP a := by
  match cs, hl with
  | [c0, c1], _ =>
    obtain ⟨a, b, rfl, rfl⟩ := point_two_ints h
    exact ⟨⟨a, b⟩, rfl⟩
set_option maxRecDepth 100000 in
theorem open_points {H : Type} {enc : TypeId × Value → H} {w : World} {base b0 : Nat} {r : Reach} {spare : Nat → Bool} {held : Bool} {v : Value} {d : DataW H} {p : List MemPlace} (hv : Value.okWide Tryz.prog w r b0 25 v) (h : DataW.Trod enc Tryz.prog w base spare held 25 v d p) :
    ∃ (l : List Pt) (A : Option Addr) (cap : Nat), v = .slice A l.length cap ∧ l.length ≤ cap ∧ cap ≤ maxLen ∧ Row 2 encP w A l := by
  obtain ⟨a, len, cap, rfl⟩ := okWide_slice Tryz.underlying25 hv
  obtain ⟨fuel, hf⟩ := h
  exact open_rows (enc := enc) (base := base) (spare := spare) (held := held) (d := d) (p := p) encP_len (by omega) Tryz.underlying25 cellsP point_enc ⟨fuel, hf⟩

set_option maxRecDepth 100000 in
theorem bwithin_lifted (os : Os) (started : os.Started) (H : Type) (enc : TypeId × Value → H) :
    ReturnsInHanded {} Tryz.checked os 3 .any (Rows.bedWithinSpec.pre6 enc Tryz.prog Tryz.f3 Rows.bedWithinRow.domain false) (Rows.bedWithinSpec.post enc Tryz.prog Tryz.f3 false true false false) := by
  refine returnsInHanded_of_change (C := Tryz.checked) ownK started (by kernel_rfl) Tryz.func3
    (ChangeSpec.witness6 (enc := enc) (C := Tryz.checked) false ⟨#[], #[.agg #[.int .i64 0, .int .i64 0, .int .i64 0, .int .i64 0, .int .i64 0, .slice none 0 0], .slice none 0 0, .slice none 0 0], []⟩ 8 (by kernel_rfl) (by kernel_rfl) (by kernel_rfl) (by kernel_rfl)) ?_
  intro W base args ds gs before hval0 hW _ _
  have hval : ∀ (j : Nat) t v, Tryz.f3.params[j]? = some t → args[j]? = some v → Value.okWide Tryz.prog W .any base t v := hval0
  have hW' := hW
  have hlt : ∀ x ∈ before, x.block < W.heap.size := fun x hx => hW.lt x hx
  obtain ⟨p, q, hA0, hV, rfl, _, _⟩ := hW
  obtain ⟨rfl, rfl⟩ := trodVars_none hV
  rw [List.append_nil] at hlt
  have hA : DataW.TrodAll enc Tryz.prog W 0 (fun _ => true) true Tryz.f3.params.toList args.toList ds p := hA0
  rw [Tryz.params3] at hA hval
  have hA1 := hA
  obtain ⟨v0, v1, v2, d0, d1, d2, p0, p1, p2, rfl, rfl, rfl, h0, h1, h2⟩ := trodAll_three hA
  obtain ⟨g0, A0, c0, rfl, hl0, hc0, hR0⟩ := open_grid (hval 0 24 v0 rfl rfl) h0
  obtain ⟨l1, A1, c1, rfl, hl1, hc1, hR1⟩ := open_points (hval 1 25 v1 rfl rfl) h1
  obtain ⟨l2, A2, c2, rfl, hl2, hc2, hR2⟩ := open_ints (hval 2 22 v2 rfl rfl) h2
  refine (wi_walk g0 l1 l2 W A0 A1 A2 c0 c1 c2 (Nat.le_trans hl0 hc0) (Nat.le_trans hl1 hc1) (Nat.le_trans hl2 hc2) hR0 hR1 hR2).mono fun e W' ⟨he, hb⟩ => ?_
  subst he
  refine ⟨_, rfl, _, _, _, [], _, [], hW', trodAll_cons_mk (shut_bool Tryz.underlying4 _) trodAll_mk0, Below.trodAll (by kernel_rfl) hb (by intro t ht; simp at ht; rcases ht with rfl | rfl | rfl <;> exact ⟨by kernel_rfl, by decide +kernel⟩) hA1 hlt, rfl, hb.frame _, fun h => by cases h⟩

theorem bwithin_holds : Rows.BedWithinSaid :=
  OpenClaim.holds_of_wide 3 Tryz.f3 rfl rfl rfl rfl rfl rfl rfl ⟨rfl, rfl, rfl, rfl, rfl⟩ rfl rfl rfl rfl rfl bwi_name Tryz.func3 bwi_joined
    (of_decide_eq_true (by kernel_rfl)) (by unfold Func.isWrapper; rw [if_neg (of_decide_eq_false (by kernel_rfl))]; exact ⟨rfl, rfl⟩)
    (fun os started H enc _ => bwithin_lifted os started H enc)

#print axioms bwithin_holds
end Go.Proofs.YtgnakeemcccfjaaGreat
