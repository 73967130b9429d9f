/- The contract of sides, and of what goes by neighbouring edges. -/
import Derived.Test.YtgnakeemcccfjaaGreatSeg2
import Derived.Test.YtgnakeemcccfjaaGreatPure7
import Derived.OwnWalk
import Derived.Deep.OwnRows
namespace Go.Proofs.YtgnakeemcccfjaaGreat
open Go Go.RowKit Go.IntWalk

/-- An edge's four cells. -/
def encS (s : Pt × Pt) : List Value := [.int .i64 s.1.x, .int .i64 s.1.y, .int .i64 s.2.x, .int .i64 s.2.y]
theorem encS_len (s : Pt × Pt) : (encS s).length = 4 := rfl
def edges (l : List Pt) : List (Pt × Pt) := (List.range l.length).map (fun i => (cor l i, cor l (i + 1)))
theorem edges_len (l : List Pt) : (edges l).length = l.length := by simp [edges]
theorem edges_get (l : List Pt) (i : Nat) (h : i < (edges l).length) : (edges l)[i] = (cor l i, cor l (i + 1)) := by simp [edges]
/-- Cell i of the edges' row. -/
def ev (l : List Pt) (i : Nat) : Value :=
  if i % 4 = 0 then .int .i64 (cor l (i / 4)).x else if i % 4 = 1 then .int .i64 (cor l (i / 4)).y else if i % 4 = 2 then .int .i64 (cor l (i / 4 + 1)).x else .int .i64 (cor l (i / 4 + 1)).y
theorem infoS : (Tryz.prog.info? 140).map (fun i => (i.zero, i.size, i.bytes)) = some (some (.agg #[.int .i64 0, .int .i64 0, .int .i64 0, .int .i64 0]), 4, 32) := by kernel_rfl
/-- The first k edges are laid in block g. -/
def SidesTo (l : List Pt) (g k : Nat) (w : World) : Prop := ∃ f, w.rowIs g 140 (l.length * 4) f ∧ ∀ i, i < k * 4 → f i = ev l i
theorem SidesTo.row {l : List Pt} {g : Nat} {w : World} (h : SidesTo l g l.length w) : Row 4 encS w (some ⟨g, 0, none⟩) (edges l) := by
  obtain ⟨f, hf, hv⟩ := h
  refine .inr ⟨g, 0, rfl, hf.lt, fun i hi j v hv' => ?_⟩
  rw [edges_len] at hi
  have hj : j < 4 := (List.getElem?_eq_some_iff.1 hv').1
  rw [Nat.zero_add, hf.cell (show i * 4 + j < l.length * 4 by omega), hv _ (by omega), ← hv', edges_get]
  unfold ev encS
  rw [show (i * 4 + j) / 4 = i by omega, show (i * 4 + j) % 4 = j by omega]
  rcases (by omega : j = 0 ∨ j = 1 ∨ j = 2 ∨ j = 3) with rfl | rfl | rfl | rfl <;> rfl
theorem SidesTo.step {l : List Pt} {g k : Nat} {w : World} (h : SidesTo l g k w) (a b : Pt) (ha : a = cor l k) (hb : b = cor l (k + 1)) :
    SidesTo l g (k + 1) ((((w.setCell ⟨g, k * 4, none⟩ (.int .i64 a.x)).setCell ⟨g, k * 4 + 1, none⟩ (.int .i64 a.y)).setCell ⟨g, k * 4 + 2, none⟩ (.int .i64 b.x)).setCell ⟨g, k * 4 + 3, none⟩ (.int .i64 b.y)) := by
  obtain ⟨f, hf, hv⟩ := h
  refine ⟨_, (((hf.set _ _).set _ _).set _ _).set _ _, fun i hi => ?_⟩
  subst ha hb
  unfold ev
  by_cases h3 : i = k * 4 + 3
  · subst h3; simp [show (k * 4 + 3) / 4 = k by omega, show (k * 4 + 3) % 4 = 3 by omega]
  · by_cases h2 : i = k * 4 + 2
    · subst h2; simp [show (k * 4 + 2) / 4 = k by omega, show (k * 4 + 2) % 4 = 2 by omega]
    · by_cases h1 : i = k * 4 + 1
      · subst h1; simp [show (k * 4 + 1) / 4 = k by omega, show (k * 4 + 1) % 4 = 1 by omega]
      · by_cases h0 : i = k * 4
        · subst h0; simp [show k * 4 / 4 = k by omega]
        · simp only [h0, h1, h2, h3, if_false]; exact hv i (by omega)
theorem SidesTo.frozen {l : List Pt} {g k : Nat} {w : World} (h : SidesTo l g k w) (j : Nat) : w.frozen? ⟨g, j, none⟩ = false := by
  obtain ⟨f, hf, hv⟩ := h
  exact hf.frozen j
theorem SidesTo.lt {l : List Pt} {g k : Nat} {w : World} (h : SidesTo l g k w) : g < w.heap.size := by
  obtain ⟨f, hf, hv⟩ := h
  exact hf.lt
theorem rem_nat (i n : Nat) : Int.tmod (i : Int) (n : Int) = ((i % n : Nat) : Int) := by rw [Int.natCast_emod]; exact Int.tmod_eq_emod_of_nonneg (by omega)
theorem Row.r2 {w : World} {b off : Nat} {l : List Pt} (h : Row 2 encP w (some ⟨b, off, none⟩) l) {k : Nat} (hk : k < l.length) :
    ∀ w', Ext w w' → w'.cell? ⟨b, off + k * 2, none⟩ = some (.int .i64 l[k].x) ∧ w'.cell? ⟨b, off + k * 2 + 1, none⟩ = some (.int .i64 l[k].y) := by
  obtain ⟨b', off', h1, _, h3⟩ := h.p2 hk
  injection h1 with h1
  injection h1 with h1 h2
  subst h1 h2
  exact h3
theorem cor_mod (l : List Pt) (i : Nat) (h : i % l.length < l.length) : cor l i = l[i % l.length] := by rw [← cor_lt l _ h]; unfold cor; rw [Nat.mod_mod]
theorem SidesTo.drew {l : List Pt} {g k : Nat} {w : World} (h : SidesTo l g k w) : SidesTo l g k w.drew := by
  obtain ⟨f, hf, hv⟩ := h
  exact ⟨f, hf.drew, hv⟩

theorem SidesTo.start {l : List Pt} {g base : Nat} {w : World} {xs : List Value} (h : w.ownsRow base 140 4 (.slice (some ⟨g, 0, none⟩) l.length l.length) l.length xs) : SidesTo l g 0 w := by
  rcases h.2 with ⟨h', _⟩ | ⟨g', cap', cur, h', hb, hg, hnc, hcm, hcs, htake⟩
  · simp at h'
  · simp only [Value.slice.injEq, Option.some.injEq, Addr.mk.injEq, and_true, true_and] at h'
    obtain ⟨rfl, rfl⟩ := h'
    exact ⟨fun i => cur.toList.getD i (.bool false), ⟨cur, hg, hcs, fun i hi => by simp [List.getD_eq_getElem?_getD, show i < cur.size by omega]⟩, fun i hi => by omega⟩

set_option maxHeartbeats 2000000 in
theorem sides_c (l : List Pt) (w : World) (A : Option Addr) (c : Nat) (hl : l.length ≤ 1000) (hA : Row 2 encP w A l) :
    Calls Tryz.prog 104 #[.slice A l.length c] w
      fun e w' => ∃ g, e = .returned (.slice (some ⟨g, 0, none⟩) l.length l.length) ∧ Ext w w' ∧ Row 4 encS w' (some ⟨g, 0, none⟩) (edges l) := by
  obtain ⟨i0, hi, hz0, hz1, hz2⟩ := info_parts infoS
  go_enter Tryz.func104, Tryz.ntmps104
  go_wp2_with (first | (at_make; refine wpList_make_full _ rfl _ _ 137 rfl w.heap.size 140 i0 _ 4 Tryz.underlying137 hi hz0 hz1 .i64 .i64 _ _ l.length rfl rfl rfl rfl ?c1 ?c2 ?c3 ?_))
  case c1 => rw [hz2]; omega
  case c2 => unfold maxLen; omega
  case c3 => simp
  intro w1 hown hgr
  have hE : Ext w w1 := Below.grown (Ext.rfl' w) hgr (by simp) (by intro q hq; cases hq)
  have hS := SidesTo.start hown
  clear hown hgr hi hz0 hz1 hz2
  go_wp2
  go_loopw [4, 10] (fun _ i wr => Ext w wr ∧ ∃ k : Nat, k ≤ l.length ∧ i = .int .i64 k ∧ SidesTo l w.heap.size k wr) (fun _ i _ => l.length - (intOf i).toNat)
  case atStart => exact ⟨hE, 0, Nat.zero_le _, rfl, hS⟩
  case round =>
    obtain ⟨hr, k, hk, rfl, hK⟩ := hrel
    by_cases hlt : k < l.length
    · obtain ⟨b, off, rfl, hb0, hcell⟩ := hA.p2 hlt
      obtain ⟨c0, c1⟩ := hcell _ hr
      have hz := hr.sz _ hb0
      have hm : (k + 1) % l.length < l.length := Nat.mod_lt _ (by omega)
      obtain ⟨d0, d1⟩ := hA.r2 hm _ hr
      have hrem : ((k : Int) + 1) % (l.length : Int) = (((k + 1) % l.length : Nat) : Int) := by rw [Int.natCast_emod]; rfl
      have hm' := hm
      have e1 := cor_lt l k hlt
      have e2 := cor_mod l (k + 1) hm
      have HE := Lib.hid (And.intro e1 e2)
      have fr := hK.frozen
      have hlg := hK.lt
      have HK := Lib.hid hK
      obtain ⟨f, hf, _⟩ := hK
      have q0 := hf.cell (i := k * 4) (by omega)
      have q1 := hf.cell (i := k * 4 + 1) (by omega)
      have q2 := hf.cell (i := k * 4 + 2) (by omega)
      have q3 := hf.cell (i := k * 4 + 3) (by omega)
      generalize f (k * 4) = v0 at q0
      generalize f (k * 4 + 1) = v1 at q1
      generalize f (k * 4 + 2) = v2 at q2
      generalize f (k * 4 + 3) = v3 at q3
      clear hf
      have hne : ¬ (l.length : Int) = 0 := by omega
      generalize (k + 1) % l.length = m at *
      clear e1 e2
      go_wp2
      go_region
      go_wp2
      have hS2 := (HK.out.step ⟨l[k].x, l[k].y⟩ ⟨l[m].x, l[m].y⟩ HE.out.1.symm HE.out.2.symm).drew
      exact ⟨⟨Ext.dr (Ext.st (Ext.st (Ext.st (Ext.st hr (by simp) _) (by simp) _) (by simp) _) (by simp) _), k + 1, by omega, by go_num, hS2⟩, by simp [intOf]; omega⟩
    · go_wp2
      go_ret
      refine ⟨w.heap.size, rfl, hr, ?_⟩
      have : k = l.length := by omega
      subst this
      exact hK.row
end Go.Proofs.YtgnakeemcccfjaaGreat
