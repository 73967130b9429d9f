/- Slices that the call itself has made, of elements of k cells; results of several cells. -/
import Derived.Test.YtgbkjioajmnjbaaGreatBcheck
import Derived.OwnWalk
import Derived.Carry
namespace Go.Proofs.YtgbkjioajmnjbaaGreat
open Go Go.RowKit Go.IntWalk

section
variable {α : Type} {t : TypeId} {k : Nat} {enc : α → List Value} {w w' : World} {g cap base : Nat} {l : List α}
theorem flat_lenK (hk : ∀ x, (enc x).length = k) (l : List α) : (l.flatMap enc).length = l.length * k := by
  induction l with
  | nil => simp
  | cons x l ih => rw [List.flatMap_cons, List.length_append, ih, List.length_cons, hk, Nat.succ_mul]; omega
/-- Block g is a row of elements with room for cap, whose first are l. -/
def OwnK (t : TypeId) (k : Nat) (enc : α → List Value) (w : World) (g cap : Nat) (l : List α) : Prop :=
  ∃ cur, w.heap[g]? = some (.cells cur t (0, 0)) ∧ cur.size = cap * k ∧ l.length ≤ cap ∧ cap ≤ maxLen ∧ cur.toList.take (l.length * k) = l.flatMap enc
theorem OwnK.to_row (hk : ∀ x, (enc x).length = k) (h : OwnK t k enc w g cap l) (hb : base ≤ g) : w.ownsRow base t k (.slice (some ⟨g, 0, none⟩) l.length cap) l.length (l.flatMap enc) := by
  obtain ⟨cur, h1, h2, h3, h4, h5⟩ := h
  exact ⟨flat_lenK hk l, .inr ⟨g, cap, cur, rfl, hb, h1, h3, h4, h2, h5⟩⟩
theorem OwnK.lt (h : OwnK t k enc w g cap l) : g < w.heap.size := by
  obtain ⟨cur, h1, _⟩ := h
  rcases Nat.lt_or_ge g w.heap.size with h | h
  · exact h
  · rw [Array.getElem?_eq_none h] at h1; cases h1
theorem OwnK.ext (h : OwnK t k enc w g cap l) (hw : Ext w w') : OwnK t k enc w' g cap l := by
  have hl := h.lt
  obtain ⟨cur, h1, h2⟩ := h
  exact ⟨cur, (hw.block g hl).trans h1, h2⟩
theorem OwnK.cells (hk : ∀ x, (enc x).length = k) (h : OwnK t k enc w g cap l) (j : Nat) (v : Value) (hv : (l.flatMap enc)[j]? = some v) : w.cell? ⟨g, j, none⟩ = some v := by
  have := (h.to_row hk (Nat.zero_le g)).cellAt j (by have := (List.getElem?_eq_some_iff.1 hv).1; rw [flat_lenK hk] at this; exact this)
  rw [this]; exact hv
theorem OwnK.frozen (hk : ∀ x, (enc x).length = k) (h : OwnK t k enc w g cap l) (j : Nat) : w.frozen? ⟨g, j, none⟩ = false := (h.to_row hk (Nat.zero_le g)).frozenAt j
theorem OwnK.row (hk : ∀ x, (enc x).length = k) (h : OwnK t k enc w g cap l) : Row k enc w (some ⟨g, 0, none⟩) l :=
  .inr ⟨g, 0, rfl, h.lt, fun i hi j v hv => by rw [Nat.zero_add]; exact h.cells hk _ _ (flat_get hk l i hi j v hv)⟩
theorem OwnK.other (h : OwnK t k enc w g cap l) {a : Addr} (ha : g ≠ a.block) (v : Value) : OwnK t k enc (w.setCell a v) g cap l := by
  obtain ⟨cur, h1, h2⟩ := h
  exact ⟨cur, (Below.heap_setCell w a v g ha).trans h1, h2⟩
theorem ownK_cases (_hk : ∀ x, (enc x).length = k) {v : Value} {n : Nat} {xs : List Value} (hxs : xs = l.flatMap enc) (hn : n = l.length) (h : w.ownsRow base t k v n xs) :
    ∃ A' c', v = .slice A' l.length c' ∧ l.length ≤ c' ∧ c' ≤ maxLen ∧ ((l = [] ∧ A' = none ∧ c' = 0) ∨ ∃ g, A' = some ⟨g, 0, none⟩ ∧ base ≤ g ∧ OwnK t k enc w g c' l) := by
  subst hxs hn
  rcases h.2 with ⟨h', h''⟩ | ⟨g', cap', cur, h', hb, hg, hnc, hcm, hcs, htake⟩
  · have hn : l = [] := List.eq_nil_of_length_eq_zero h''
    subst hn
    exact ⟨none, 0, h', Nat.le_refl _, Nat.zero_le _, .inl ⟨rfl, rfl, rfl⟩⟩
  · exact ⟨_, _, h', hnc, hcm, .inr ⟨g', rfl, hb, ⟨cur, hg, hcs, hnc, hcm, htake⟩⟩⟩
/-- The row that an owned slice is. -/
theorem ownK_row (hk : ∀ x, (enc x).length = k) {A : Option Addr} {c : Nat} (h : (l = [] ∧ A = none ∧ c = 0) ∨ ∃ g, A = some ⟨g, 0, none⟩ ∧ base ≤ g ∧ OwnK t k enc w g c l) : Row k enc w A l := by
  rcases h with ⟨h, _⟩ | ⟨g, rfl, _, h⟩
  · exact .inl h
  · exact h.row hk
theorem ownsRow_ext {B e size n : Nat} {v : Value} {xs : List Value} (h : w.ownsRow B e size v n xs) (hw : Ext w w') : w'.ownsRow B e size v n xs :=
  World.ownsRow.kept (row := none) h ⟨hw.os, hw.tape, hw.output, hw.size, fun k hk _ => hw.block k hk⟩ (by cases hv : v.ownBlock <;> simp)
/-- What has grown by writes to an own row stands over what was there before. -/
theorem grown_ext {w0 : World} {v : Value} {base e size n : Nat} {xs : List Value} (hE : Ext w0 w) (hown : w.ownsRow base e size v n xs) (hb : w0.heap.size ≤ base) (hg : w.grownBy w' v.ownBlock) : Ext w0 w' :=
  Below.grown hE hg hE.size (by
    intro q hq
    have := (World.ownsRow.lt hown q hq).1
    omega)
end
theorem one_newZ (w : World) (x : Int) (t : TypeId) : ∀ j u, [Value.int .i64 x][j]? = some u → (w.alloc (.cells #[.int .i64 x] t)).cell? ((⟨w.heap.size, 0, none⟩ : Addr).add j) = some u := by
  intro j u hu
  match j with
  | 0 => simpa [Addr.add, go_sem] using hu
  | j + 1 => simp at hu
theorem infoZ : (Tryz.prog.info? 3).map (fun i => (i.zero, i.size, i.bytes)) = some (some (.int .i64 0), 1, 8) := by kernel_rfl

/-! ### Results of several cells -/
def stL (w : World) (b o : Nat) : List Value → World
  | [] => w
  | v :: vs => stL (w.setCell ⟨b, o, none⟩ v) b (o + 1) vs
def CellsAt (w : World) (b o : Nat) (vs : List Value) : Prop := ∀ j v, vs[j]? = some v → w.cell? ⟨b, o + j, none⟩ = some v
theorem stL_far (b : Nat) : ∀ (vs : List Value) (o : Nat) (w : World) (q : Addr), (q.block ≠ b ∨ q.off < o) → q.spot = none → (stL w b o vs).cell? q = w.cell? q
  | [], _, _, _, _, _ => rfl
  | v :: vs, o, w, q, h, hs => by
    unfold stL
    rw [stL_far b vs (o + 1) _ q (by omega) hs]
    exact World.cell?_setCell_other w ⟨b, o, none⟩ q v (by intro e; subst e; simp at h)
theorem stL_at (b : Nat) : ∀ (vs us : List Value) (o : Nat) (w : World), CellsAt w b o us → vs.length = us.length → CellsAt (stL w b o vs) b o vs
  | [], _, _, _, _, _ => fun j v h => by simp at h
  | v :: vs, [], _, _, _, h => by simp at h
  | v :: vs, u :: us, o, w, h, hl => by
    intro j x hj
    cases j with
    | zero =>
      simp at hj
      subst hj
      unfold stL
      rw [stL_far b vs (o + 1) _ ⟨b, o + 0, none⟩ (.inr (by simp)) rfl]
      exact World.cell?_setCell_same w ⟨b, o, none⟩ v (by simpa using h 0 u rfl)
    | succ j =>
      have hus : CellsAt (w.setCell ⟨b, o, none⟩ v) b (o + 1) us := by
        intro i y hi
        rw [World.cell?_setCell_other _ _ _ _ (by intro e; injection e with _ e; omega)]
        have := h (i + 1) y (by simpa using hi)
        rwa [show o + 1 + i = o + (i + 1) by omega]
      have := stL_at b vs us (o + 1) _ hus (by simpa using hl) j x (by simpa using hj)
      unfold stL
      rwa [show o + (j + 1) = o + 1 + j by omega]
theorem stL_size (b : Nat) : ∀ (vs : List Value) (o : Nat) (w : World), (stL w b o vs).heap.size = w.heap.size
  | [], _, _ => rfl
  | v :: vs, o, w => by unfold stL; rw [stL_size b vs]; simp
theorem stL_ext {w0 : World} (b : Nat) (hb : w0.heap.size ≤ b) : ∀ (vs : List Value) (o : Nat) (w : World), Ext w0 w → Ext w0 (stL w b o vs)
  | [], _, _, h => h
  | v :: vs, o, w, h => stL_ext b hb vs (o + 1) _ (Ext.st h (by simpa using hb) v)
theorem stL_own {α : Type} {t : TypeId} {k : Nat} {enc : α → List Value} {g cap : Nat} {l : List α} (b : Nat) (hg : g ≠ b) : ∀ (vs : List Value) (o : Nat) (w : World), OwnK t k enc w g cap l → OwnK t k enc (stL w b o vs) g cap l
  | [], _, _, h => h
  | v :: vs, o, w, h => stL_own b hg vs (o + 1) _ (h.other (by simpa using hg) v)

/-! ### append of what came in -/
theorem addr_addN (b off i : Nat) : (⟨b, off, none⟩ : Addr).add i = ⟨b, off + i, none⟩ := by
  unfold Addr.add
  split
  · rename_i h; subst h; rfl
  · rfl
theorem Row.flat {α : Type} {k : Nat} {enc : α → List Value} {w : World} {b off : Nat} {l : List α} (h : Row k enc w (some ⟨b, off, none⟩) l) (hk : ∀ x, (enc x).length = k) (h0 : 0 < k) :
    ∀ j u, (l.flatMap enc)[j]? = some u → w.cell? ⟨b, off + j, none⟩ = some u := by
  intro j u hu
  have hlt : j < l.length * k := by have := (List.getElem?_eq_some_iff.1 hu).1; rwa [flat_lenK hk] at this
  rcases h with rfl | ⟨b', off', h1, h2, h3⟩
  · simp at hlt
  · injection h1 with h1
    injection h1 with e1 e2
    subst e1 e2
    have hi : j / k < l.length := by rw [Nat.div_lt_iff_lt_mul h0]; exact hlt
    have hm : j % k < k := Nat.mod_lt _ h0
    have hx : (enc l[j / k])[j % k]? = some ((enc l[j / k])[j % k]'(by rw [hk]; exact hm)) := List.getElem?_eq_getElem _
    have e := flat_get hk l (j / k) hi (j % k) _ hx
    have ej : j / k * k + j % k = j := Nat.div_add_mod' j k
    rw [ej, hu] at e
    have := h3 (j / k) hi (j % k) _ hx
    rw [show off + j / k * k + j % k = off + j by omega] at this
    rw [this, e]
theorem run_append_none {P : Program} (w : World) (base : Nat) (t ty e : TypeId) (i : TypeInfo) (size : Nat) (ht : P.underlying t = some (.slice e)) (hi : P.info? e = some i)
    (v : Value) (n : Nat) (xs : List Value) (hown : w.ownsRow base e size v n xs) (c : Nat) : (Builtin.append_ #[t, t] ty #[v, .slice none 0 c]).run P w = .ok v w := by
  rcases hown.2 with ⟨rfl, rfl⟩ | ⟨g, cap, cur, rfl, _, _, hnc, _⟩
  · simp [Builtin.append_, run_underlying ht, sizeOf, typeInfo, hi, Builtin.lenOf, Builtin.firstCells]
  · simp [Builtin.append_, run_underlying ht, sizeOf, typeInfo, hi, Builtin.lenOf, Builtin.firstCells, hnc, storeCells]
/-- append of a slice that came in, whatever its address, onto a row of the call's own. -/
theorem wpList_append_in {α : Type} {P : Program} {w : World} {ops : Array Oper} {rest : List Oper} {o : Oper} {a : Act} {Q : Exit → Act → World → Prop} (hgd : o.guard = none) (s x : Operand) (t : TypeId)
    (ho : o.op = .call { callee := .builtin .append, args := #[s, x], argTypes := #[t, t] })
    (base : Nat) (e : TypeId) (i : TypeInfo) (z : Value) (k bytes : Nat) (ht : P.underlying t = some (.slice e)) (hi : P.info? e = some i) (hz : i.zero = some z) (hsize : i.size = k) (hby : i.bytes = bytes) (hzs : z.cells.size = k) (hk0 : 0 < k)
    (enc : α → List Value) (hk : ∀ x, (enc x).length = k) (h1 : ∀ x, ∀ u ∈ enc x, u.oneCell' = true)
    (v : Value) (n : Nat) (xs : List Value) (hs : a.eval s = v) (hown : w.ownsRow base e k v n xs) (l : List α) (A : Option Addr) (c : Nat) (hx : a.eval x = .slice A l.length c) (hR : Row k enc w A l) (hl : n + l.length ≤ maxLen) (hb : (n + l.length) * bytes ≤ 140737488355328) (hbase : base ≤ w.heap.size)
    (h : ∀ v' w', w'.ownsRow base e k v' (n + l.length) (xs ++ l.flatMap enc) → w.grownBy w' v.ownBlock → wpList P ops Q rest (a.put o.dst v') w') : wpList P ops Q (o :: rest) a w := by
  have hall : ∀ u ∈ l.flatMap enc, u.oneCell' = true := fun u hu => by
    obtain ⟨y, _, hy⟩ := List.mem_flatMap.1 hu
    exact h1 y u hy
  by_cases hn : l = []
  · subst hn
    cases A with
    | none =>
      refine wpList_plain hgd fun K hK => ?_
      have hrun := run_append_none (P := P) w base t o.type e i k ht hi v n xs hown c
      have hx' : a.eval x = .slice none 0 c := hx
      unfold Oper.wp
      simp [execOp, ho, resolve, invoke, builtin, hs, hx', hrun, Result.andThen]
      exact hK _ _ (h v w (by simpa using hown) (World.grownBy.refl w _))
    | some ad =>
      exact wpList_append_own w hgd s x t ho base e i z k bytes ht hi hz hsize hby hzs hk0 v n xs hs hown ad 0 c [] hx (by simp) (fun j u hu => by simp at hu) (fun u hu => by simp at hu) hl hb hbase (fun v' w' h1 h2 _ => h v' w' (by simpa using h1) h2)
  · rcases id hR with h0 | ⟨b, off, rfl, _⟩
    · exact absurd h0 hn
    · have hf := hR.flat hk hk0
      exact wpList_append_own w hgd s x t ho base e i z k bytes ht hi hz hsize hby hzs hk0 v n xs hs hown ⟨b, off, none⟩ l.length c (l.flatMap enc) hx (flat_lenK hk l) (fun j u hu => by rw [addr_addN]; exact hf j u hu) hall hl hb hbase (fun v' w' h1 h2 _ => h v' w' h1 h2)
theorem encZ_one : ∀ (x : Int), ∀ v ∈ encZ x, v.oneCell' = true := fun x v hv => by simp [encZ] at hv; rcases hv with rfl; rfl
/-- A slice of numbers that a call has made. -/
def NewZ (base : Nat) (w' : World) (A : Option Addr) (c : Nat) (l : List Int) : Prop :=
  l.length ≤ c ∧ c ≤ maxLen ∧ ((l = [] ∧ A = none ∧ c = 0) ∨ ∃ g, A = some ⟨g, 0, none⟩ ∧ base ≤ g ∧ OwnK 3 1 encZ w' g c l)
theorem NewZ.row {base : Nat} {w : World} {A : Option Addr} {c : Nat} {l : List Int} (h : NewZ base w A c l) : Row 1 encZ w A l := ownK_row encZ_len h.2.2
theorem NewZ.ext {base : Nat} {w w' : World} {A : Option Addr} {c : Nat} {l : List Int} (h : NewZ base w A c l) (hw : Ext w w') : NewZ base w' A c l := by
  refine ⟨h.1, h.2.1, ?_⟩
  rcases h.2.2 with h | ⟨g, h1, h2, h3⟩
  · exact .inl h
  · exact .inr ⟨g, h1, h2, h3.ext hw⟩
theorem NewZ.of {base : Nat} {w : World} {v : Value} {n : Nat} {xs : List Value} {l : List Int} (hxs : xs = l.flatMap encZ) (hn : n = l.length) (h : w.ownsRow base 3 1 v n xs) : ∃ A c, v = .slice A l.length c ∧ NewZ base w A c l := by
  obtain ⟨A, c, h1, h2, h3, h4⟩ := ownK_cases encZ_len hxs hn h
  exact ⟨A, c, h1, h2, h3, h4⟩
theorem NewZ.mono {base base' : Nat} {w : World} {A : Option Addr} {c : Nat} {l : List Int} (h : NewZ base w A c l) (hb : base' ≤ base) : NewZ base' w A c l := by
  refine ⟨h.1, h.2.1, ?_⟩
  rcases h.2.2 with h | ⟨g, h1, h2, h3⟩
  · exact .inl h
  · exact .inr ⟨g, h1, Nat.le_trans hb h2, h3⟩
theorem NewZ.st {base : Nat} {w : World} {A : Option Addr} {c : Nat} {l : List Int} (h : NewZ base w A c l) {a : Addr} (ha : a.block < base) (v : Value) : NewZ base (w.setCell a v) A c l := by
  refine ⟨h.1, h.2.1, ?_⟩
  rcases h.2.2 with h | ⟨g, h1, h2, h3⟩
  · exact .inl h
  · exact .inr ⟨g, h1, h2, h3.other (by omega) v⟩
theorem NewZ.stL {base : Nat} {w : World} {A : Option Addr} {c : Nat} {l : List Int} (h : NewZ base w A c l) {b : Nat} (ha : b < base) (o : Nat) (vs : List Value) : NewZ base (stL w b o vs) A c l := by
  refine ⟨h.1, h.2.1, ?_⟩
  rcases h.2.2 with h | ⟨g, h1, h2, h3⟩
  · exact .inl h
  · exact .inr ⟨g, h1, h2, stL_own b (by omega) vs o w h3⟩
/-- The result is a slice of numbers that the call has made. -/
def OutZ (base : Nat) (l : List Int) (e : Ending) (w' : World) : Prop := ∃ A c, e = .returned (.slice A l.length c) ∧ NewZ base w' A c l
theorem CellsAt.st {w : World} {b o : Nat} {vs : List Value} (h : CellsAt w b o vs) {a : Addr} (ha : a.block ≠ b) (v : Value) : CellsAt (w.setCell a v) b o vs := fun j u hj => by
  rw [World.cell?_setCell_other _ _ _ _ (by intro e; exact ha (by rw [e]))]
  exact h j u hj
theorem CellsAt.ext {w w' : World} {b o : Nat} {vs : List Value} (h : CellsAt w b o vs) (hw : Ext w w') (hb : b < w.heap.size) : CellsAt w' b o vs := fun j u hj => by
  rw [hw.ccell _ _ hb]
  exact h j u hj
theorem CellsAt.six {w : World} {b : Nat} {v0 v1 v2 v3 v4 v5 : Value} (h : CellsAt w b 0 [v0, v1, v2, v3, v4, v5]) :
    w.cell? ⟨b, 0, none⟩ = some v0 ∧ w.cell? ⟨b, 1, none⟩ = some v1 ∧ w.cell? ⟨b, 2, none⟩ = some v2 ∧ w.cell? ⟨b, 3, none⟩ = some v3 ∧ w.cell? ⟨b, 4, none⟩ = some v4 ∧ w.cell? ⟨b, 5, none⟩ = some v5 := by
  refine ⟨?_, ?_, ?_, ?_, ?_, ?_⟩
  · simpa using h 0 _ rfl
  · simpa using h 1 _ rfl
  · simpa using h 2 _ rfl
  · simpa using h 3 _ rfl
  · simpa using h 4 _ rfl
  · simpa using h 5 _ rfl
theorem CellsAt.three {w : World} {b : Nat} {v0 v1 v2 : Value} (h : CellsAt w b 0 [v0, v1, v2]) :
    w.cell? ⟨b, 0, none⟩ = some v0 ∧ w.cell? ⟨b, 1, none⟩ = some v1 ∧ w.cell? ⟨b, 2, none⟩ = some v2 := by
  refine ⟨?_, ?_, ?_⟩
  · simpa using h 0 _ rfl
  · simpa using h 1 _ rfl
  · simpa using h 2 _ rfl
/-- The cells of a grid's box. -/
theorem cells_six {w : World} {b : Nat} {v0 v1 v2 v3 v4 v5 : Value} (h : w.cell? ⟨b, 0, none⟩ = some v0 ∧ w.cell? ⟨b, 1, none⟩ = some v1 ∧ w.cell? ⟨b, 2, none⟩ = some v2 ∧ w.cell? ⟨b, 3, none⟩ = some v3 ∧ w.cell? ⟨b, 4, none⟩ = some v4 ∧ w.cell? ⟨b, 5, none⟩ = some v5) : CellsAt w b 0 [v0, v1, v2, v3, v4, v5] := by
  obtain ⟨h0, h1, h2, h3, h4, h5⟩ := h
  intro j v hj
  match j with
  | 0 => simp at hj; subst hj; simpa using h0
  | 1 => simp at hj; subst hj; simpa using h1
  | 2 => simp at hj; subst hj; simpa using h2
  | 3 => simp at hj; subst hj; simpa using h3
  | 4 => simp at hj; subst hj; simpa using h4
  | 5 => simp at hj; subst hj; simpa using h5
  | j + 6 => simp at hj
theorem cells_three {w : World} {b : Nat} {v0 v1 v2 : Value} (h : w.cell? ⟨b, 0, none⟩ = some v0 ∧ w.cell? ⟨b, 1, none⟩ = some v1 ∧ w.cell? ⟨b, 2, none⟩ = some v2) : CellsAt w b 0 [v0, v1, v2] := by
  obtain ⟨h0, h1, h2⟩ := h
  intro j v hj
  match j with
  | 0 => simp at hj; subst hj; simpa using h0
  | 1 => simp at hj; subst hj; simpa using h1
  | 2 => simp at hj; subst hj; simpa using h2
  | j + 3 => simp at hj
end Go.Proofs.YtgbkjioajmnjbaaGreat
