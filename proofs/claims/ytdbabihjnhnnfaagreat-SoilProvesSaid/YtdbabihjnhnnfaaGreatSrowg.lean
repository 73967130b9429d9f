/- A parameter of a ground, of a point, of two or three levels, opened. -/
import Derived.Test.YtdbabihjnhnnfaaGreatSrow
import Derived.Test.YtdbabihjnhnnfaaGreatSslight
namespace Go.Proofs.YtdbabihjnhnnfaaGreat
open Go Go.ChangeShapes Go.WideShapes Go.ChangeAt Go.RowKit Go.Joins

/-- A slice whose elements all read as an 'enc' that has a property, as a list. -/
theorem open_rowsQ {α : Type} [Inhabited α] (Q : α → Prop) {k : Nat} {enc' : α → List Value} (hk : ∀ x, (enc' x).length = k) (hk0 : 0 < k) {H : Type} {enc : TypeId × Value → H} {P : Program} {w : World} {base : Nat} {spare : Nat → Bool} {held : Bool}
    {t e : TypeId} {v : Value} {d : DataW H} {p : List MemPlace} (ht : P.underlying t = some (.slice e)) (hC : P.cellsOf e = k)
    (he : ∀ (n : Nat) (cs : List Value) (y : DataW H × List MemPlace), cs.length = k → DataW.trod enc P w base spare held n e cs = some y → ∃ a, cs = enc' a ∧ Q a)
    (hv : ∃ n, DataW.trod enc P w base spare held n t [v] = some (d, p)) :
    ∃ (l : List α) (A : Option Addr) (cap : Nat), v = .slice A l.length cap ∧ l.length ≤ cap ∧ cap ≤ maxLen ∧ Row k enc' w A l ∧ ∀ i (hi : i < l.length), Q l[i] := by
  obtain ⟨n0, hv⟩ := hv
  rcases Go.Deep.open_slice ht hv with ⟨h0, _⟩ | ⟨a, len, cap, m, n, D, Pl, h0, hb, hl, hm, hmm, _, hi⟩
  · injection h0 with h0
    subst h0
    exact ⟨[], none, 0, rfl, Nat.le_refl _, Nat.zero_le _, .inl rfl, fun i hi => absurd hi (Nat.not_lt_zero _)⟩
  · injection h0 with h0
    subst h0
    have hlm : len ≤ m := by rw [hmm]; split <;> omega
    obtain ⟨f, hf⟩ := Go.Deep.choose_lt (n := len) (p := fun i (x : α) => w.cells? base (a.add (i * k)) k = some (enc' x) ∧ Q x) (fun i hil => by
      obtain ⟨cs', h1, h2⟩ := hi i (by omega)
      rw [hC] at h1
      obtain ⟨_, hcl, _⟩ := World.cells?_some h1
      obtain ⟨x, rfl, hq⟩ := he n cs' _ hcl h2
      exact ⟨x, h1, hq⟩)
    refine ⟨(List.range len).map f, some a, cap, by simp, by simpa using hl, hm, ?_, fun i hi => by
      simp only [List.length_map, List.length_range] at hi
      simp only [List.getElem_map, List.getElem_range]
      exact (hf i hi).2⟩
    rcases Nat.eq_zero_or_pos len with h0 | h0
    · left; subst h0; rfl
    · right
      have c0 := (World.cells?_some (hf 0 h0).1).2.2 0 hk0
      rw [Nat.zero_mul, show a.add 0 = a from rfl, show a.add 0 = a from rfl, List.getElem?_eq_getElem (by rw [hk]; exact hk0)] at c0
      have hspot : a.spot = none := by
        unfold World.cell? at c0
        split at c0
        · split at c0
          · cases c0
          · rename_i hs; simpa using hs
        · cases c0
      obtain ⟨b, off, sp⟩ := a
      simp only at hspot
      subst hspot
      refine ⟨b, off, rfl, World.block_lt_of_cell? w ⟨b, off, none⟩ c0, fun i hil j u hu => ?_⟩
      simp only [List.length_map, List.length_range] at hil
      simp only [List.getElem_map, List.getElem_range] at hu
      have hj : j < k := by have := (List.getElem?_eq_some_iff.1 hu).1; rwa [hk] at this
      have c := (World.cells?_some (hf i hil).1).2.2 j hj
      rw [addr_add, addr_add] at c
      rw [c, hu]


theorem cells_la : Tryz.prog.cellsOf 56 = 2 := by kernel_rfl
theorem cells_bo : Tryz.prog.cellsOf 54 = 4 := by kernel_rfl
theorem cells_pt : Tryz.prog.cellsOf 46 = 2 := by kernel_rfl
theorem cells_las : Tryz.prog.cellsOf 52 = 1 := by kernel_rfl
theorem cells_bos : Tryz.prog.cellsOf 23 = 1 := by kernel_rfl
theorem cells_sos : Tryz.prog.cellsOf 22 = 1 := by kernel_rfl
theorem cells_gnd : Tryz.prog.cellsOf 25 = 2 := by kernel_rfl
theorem point_two_ints {H : Type} {enc : TypeId × Value → H} {w : World} {base : Nat} {spare : Nat → Bool} {held : Bool} {fuel : Nat} {c0 c1 : Value} {x : DataW H × List MemPlace}
    (h : DataW.trod enc Tryz.prog w base spare held fuel 46 [c0, c1] = some x) : ∃ a b, c0 = .int .i64 a ∧ c1 = .int .i64 b := by
  obtain ⟨y0, y1, n, _, _, h0, h1⟩ := trod_struct2 Tryz.underlying46 h
  simp only [cells1] at h0 h1
  obtain ⟨a0, e0, _, _⟩ := DataW.trod_int Tryz.underlying3 h0
  obtain ⟨a1, e1, _, _⟩ := DataW.trod_int Tryz.underlying3 h1
  simp at e0 e1
  exact ⟨_, _, e0, e1⟩
set_option maxRecDepth 100000 in
theorem open_point {H : Type} {enc : TypeId × Value → H} {w : World} {base b0 : Nat} {r : Reach} {spare : Nat → Bool} {held : Bool} {v : Value} {d : DataW H} {p : List MemPlace}
    (hv : Value.okWide Tryz.prog w r b0 46 v) (h : DataW.Trod enc Tryz.prog w base spare held 46 v d p) :
    ∃ (x y : Int), v = .agg #[.int .i64 x, .int .i64 y] := by
  obtain ⟨cs, rfl, hsz⟩ := okWide_struct Tryz.underlying46 hv
  obtain ⟨l⟩ := cs
  match l, hsz.trans cells_pt with
  | [c0, c1], _ =>
    obtain ⟨fuel, hf⟩ := h
    obtain ⟨x0, x1, e0, e1⟩ := point_two_ints (c0 := c0) (c1 := c1) hf
    subst e0 e1
    exact ⟨x0, x1, rfl⟩
theorem layer_enc {H : Type} {enc : TypeId × Value → H} {w : World} {base : Nat} {spare : Nat → Bool} {held : Bool} (n : Nat) (cs : List Value) (y : DataW H × List MemPlace) (hl : cs.length = 2)
    (h : DataW.trod enc Tryz.prog w base spare held n 56 cs = some y) : ∃ a, cs = encLa a := by
  match cs, hl with
  | [c0, c1], _ =>
    obtain ⟨y0, y1, n, _, _, h0, h1⟩ := trod_struct2 Tryz.underlying56 h
    simp only [cells1, cells_str] at h0 h1
    obtain ⟨a0, e0, _, _⟩ := DataW.trod_int Tryz.underlying3 h0
    obtain ⟨a1, e1, _, _⟩ := DataW.trod_string Tryz.underlying9 h1
    simp at e0 e1
    exact ⟨⟨a0, a1⟩, by rw [e0, e1]; rfl⟩
set_option maxRecDepth 100000 in
theorem boring_enc {H : Type} {enc : TypeId × Value → H} {w : World} {base : Nat} {spare : Nat → Bool} {held : Bool} (n : Nat) (cs : List Value) (y : DataW H × List MemPlace) (hl : cs.length = 4)
    (h : DataW.trod enc Tryz.prog w base spare held n 54 cs = some y) : ∃ a, cs = encBo a ∧ (Row 2 encLa w a.A a.l ∧ a.l.length ≤ a.c ∧ a.l.length ≤ maxLen) := by
  match cs, hl with
  | [c0, c1, c2, c3], _ =>
    obtain ⟨xs, m, _, _, _, hlen, hg⟩ := DataW.trod_struct Tryz.underlying54 h
    have h0 := hg 0 _ rfl
    have h1 := hg 1 _ rfl
    have h2 := hg 2 _ rfl
    have h3 := hg 3 _ rfl
    match xs, hlen with
    | [y0, y1, y2, (y3, z3)], _ =>
      have h0 : DataW.trod enc Tryz.prog w base spare held m 9 (([c0, c1, c2, c3].drop 0).take (Tryz.prog.cellsOf 9)) = some y0 := h0
      have h1 : DataW.trod enc Tryz.prog w base spare held m 3 (([c0, c1, c2, c3].drop 1).take (Tryz.prog.cellsOf 3)) = some y1 := h1
      have h2 : DataW.trod enc Tryz.prog w base spare held m 3 (([c0, c1, c2, c3].drop 2).take (Tryz.prog.cellsOf 3)) = some y2 := h2
      have h3 : DataW.trod enc Tryz.prog w base spare held m 52 (([c0, c1, c2, c3].drop 3).take (Tryz.prog.cellsOf 52)) = some (y3, z3) := h3
      rw [cells1] at h1 h2
      rw [cells_str] at h0
      rw [cells_las] at h3
      obtain ⟨s, e0, _, _⟩ := DataW.trod_string Tryz.underlying9 h0
      obtain ⟨x, e1, _, _⟩ := DataW.trod_int Tryz.underlying3 h1
      obtain ⟨y, e2, _, _⟩ := DataW.trod_int Tryz.underlying3 h2
      obtain ⟨l, A, cap, e3, k1, k2, k3⟩ := open_rows (enc := enc) (base := base) (spare := spare) (held := held) (d := y3) (p := z3) (v := c3) encLa_len (by omega) Tryz.underlying52 cells_la layer_enc ⟨_, h3⟩
      simp at e0 e1 e2
      subst e0 e1 e2 e3
      exact ⟨⟨s, x, y, l, A, cap⟩, rfl, k3, k1, by show l.length ≤ maxLen; omega⟩
set_option maxRecDepth 100000 in
/-- A parameter of a ground, opened. -/
theorem open_ground {H : Type} {enc : TypeId × Value → H} {w : World} {base b0 : Nat} {r : Reach} {spare : Nat → Bool} {held : Bool} {v : Value} {d : DataW H} {p : List MemPlace}
    (hv : Value.okWide Tryz.prog w r b0 25 v) (h : DataW.Trod enc Tryz.prog w base spare held 25 v d p) :
    ∃ (so : List So) (bo : List Bo) (AS AB : Option Addr) (cS cB : Nat), v = .agg #[.slice AS so.length cS, .slice AB bo.length cB] ∧ GrAny w so AS bo AB := by
  obtain ⟨cs, rfl, hsz⟩ := okWide_struct Tryz.underlying25 hv
  obtain ⟨l⟩ := cs
  match l, hsz.trans cells_gnd with
  | [c0, c1], _ =>
    obtain ⟨fuel, hf⟩ := h
    obtain ⟨xs, m, _, _, _, hlen, hg⟩ := DataW.trod_struct Tryz.underlying25 hf
    have h0 := hg 0 _ rfl
    have h1 := hg 1 _ rfl
    match xs, hlen with
    | [(y0, z0), (y1, z1)], _ =>
      have h0 : DataW.trod enc Tryz.prog w base spare held m 22 (([c0, c1].drop 0).take (Tryz.prog.cellsOf 22)) = some (y0, z0) := h0
      have h1 : DataW.trod enc Tryz.prog w base spare held m 23 (([c0, c1].drop 1).take (Tryz.prog.cellsOf 23)) = some (y1, z1) := h1
      rw [cells_sos] at h0
      rw [cells_bos] at h1
      obtain ⟨so, AS, cS, e0, k1, k2, k3⟩ := open_rows (enc := enc) (base := base) (spare := spare) (held := held) (d := y0) (p := z0) (v := c0) encSo_len (by omega) Tryz.underlying22 cells_soil soil_enc ⟨_, h0⟩
      obtain ⟨bo, AB, cB, e1, q1, q2, q3, q4⟩ := open_rowsQ (enc := enc) (base := base) (spare := spare) (held := held) (d := y1) (p := z1) (v := c1) (fun a => Row 2 encLa w a.A a.l ∧ a.l.length ≤ a.c ∧ a.l.length ≤ maxLen) encBo_len (by omega) Tryz.underlying23 cells_bo boring_enc ⟨_, h1⟩
      subst e0 e1
      exact ⟨so, bo, AS, AB, cS, cB, rfl, by omega, by omega, k3, q3, fun k hk => by rw [el_lt _ _ hk]; exact q4 k hk⟩
theorem okWide_array {P : Program} {w : World} {r : Reach} {base : Nat} {t e : TypeId} {n : Nat} {v : Value} (ht : P.underlying t = some (.array n e)) (h : Value.okWide P w r base t v) : ∃ cs, v = .agg cs ∧ cs.size = P.cellsOf t := by
  simp only [Value.okWide, ht] at h
  obtain ⟨cs, h1, h2, _⟩ := h
  exact ⟨cs, h1, h2⟩
theorem array2 {α : Type} {cs : Array α} (h : cs.size = 2) : ∃ c0 c1, cs = #[c0, c1] := by
  obtain ⟨l⟩ := cs
  match l, h with
  | [c0, c1], _ => exact ⟨c0, c1, rfl⟩
theorem cells2 : Tryz.prog.cellsOf 87 = 2 := by kernel_rfl
set_option maxRecDepth 100000 in
theorem open_two {H : Type} {enc : TypeId × Value → H} {w : World} {base b0 : Nat} {r : Reach} {spare : Nat → Bool} {held : Bool} {v : Value} {d : DataW H} {p : List MemPlace}
    (hv : Value.okWide Tryz.prog w r b0 87 v) (h : DataW.Trod enc Tryz.prog w base spare held 87 v d p) :
    ∃ a0 a1, v = .agg #[.int .i64 a0, .int .i64 a1] := by
  obtain ⟨cs, rfl, hsz⟩ := okWide_array Tryz.underlying87 hv
  obtain ⟨c0, c1, rfl⟩ := array2 (hsz.trans cells2)
  obtain ⟨fuel, hf⟩ := h
  obtain ⟨xs, m, _, _, _, hn, hx⟩ := DataW.trod_array Tryz.underlying87 hf
  have get : ∀ i : Nat, i < 2 → ∃ x, xs[i]? = some x := fun i hi => ⟨xs[i]'(by omega), List.getElem?_eq_getElem _⟩
  simp only [cells1, Value.cells] at hx
  obtain ⟨x0, g0⟩ := get 0 (by omega)
  obtain ⟨x1, g1⟩ := get 1 (by omega)
  have h0 := hx 0 (by omega)
  have h1 := hx 1 (by omega)
  rw [g0] at h0
  rw [g1] at h1
  obtain ⟨a0, e0, _, _⟩ := DataW.trod_int Tryz.underlying3 h0
  obtain ⟨a1, e1, _, _⟩ := DataW.trod_int Tryz.underlying3 h1
  simp at e0 e1
  subst e0 e1
  exact ⟨_, _, rfl⟩
end Go.Proofs.YtdbabihjnhnnfaaGreat
