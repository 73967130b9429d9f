/- A parameter that is a list of gauges, opened. -/
import Derived.Test.YtmhmfjgahhgbpaaTrow
import Derived.Test.YtmhmfjgahhgbpaaTall
namespace Go.Proofs.Ytmhmfjgahhgbpaa
open Go Go.ChangeShapes Go.WideShapes Go.ChangeAt Go.RowKit Go.Joins

/-- A slice whose elements all read as an 'enc' that has a property, as a list. -/
theorem open_rowsQ {α : Type} [Inhabited α] (Q : α → Prop) {k : Nat} {enc' : α → List Value} (hk : ∀ x, (enc' x).length = k) (hk0 : 0 < k) {H : Type} {enc : TypeId × Value → H} {P : Program} {w : World} {base : Nat} {spare : Nat → Bool} {held : Bool}
    {t e : TypeId} {v : Value} {d : DataW H} {p : List MemPlace} (ht : P.underlying t = some (.slice e)) (hC : P.cellsOf e = k)
    (he : ∀ (n : Nat) (cs : List Value) (y : DataW H × List MemPlace), cs.length = k → DataW.trod enc P w base spare held n e cs = some y → ∃ a, cs = enc' a ∧ Q a)
    (hv : ∃ n, DataW.trod enc P w base spare held n t [v] = some (d, p)) :
    ∃ (l : List α) (A : Option Addr) (cap : Nat), v = .slice A l.length cap ∧ l.length ≤ cap ∧ cap ≤ maxLen ∧ Row k enc' w A l ∧ ∀ i (hi : i < l.length), Q l[i] := by
  obtain ⟨n0, hv⟩ := hv
  rcases Go.Deep.open_slice ht hv with ⟨h0, _⟩ | ⟨a, len, cap, m, n, D, Pl, h0, hb, hl, hm, hmm, _, hi⟩
  · injection h0 with h0
    subst h0
    exact ⟨[], none, 0, rfl, Nat.le_refl _, Nat.zero_le _, .inl rfl, fun i hi => absurd hi (Nat.not_lt_zero _)⟩
  · injection h0 with h0
    subst h0
    have hlm : len ≤ m := by rw [hmm]; split <;> omega
    obtain ⟨f, hf⟩ := Go.Deep.choose_lt (n := len) (p := fun i (x : α) => w.cells? base (a.add (i * k)) k = some (enc' x) ∧ Q x) (fun i hil => by
      obtain ⟨cs', h1, h2⟩ := hi i (by omega)
      rw [hC] at h1
      obtain ⟨_, hcl, _⟩ := World.cells?_some h1
      obtain ⟨x, rfl, hq⟩ := he n cs' _ hcl h2
      exact ⟨x, h1, hq⟩)
    refine ⟨(List.range len).map f, some a, cap, by simp, by simpa using hl, hm, ?_, fun i hi => by
      simp only [List.length_map, List.length_range] at hi
      simp only [List.getElem_map, List.getElem_range]
      exact (hf i hi).2⟩
    rcases Nat.eq_zero_or_pos len with h0 | h0
    · left; subst h0; rfl
    · right
      have c0 := (World.cells?_some (hf 0 h0).1).2.2 0 hk0
      rw [Nat.zero_mul, show a.add 0 = a from rfl, show a.add 0 = a from rfl, List.getElem?_eq_getElem (by rw [hk]; exact hk0)] at c0
      have hspot : a.spot = none := by
        unfold World.cell? at c0
        split at c0
        · split at c0
          · cases c0
          · rename_i hs; simpa using hs
        · cases c0
      obtain ⟨b, off, sp⟩ := a
      simp only at hspot
      subst hspot
      refine ⟨b, off, rfl, World.block_lt_of_cell? w ⟨b, off, none⟩ c0, fun i hil j u hu => ?_⟩
      simp only [List.length_map, List.length_range] at hil
      simp only [List.getElem_map, List.getElem_range] at hu
      have hj : j < k := by have := (List.getElem?_eq_some_iff.1 hu).1; rwa [hk] at this
      have c := (World.cells?_some (hf i hil).1).2.2 j hj
      rw [addr_add, addr_add] at c
      rw [c, hu]


set_option maxRecDepth 100000 in
theorem gauge_enc {H : Type} {enc : TypeId × Value → H} {w : World} {base : Nat} {spare : Nat → Bool} {held : Bool} (n : Nat) (cs : List Value) (y : DataW H × List MemPlace) (hl : cs.length = 4)
    (h : DataW.trod enc Try.prog w base spare held n 85 cs = some y) : ∃ a, cs = encG a ∧ (a.l.length ≤ maxLen ∧ Row 2 encP w a.A a.l) := by
  match cs, hl with
  | [c0, c1, c2, c3], _ =>
    obtain ⟨xs, m, _, _, _, hlen, hg⟩ := DataW.trod_struct Try.underlying85 h
    have h0 := hg 0 _ rfl
    have h1 := hg 1 _ rfl
    have h2 := hg 2 _ rfl
    have h3 := hg 3 _ rfl
    match xs, hlen with
    | [y0, y1, y2, (y3, z3)], _ =>
      have h0 : DataW.trod enc Try.prog w base spare held m 9 (([c0, c1, c2, c3].drop 0).take (Try.prog.cellsOf 9)) = some y0 := h0
      have h1 : DataW.trod enc Try.prog w base spare held m 3 (([c0, c1, c2, c3].drop 1).take (Try.prog.cellsOf 3)) = some y1 := h1
      have h2 : DataW.trod enc Try.prog w base spare held m 3 (([c0, c1, c2, c3].drop 2).take (Try.prog.cellsOf 3)) = some y2 := h2
      have h3 : DataW.trod enc Try.prog w base spare held m 83 (([c0, c1, c2, c3].drop 3).take (Try.prog.cellsOf 83)) = some (y3, z3) := h3
      rw [cells1] at h1 h2
      rw [cells_str] at h0
      rw [cells_ms] at h3
      obtain ⟨s, e0, _, _⟩ := DataW.trod_string Try.underlying9 h0
      obtain ⟨x, e1, _, _⟩ := DataW.trod_int Try.underlying3 h1
      obtain ⟨er, e2, _, _⟩ := DataW.trod_int Try.underlying3 h2
      obtain ⟨l, A, cap, e3, k1, k2, k3⟩ := open_rows (enc := enc) (base := base) (spare := spare) (held := held) (d := y3) (p := z3) (v := c3) encP_len (by omega) Try.underlying83 cellsM mark_enc ⟨_, h3⟩
      simp at e0 e1 e2
      subst e0 e1 e2 e3
      exact ⟨⟨s, x, er, l, A, cap⟩, rfl, by show l.length ≤ maxLen; omega, k3⟩
set_option maxRecDepth 100000 in
/-- A parameter that is a list of gauges, opened. -/
theorem open_gauges {H : Type} {enc : TypeId × Value → H} {w : World} {base b0 : Nat} {r : Reach} {spare : Nat → Bool} {held : Bool} {v : Value} {d : DataW H} {p : List MemPlace}
    (hv : Value.okWide Try.prog w r b0 34 v) (h : DataW.Trod enc Try.prog w base spare held 34 v d p) :
    ∃ (gs : List Ga) (A : Option Addr) (cap : Nat), v = .slice A gs.length cap ∧ gs.length ≤ cap ∧ cap ≤ maxLen ∧ Row 4 encG w A gs ∧ ∀ k (hk : k < gs.length), gs[k].l.length ≤ maxLen ∧ Row 2 encP w gs[k].A gs[k].l := by
  obtain ⟨a, len, cap, rfl⟩ := okWide_slice Try.underlying34 hv
  obtain ⟨n, hf⟩ := h
  exact open_rowsQ (enc := enc) (base := base) (spare := spare) (held := held) (d := d) (p := p) (fun a => a.l.length ≤ maxLen ∧ Row 2 encP w a.A a.l) encG_len (by omega) Try.underlying34 cells_g gauge_enc ⟨n, hf⟩
end Go.Proofs.Ytmhmfjgahhgbpaa
