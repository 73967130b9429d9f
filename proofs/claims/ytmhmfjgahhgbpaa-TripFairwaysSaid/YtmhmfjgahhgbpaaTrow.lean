/- The last step of every row: a law that returns true and leaves alone what was there. -/
import Derived.Test.YtmhmfjgahhgbpaaRows
import Derived.ChangeSame
import Derived.JoinedOf
import Derived.JoinedAt
import Derived.RowKit3
import Derived.Lib.SmallJoins
import Derived.ProofKit
import Derived.OpenShut
import Derived.Carry
import Derived.Below
import Derived.Deep.Slices
import Derived.Test.YtmhmfjgahhgbpaaTmark
namespace Go.Proofs.Ytmhmfjgahhgbpaa
open Go Go.ChangeShapes Go.WideShapes Go.ChangeAt Go.RowKit Go.Joins

theorem ownK : ownKnob Try.prog.godebug = none := by kernel_rfl
theorem cells1 : Try.prog.cellsOf 3 = 1 := by kernel_rfl
theorem cellsM : Try.prog.cellsOf 114 = 2 := by kernel_rfl

/-- Arguments, one after another, read as they did. -/
theorem Below.trodAll {H : Type} {enc : TypeId × Value → H} {P : Program} (hl : laidOutB P = true) {W W' : World} (hb : Below W.heap.size W W') :
    ∀ {ts : List TypeId} {vs : List Value} {ds : List (DataW H)} {ps : List MemPlace}, (∀ t ∈ ts, P.readableRec t = true ∧ t < P.types.size) → DataW.TrodAll enc P W 0 (fun _ => true) true ts vs ds ps → (∀ x ∈ ps, x.block < W.heap.size) →
      DataW.TrodAll enc P W' 0 (fun b => decide (b < W.heap.size)) true ts vs ds ps
  | [], _, _, _, _, h, _ => by
    obtain ⟨rfl, rfl, rfl⟩ := trodAll_nil h
    exact trodAll_mk0
  | t :: ts, vs, ds, ps, ht, h, hlt => by
    obtain ⟨v, vs', d, ds', p, q, rfl, rfl, rfl, h0, h1⟩ := trodAll_cons h
    have h2 := ht t (List.mem_cons_self ..)
    exact trodAll_cons_mk (Below.trod hl h2.1 h2.2 h0 hb fun x hx => hlt x (List.mem_append_left _ hx)) (Below.trodAll hl hb (fun t ht' => ht t (List.mem_cons_of_mem _ ht')) h1 fun x hx => hlt x (List.mem_append_right _ hx))

theorem addr_add (b off i : Nat) : (⟨b, off, none⟩ : Addr).add i = ⟨b, off + i, none⟩ := by
  unfold Addr.add
  split
  · rename_i h; subst h; rfl
  · rfl
/-- A slice whose elements all read as an 'enc', as a list. -/
theorem open_rows {α : Type} [Inhabited α] {k : Nat} {enc' : α → List Value} (hk : ∀ x, (enc' x).length = k) (hk0 : 0 < k) {H : Type} {enc : TypeId × Value → H} {P : Program} {w : World} {base : Nat} {spare : Nat → Bool} {held : Bool}
    {t e : TypeId} {v : Value} {d : DataW H} {p : List MemPlace} (ht : P.underlying t = some (.slice e)) (hC : P.cellsOf e = k)
    (he : ∀ (n : Nat) (cs : List Value) (y : DataW H × List MemPlace), cs.length = k → DataW.trod enc P w base spare held n e cs = some y → ∃ a, cs = enc' a)
    (hv : ∃ n, DataW.trod enc P w base spare held n t [v] = some (d, p)) :
    ∃ (l : List α) (A : Option Addr) (cap : Nat), v = .slice A l.length cap ∧ l.length ≤ cap ∧ cap ≤ maxLen ∧ Row k enc' w A l := by
  obtain ⟨n0, hv⟩ := hv
  rcases Go.Deep.open_slice ht hv with ⟨h0, _⟩ | ⟨a, len, cap, m, n, D, Pl, h0, hb, hl, hm, hmm, _, hi⟩
  · injection h0 with h0
    subst h0
    exact ⟨[], none, 0, rfl, Nat.le_refl _, Nat.zero_le _, .inl rfl⟩
  · injection h0 with h0
    subst h0
    have hlm : len ≤ m := by rw [hmm]; split <;> omega
    obtain ⟨f, hf⟩ := Go.Deep.choose_lt (n := len) (p := fun i (x : α) => w.cells? base (a.add (i * k)) k = some (enc' x)) (fun i hil => by
      obtain ⟨cs', h1, h2⟩ := hi i (by omega)
      rw [hC] at h1
      obtain ⟨_, hcl, _⟩ := World.cells?_some h1
      obtain ⟨x, rfl⟩ := he n cs' _ hcl h2
      exact ⟨x, h1⟩)
    refine ⟨(List.range len).map f, some a, cap, by simp, by simpa using hl, hm, ?_⟩
    rcases Nat.eq_zero_or_pos len with h0 | h0
    · left; subst h0; rfl
    · right
      have c0 := (World.cells?_some (hf 0 h0)).2.2 0 hk0
      rw [Nat.zero_mul, show a.add 0 = a from rfl, show a.add 0 = a from rfl, List.getElem?_eq_getElem (by rw [hk]; exact hk0)] at c0
      have hspot : a.spot = none := by
        unfold World.cell? at c0
        split at c0
        · split at c0
          · cases c0
          · rename_i hs; simpa using hs
        · cases c0
      obtain ⟨b, off, sp⟩ := a
      simp only at hspot
      subst hspot
      refine ⟨b, off, rfl, World.block_lt_of_cell? w ⟨b, off, none⟩ c0, fun i hil j u hu => ?_⟩
      simp only [List.length_map, List.length_range] at hil
      simp only [List.getElem_map, List.getElem_range] at hu
      have hj : j < k := by have := (List.getElem?_eq_some_iff.1 hu).1; rwa [hk] at this
      have c := (World.cells?_some (hf i hil)).2.2 j hj
      rw [addr_add, addr_add] at c
      rw [c, hu]


theorem mark_enc {H : Type} {enc : TypeId × Value → H} {w : World} {base : Nat} {spare : Nat → Bool} {held : Bool} (n : Nat) (cs : List Value) (y : DataW H × List MemPlace) (hl : cs.length = 2)
    (h : DataW.trod enc Try.prog w base spare held n 114 cs = some y) : ∃ a, cs = encP a := by
  match cs, hl with
  | [c0, c1], _ =>
    obtain ⟨y0, y1, n, _, _, h0, h1⟩ := trod_struct2 Try.underlying114 h
    simp only [cells1] at h0 h1
    obtain ⟨a0, e0, _, _⟩ := DataW.trod_int Try.underlying3 h0
    obtain ⟨a1, e1, _, _⟩ := DataW.trod_int Try.underlying3 h1
    simp at e0 e1
    subst e0 e1
    exact ⟨⟨a0, a1⟩, rfl⟩
theorem cells_g : Try.prog.cellsOf 85 = 4 := by kernel_rfl
theorem cells_ms : Try.prog.cellsOf 83 = 1 := by kernel_rfl
theorem cells_str : Try.prog.cellsOf 9 = 1 := by kernel_rfl
set_option maxRecDepth 100000 in
/-- A parameter of a gauge, opened. -/
theorem open_gauge {H : Type} {enc : TypeId × Value → H} {w : World} {base b0 : Nat} {r : Reach} {spare : Nat → Bool} {held : Bool} {v : Value} {d : DataW H} {p : List MemPlace}
    (hv : Value.okWide Try.prog w r b0 85 v) (h : DataW.Trod enc Try.prog w base spare held 85 v d p) :
    ∃ (s : ByteArray) (x er : Int) (l : List Pt) (A : Option Addr) (cap : Nat), v = .agg #[.string s, .int .i64 x, .int .i64 er, .slice A l.length cap] ∧ l.length ≤ cap ∧ cap ≤ maxLen ∧ Row 2 encP w A l := by
  obtain ⟨cs, rfl, hsz⟩ := okWide_struct Try.underlying85 hv
  obtain ⟨l⟩ := cs
  match l, hsz.trans cells_g with
  | [c0, c1, c2, c3], _ =>
    obtain ⟨fuel, hf⟩ := h
    obtain ⟨xs, m, _, _, _, hlen, hg⟩ := DataW.trod_struct Try.underlying85 hf
    have h0 := hg 0 _ rfl
    have h1 := hg 1 _ rfl
    have h2 := hg 2 _ rfl
    have h3 := hg 3 _ rfl
    match xs, hlen with
    | [y0, y1, y2, (y3, z3)], _ =>
      have h0 : DataW.trod enc Try.prog w base spare held m 9 (([c0, c1, c2, c3].drop 0).take (Try.prog.cellsOf 9)) = some y0 := h0
      have h1 : DataW.trod enc Try.prog w base spare held m 3 (([c0, c1, c2, c3].drop 1).take (Try.prog.cellsOf 3)) = some y1 := h1
      have h2 : DataW.trod enc Try.prog w base spare held m 3 (([c0, c1, c2, c3].drop 2).take (Try.prog.cellsOf 3)) = some y2 := h2
      have h3 : DataW.trod enc Try.prog w base spare held m 83 (([c0, c1, c2, c3].drop 3).take (Try.prog.cellsOf 83)) = some (y3, z3) := h3
      rw [cells1] at h1 h2
      rw [cells_str] at h0
      rw [cells_ms] at h3
      obtain ⟨s, e0, _, _⟩ := DataW.trod_string Try.underlying9 h0
      obtain ⟨x, e1, _, _⟩ := DataW.trod_int Try.underlying3 h1
      obtain ⟨er, e2, _, _⟩ := DataW.trod_int Try.underlying3 h2
      obtain ⟨l, A, cap, e3, k1, k2, k3⟩ := open_rows (enc := enc) (base := base) (spare := spare) (held := held) (d := y3) (p := z3) (v := c3) encP_len (by omega) Try.underlying83 cellsM mark_enc ⟨_, h3⟩
      simp at e0 e1 e2
      subst e0 e1 e2 e3
      exact ⟨s, x, er, l, A, cap, rfl, k1, k2, k3⟩
end Go.Proofs.Ytmhmfjgahhgbpaa
