/- Fairways: reaches and closures, what is wrong with them. Plain mathematics: nothing of the program. -/
import Derived.Test.YtmhmfjgahhgbpaaVpure
import Derived.Test.YtmhmfjgahhgbpaaTall
namespace Go.Proofs.Ytmhmfjgahhgbpaa
open Go Go.RowKit Go.IntWalk

/-- Two texts are the same. -/
def sameS (a b : ByteArray) : Bool := a.toList == b.toList
theorem sameS_iff (a b : ByteArray) : sameS a b = true ↔ a = b := by
  unfold sameS
  rw [beq_iff_eq, ByteArray.toList_eq, ByteArray.toList_eq]
  constructor
  · intro h
    cases a; cases b
    simp only at h
    rw [Array.toList_inj.1 h]
  · rintro rfl; rfl
theorem sameS_comm (a b : ByteArray) : sameS a b = sameS b a := by rw [Bool.eq_iff_iff, sameS_iff, sameS_iff]; exact eq_comm
theorem sameS_self (a : ByteArray) : sameS a a = true := (sameS_iff a a).2 rfl

structure Re where
  s : ByteArray
  x : Int
  lev : Int
  mi : Int
  cl : Int
  wt : Bool
  one : Bool
structure Tk where
  s : ByteArray
  a : Int
  b : Int
instance : Inhabited Re := ⟨⟨⟨#[]⟩, 0, 0, 0, 0, false, false⟩⟩
instance : Inhabited Tk := ⟨⟨⟨#[]⟩, 0, 0⟩⟩
def encRe (r : Re) : List Value := [.string r.s, .int .i64 r.x, .int .i64 r.lev, .int .i64 r.mi, .int .i64 r.cl, .bool r.wt, .bool r.one]
theorem encRe_len (r : Re) : (encRe r).length = 7 := rfl
def encTk (t : Tk) : List Value := [.string t.s, .int .i64 t.a, .int .i64 t.b]
theorem encTk_len (t : Tk) : (encTk t).length = 3 := rfl
def el {α : Type} [Inhabited α] (l : List α) (k : Nat) : α := l.getD k default
theorem el_lt {α : Type} [Inhabited α] (l : List α) (k : Nat) (h : k < l.length) : el l k = l[k] := by simp [el, List.getD, h]
theorem Row.re {w : World} {A : Option Addr} {l : List Re} (h : Row 7 encRe w A l) {k : Nat} (hk : k < l.length) :
    ∃ b off, A = some ⟨b, off, none⟩ ∧ b < w.heap.size ∧ ∀ w', Ext w w' → w'.cell? ⟨b, off + k * 7, none⟩ = some (.string (el l k).s) ∧ w'.cell? ⟨b, off + k * 7 + 1, none⟩ = some (.int .i64 (el l k).x) ∧ w'.cell? ⟨b, off + k * 7 + 2, none⟩ = some (.int .i64 (el l k).lev) ∧ w'.cell? ⟨b, off + k * 7 + 3, none⟩ = some (.int .i64 (el l k).mi) ∧ w'.cell? ⟨b, off + k * 7 + 4, none⟩ = some (.int .i64 (el l k).cl) ∧ w'.cell? ⟨b, off + k * 7 + 5, none⟩ = some (.bool (el l k).wt) ∧ w'.cell? ⟨b, off + k * 7 + 6, none⟩ = some (.bool (el l k).one) := by
  obtain ⟨b, off, h1, h2, h3⟩ := h.addr (by omega)
  rw [el_lt _ _ hk]
  exact ⟨b, off, h1, h2, fun w' hw => ⟨h3 w' hw k hk 0 _ rfl, h3 w' hw k hk 1 _ rfl, h3 w' hw k hk 2 _ rfl, h3 w' hw k hk 3 _ rfl, h3 w' hw k hk 4 _ rfl, h3 w' hw k hk 5 _ rfl, h3 w' hw k hk 6 _ rfl⟩⟩
theorem Row.tk {w : World} {A : Option Addr} {l : List Tk} (h : Row 3 encTk w A l) {k : Nat} (hk : k < l.length) :
    ∃ b off, A = some ⟨b, off, none⟩ ∧ b < w.heap.size ∧ ∀ w', Ext w w' → w'.cell? ⟨b, off + k * 3, none⟩ = some (.string (el l k).s) ∧ w'.cell? ⟨b, off + k * 3 + 1, none⟩ = some (.int .i64 (el l k).a) ∧ w'.cell? ⟨b, off + k * 3 + 2, none⟩ = some (.int .i64 (el l k).b) := by
  obtain ⟨b, off, h1, h2, h3⟩ := h.addr (by omega)
  rw [el_lt _ _ hk]
  exact ⟨b, off, h1, h2, fun w' hw => ⟨h3 w' hw k hk 0 _ rfl, h3 w' hw k hk 1 _ rfl, h3 w' hw k hk 2 _ rfl⟩⟩
/-- k is the place of the first reach with a name, or their number. -/
structure FstR (rs : List Re) (s : ByteArray) (k : Nat) : Prop where
  le : k ≤ rs.length
  no : ∀ j, j < k → sameS (el rs j).s s = false
  yes : k < rs.length → sameS (el rs k).s s = true
theorem fst_some (rs : List Re) (s : ByteArray) : ∃ k, FstR rs s k := by
  have key : ∀ n, n ≤ rs.length → (∃ k, FstR rs s k) ∨ ∀ j, j < n → sameS (el rs j).s s = false := by
    intro n
    induction n with
    | zero => intro _; right; intro j hj; omega
    | succ n ih =>
      intro hn
      rcases ih (by omega) with h | h
      · exact .inl h
      · cases hs : sameS (el rs n).s s
        · right
          intro j hj
          by_cases he : j = n
          · subst he; exact hs
          · exact h j (by omega)
        · exact .inl ⟨n, by omega, h, fun _ => hs⟩
  rcases key rs.length (Nat.le_refl _) with h | h
  · exact h
  · exact ⟨rs.length, Nat.le_refl _, h, fun hh => absurd hh (by omega)⟩
theorem FstR.one {rs : List Re} {s : ByteArray} {i j : Nat} (h : FstR rs s i) (k : FstR rs s j) : i = j := by
  rcases Nat.lt_trichotomy i j with h1 | h1 | h1
  · have a := h.yes (by have := k.le; omega)
    rw [k.no i h1] at a; cases a
  · exact h1
  · have a := k.yes (by have := h.le; omega)
    rw [h.no j h1] at a; cases a
def inRe (r : Re) : Bool := withinB r.x (-1000000) 1000000 && (withinB r.lev (-20000) 20000 && (withinB r.mi 1 1000 && withinB r.cl 0 1000))
def dupR (rs : List Re) (k : Nat) : Bool := anyN (fun j => sameS (el rs j).s (el rs k).s) k
def reE (rs : List Re) (k : Nat) : Int := if nameB (el rs k).s = false then 4 else if dupR rs k = true then 5 else if inRe (el rs k) = false then 2 else 0
def rsE (rs : List Re) : Int := if rs.length = 0 then 10 else if 8 < rs.length then 8 else firstE (reE rs) rs.length
def hasR (rs : List Re) (s : ByteArray) : Bool := anyN (fun j => sameS (el rs j).s s) rs.length
def inTk (t : Tk) : Bool := withinB t.a 0 1000000 && (withinB t.b 0 1000000 && decide (t.a ≤ t.b))
def tkE (rs : List Re) (ts : List Tk) (k : Nat) : Int := if hasR rs (el ts k).s = false then 6 else if inTk (el ts k) = false then 2 else 0
def tksE (rs : List Re) (ts : List Tk) : Int := if 60 < ts.length then 8 else firstE (tkE rs ts) ts.length
/-- What is wrong with a fairway. -/
def fairE (gs : List Ga) (rs : List Re) (ts : List Tk) : Int := if gausE gs ≠ 0 then gausE gs else if rsE rs ≠ 0 then rsE rs else tksE rs ts
theorem fst_has {rs : List Re} {s : ByteArray} {k : Nat} (h : FstR rs s k) : hasR rs s = decide (k < rs.length) := by
  unfold hasR
  by_cases hk : k < rs.length
  · rw [decide_eq_true hk]
    exact (anyN_iff _ _).2 ⟨k, hk, h.yes hk⟩
  · rw [decide_eq_false hk]
    have := h.le
    exact (anyN_no _ _).2 fun j hj => h.no j (by omega)
theorem fst_dup {rs : List Re} {k i : Nat} (hk : k < rs.length) (h : FstR rs (el rs k).s i) : dupR rs k = decide (i < k) ∧ i ≤ k := by
  have hik : i ≤ k := by
    rcases Nat.lt_or_ge k i with h1 | h1
    · have := h.no k h1; rw [sameS_self] at this; cases this
    · exact h1
  refine ⟨?_, hik⟩
  unfold dupR
  by_cases hi : i < k
  · rw [decide_eq_true hi]
    exact (anyN_iff _ _).2 ⟨i, hi, h.yes (by omega)⟩
  · rw [decide_eq_false hi]
    exact (anyN_no _ _).2 fun j hj => h.no j (by omega)
theorem rs_good {rs : List Re} (h : rsE rs = 0) : 0 < rs.length ∧ rs.length ≤ 8 ∧ ∀ k, k < rs.length → inRe (el rs k) = true := by
  unfold rsE at h
  split at h
  · cases h
  split at h
  · cases h
  refine ⟨by omega, by omega, fun k hk => ?_⟩
  have := firstE_zero h k hk
  unfold reE at this
  split at this
  · cases this
  split at this
  · cases this
  split at this
  · cases this
  · rename_i hh; simpa using hh
theorem fair_good {gs : List Ga} {rs : List Re} {ts : List Tk} (h : fairE gs rs ts = 0) : gausE gs = 0 ∧ rsE rs = 0 ∧ tksE rs ts = 0 := by
  unfold fairE at h
  split at h
  · rename_i hh; exact absurd h hh
  split at h
  · rename_i hh; exact absurd h hh
  · rename_i h1 h2; exact ⟨by omega, by omega, h⟩
end Go.Proofs.Ytmhmfjgahhgbpaa
