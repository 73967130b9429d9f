/- Contracts of Sure, Possible and First. -/
import Derived.Test.YtblmljcgjibfgaaTwinp
import Derived.Test.YtblmljcgjibfgaaTrspan
namespace Go.Proofs.Ytblmljcgjibfgaa
open Go Go.RowKit Go.IntWalk Go.Shelf

theorem win_no_c (gs : List Ga) (x f t : Int) (F : Value) (w : World) (A : Option Addr) (c : Nat) (hl : gs.length ≤ 1000) (hc : gs.length ≤ c) (hA : Row 4 encG w A gs) (hM : Marks w gs) (h0 : viewE gs x f t ≠ 0) :
    Calls Try.prog 75 #[.slice A gs.length c, .int .i64 x, .agg #[.int .i64 f, .int .i64 t], F] w
      fun e w' => e = .returned (.tuple #[.slice none 0 0, .int .i64 (viewE gs x f t)]) ∧ Ext w w' := by
  have HC := Lib.hid (fun w' (hw : Ext w w') => checkLook_c gs x f t w' A c hl hc (hA.ext hw) (hM.ext hw))
  generalize viewE gs x f t = r at *
  have h' : (r == 0) = false := by simp [h0]
  go_enter Try.func75, Try.ntmps75
  go_wp2_with (first | (go_at_call 72; with_reducible refine Calls.mono (HC.out _ (by (repeat (first | with_reducible exact Ext.rfl' _ | with_reducible assumption | with_reducible refine Ext.al ?_ _ | with_reducible refine Ext.dr ?_ | with_reducible refine Ext.st ?_ (by simp) _ | with_reducible refine Ext.tr ?_ (by assumption))))) ?_; rintro e w1 ⟨rfl, hb⟩; have hc := hb.ccell; have hf := hb.frz; have hs := hb.sz; (try simp at hs); (try have hs0 := hs w.heap.size (by omega)); (try have hs1 := hs (w.heap.size + 1) (by omega)); (try have hs2 := hs (w.heap.size + 1 + 1) (by omega)); (try have hs3 := hs (w.heap.size + 1 + 1 + 1) (by omega))))
  refine bodyPost_ret (v := .tuple #[.slice none 0 0, .int .i64 r]) (by simp [results, Try.results75, go_sem]) rfl ⟨rfl, by (repeat (first | with_reducible exact Ext.rfl' _ | with_reducible assumption | with_reducible refine Ext.al ?_ _ | with_reducible refine Ext.dr ?_ | with_reducible refine Ext.st ?_ (by simp) _ | with_reducible refine Ext.tr ?_ (by assumption)))⟩
theorem sure_no_c (gs : List Ga) (x lev f t : Int) (w : World) (A : Option Addr) (c : Nat) (hl : gs.length ≤ 1000) (hc : gs.length ≤ c) (hA : Row 4 encG w A gs) (hM : Marks w gs) (h0 : viewE gs x f t ≠ 0) :
    Calls Try.prog 31 #[.slice A gs.length c, .int .i64 x, .int .i64 lev, .agg #[.int .i64 f, .int .i64 t]] w
      fun e w' => e = .returned (.tuple #[.slice none 0 0, .int .i64 (viewE gs x f t)]) ∧ Ext w w' := by
  have HC := Lib.hid (fun F w' (hw : Ext w w') => win_no_c gs x f t F w' A c hl hc (hA.ext hw) (hM.ext hw) h0)
  generalize viewE gs x f t = r at *
  clear h0
  go_enter Try.func31, Try.ntmps31
  go_wp2_with (first | (go_at_call 75; with_reducible refine Calls.mono (HC.out _ _ (by (repeat (first | with_reducible exact Ext.rfl' _ | with_reducible assumption | with_reducible refine Ext.al ?_ _ | with_reducible refine Ext.dr ?_ | with_reducible refine Ext.st ?_ (by simp) _ | with_reducible refine Ext.tr ?_ (by assumption))))) ?_; rintro e w1 ⟨rfl, hb⟩; have hc := hb.ccell; have hf := hb.frz; have hs := hb.sz; (try simp at hs); (try have hs0 := hs w.heap.size (by omega)); (try have hs1 := hs (w.heap.size + 1) (by omega)); (try have hs2 := hs (w.heap.size + 1 + 1) (by omega)); (try have hs3 := hs (w.heap.size + 1 + 1 + 1) (by omega))))
  refine bodyPost_ret (v := .tuple #[.slice none 0 0, .int .i64 r]) (by simp [results, Try.results31, go_sem]) rfl ⟨rfl, by (repeat (first | with_reducible exact Ext.rfl' _ | with_reducible assumption | with_reducible refine Ext.al ?_ _ | with_reducible refine Ext.dr ?_ | with_reducible refine Ext.st ?_ (by simp) _ | with_reducible refine Ext.tr ?_ (by assumption)))⟩
theorem poss_no_c (gs : List Ga) (x lev f t : Int) (w : World) (A : Option Addr) (c : Nat) (hl : gs.length ≤ 1000) (hc : gs.length ≤ c) (hA : Row 4 encG w A gs) (hM : Marks w gs) (h0 : viewE gs x f t ≠ 0) :
    Calls Try.prog 32 #[.slice A gs.length c, .int .i64 x, .int .i64 lev, .agg #[.int .i64 f, .int .i64 t]] w
      fun e w' => e = .returned (.tuple #[.slice none 0 0, .int .i64 (viewE gs x f t)]) ∧ Ext w w' := by
  have HC := Lib.hid (fun F w' (hw : Ext w w') => win_no_c gs x f t F w' A c hl hc (hA.ext hw) (hM.ext hw) h0)
  generalize viewE gs x f t = r at *
  clear h0
  go_enter Try.func32, Try.ntmps32
  go_wp2_with (first | (go_at_call 75; with_reducible refine Calls.mono (HC.out _ _ (by (repeat (first | with_reducible exact Ext.rfl' _ | with_reducible assumption | with_reducible refine Ext.al ?_ _ | with_reducible refine Ext.dr ?_ | with_reducible refine Ext.st ?_ (by simp) _ | with_reducible refine Ext.tr ?_ (by assumption))))) ?_; rintro e w1 ⟨rfl, hb⟩; have hc := hb.ccell; have hf := hb.frz; have hs := hb.sz; (try simp at hs); (try have hs0 := hs w.heap.size (by omega)); (try have hs1 := hs (w.heap.size + 1) (by omega)); (try have hs2 := hs (w.heap.size + 1 + 1) (by omega)); (try have hs3 := hs (w.heap.size + 1 + 1 + 1) (by omega))))
  refine bodyPost_ret (v := .tuple #[.slice none 0 0, .int .i64 r]) (by simp [results, Try.results32, go_sem]) rfl ⟨rfl, by (repeat (first | with_reducible exact Ext.rfl' _ | with_reducible assumption | with_reducible refine Ext.al ?_ _ | with_reducible refine Ext.dr ?_ | with_reducible refine Ext.st ?_ (by simp) _ | with_reducible refine Ext.tr ?_ (by assumption)))⟩
theorem sure_c (gs : List Ga) (x lev f : Int) (d : Nat) (V : Int → Int × Int × Bool) (w : World) (A : Option Addr) (c : Nat) (hl : gs.length ≤ 1000) (hc : gs.length ≤ c) (hA : Row 4 encG w A gs) (hM : Marks w gs) (h0 : viewE gs x f (f + d) = 0) (hV : ∀ m, IsLV gs x m (V m)) :
    Calls Try.prog 31 #[.slice A gs.length c, .int .i64 x, .int .i64 lev, .agg #[.int .i64 f, .int .i64 (f + d)]] w
      fun e w' => ∃ A' c', e = .returned (.tuple #[.slice A' (winL (gS V lev) f (d + 1)).length c', .int .i64 0]) ∧ Row 2 encP w' A' (winL (gS V lev) f (d + 1)) ∧ Ext w w' := by
  have HW := Lib.hid (fun n w' (hw : Ext w w') hn hz => winS_c gs x f lev d n V w' A c hl hc (hA.ext hw) (hM.ext hw) h0 hV hn hz)
  generalize winL (gS V lev) f (d + 1) = L at *
  clear h0 hV
  go_enter Try.func31, Try.ntmps31
  go_wp2_with (first | (go_at_call 75; with_reducible refine Calls.mono (HW.out _ _ (by (repeat (first | with_reducible exact Ext.rfl' _ | with_reducible assumption | with_reducible refine Ext.al ?_ _ | with_reducible refine Ext.dr ?_ | with_reducible refine Ext.st ?_ (by simp) _ | with_reducible refine Ext.tr ?_ (by assumption)))) (by simp [World.cell?_alloc_past, go_sem]) (by simp; omega)) ?_; rintro e w1 ⟨A', c', rfl, hr, hb⟩))
  exact bodyPost_ret (v := .tuple #[.slice A' L.length c', .int .i64 0]) (by simp [results, Try.results31, go_sem]) rfl ⟨A', c', rfl, hr, by (repeat (first | with_reducible exact Ext.rfl' _ | with_reducible assumption | with_reducible refine Ext.al ?_ _ | with_reducible refine Ext.dr ?_ | with_reducible refine Ext.st ?_ (by simp) _ | with_reducible refine Ext.tr ?_ (by assumption)))⟩
theorem poss_c (gs : List Ga) (x lev f : Int) (d : Nat) (V : Int → Int × Int × Bool) (w : World) (A : Option Addr) (c : Nat) (hl : gs.length ≤ 1000) (hc : gs.length ≤ c) (hA : Row 4 encG w A gs) (hM : Marks w gs) (h0 : viewE gs x f (f + d) = 0) (hV : ∀ m, IsLV gs x m (V m)) :
    Calls Try.prog 32 #[.slice A gs.length c, .int .i64 x, .int .i64 lev, .agg #[.int .i64 f, .int .i64 (f + d)]] w
      fun e w' => ∃ A' c', e = .returned (.tuple #[.slice A' (winL (gP V lev) f (d + 1)).length c', .int .i64 0]) ∧ Row 2 encP w' A' (winL (gP V lev) f (d + 1)) ∧ Ext w w' := by
  have HW := Lib.hid (fun n w' (hw : Ext w w') hn hz => winP_c gs x f lev d n V w' A c hl hc (hA.ext hw) (hM.ext hw) h0 hV hn hz)
  generalize winL (gP V lev) f (d + 1) = L at *
  clear h0 hV
  go_enter Try.func32, Try.ntmps32
  go_wp2_with (first | (go_at_call 75; with_reducible refine Calls.mono (HW.out _ _ (by (repeat (first | with_reducible exact Ext.rfl' _ | with_reducible assumption | with_reducible refine Ext.al ?_ _ | with_reducible refine Ext.dr ?_ | with_reducible refine Ext.st ?_ (by simp) _ | with_reducible refine Ext.tr ?_ (by assumption)))) (by simp [World.cell?_alloc_past, go_sem]) (by simp; omega)) ?_; rintro e w1 ⟨A', c', rfl, hr, hb⟩))
  exact bodyPost_ret (v := .tuple #[.slice A' L.length c', .int .i64 0]) (by simp [results, Try.results32, go_sem]) rfl ⟨A', c', rfl, hr, by (repeat (first | with_reducible exact Ext.rfl' _ | with_reducible assumption | with_reducible refine Ext.al ?_ _ | with_reducible refine Ext.dr ?_ | with_reducible refine Ext.st ?_ (by simp) _ | with_reducible refine Ext.tr ?_ (by assumption)))⟩
theorem first_no_c (gs : List Ga) (x lev f t : Int) (w : World) (A : Option Addr) (c : Nat) (hl : gs.length ≤ 1000) (hc : gs.length ≤ c) (hA : Row 4 encG w A gs) (hM : Marks w gs) (h0 : viewE gs x f t ≠ 0) :
    Calls Try.prog 33 #[.slice A gs.length c, .int .i64 x, .int .i64 lev, .agg #[.int .i64 f, .int .i64 t]] w
      fun e w' => e = .returned (.tuple #[.int .i64 0, .int .i64 (viewE gs x f t)]) ∧ Ext w w' := by
  have HC := Lib.hid (fun w' (hw : Ext w w') => sure_no_c gs x lev f t w' A c hl hc (hA.ext hw) (hM.ext hw) h0)
  generalize viewE gs x f t = r at *
  have h' : (r == 0) = false := by simp [h0]
  go_enter Try.func33, Try.ntmps33
  go_wp2_with (first | (go_at_call 31; with_reducible refine Calls.mono (HC.out _ (by (repeat (first | with_reducible exact Ext.rfl' _ | with_reducible assumption | with_reducible refine Ext.al ?_ _ | with_reducible refine Ext.dr ?_ | with_reducible refine Ext.st ?_ (by simp) _ | with_reducible refine Ext.tr ?_ (by assumption))))) ?_; rintro e w1 ⟨rfl, hb⟩; have hc := hb.ccell; have hf := hb.frz; have hs := hb.sz; (try simp at hs); (try have hs0 := hs w.heap.size (by omega)); (try have hs1 := hs (w.heap.size + 1) (by omega)); (try have hs2 := hs (w.heap.size + 1 + 1) (by omega)); (try have hs3 := hs (w.heap.size + 1 + 1 + 1) (by omega))))
  refine bodyPost_ret (v := .tuple #[.int .i64 0, .int .i64 r]) (by simp [results, Try.results33, go_sem]) rfl ⟨rfl, by (repeat (first | with_reducible exact Ext.rfl' _ | with_reducible assumption | with_reducible refine Ext.al ?_ _ | with_reducible refine Ext.dr ?_ | with_reducible refine Ext.st ?_ (by simp) _ | with_reducible refine Ext.tr ?_ (by assumption)))⟩
theorem first_c (gs : List Ga) (x lev f : Int) (d : Nat) (V : Int → Int × Int × Bool) (w : World) (A : Option Addr) (c : Nat) (hl : gs.length ≤ 1000) (hc : gs.length ≤ c) (hA : Row 4 encG w A gs) (hM : Marks w gs) (h0 : viewE gs x f (f + d) = 0) (hV : ∀ m, IsLV gs x m (V m)) :
    Calls Try.prog 33 #[.slice A gs.length c, .int .i64 x, .int .i64 lev, .agg #[.int .i64 f, .int .i64 (f + d)]] w
      fun e w' => e = .returned (if (winL (gS V lev) f (d + 1)).length = 0 then .tuple #[.int .i64 0, .int .i64 11] else .tuple #[.int .i64 (gt (winL (gS V lev) f (d + 1)) 0).x, .int .i64 0]) ∧ Ext w w' := by
  have HW := Lib.hid (fun w' (hw : Ext w w') => sure_c gs x lev f d V w' A c hl hc (hA.ext hw) (hM.ext hw) h0 hV)
  generalize winL (gS V lev) f (d + 1) = L at *
  clear h0 hV
  rcases Nat.eq_zero_or_pos L.length with hz | hz
  · rw [if_pos hz]
    rw [hz] at HW
    go_enter Try.func33, Try.ntmps33
    go_wp2_with (first | (go_at_call 31; with_reducible refine Calls.mono (HW.out _ (by (repeat (first | with_reducible exact Ext.rfl' _ | with_reducible assumption | with_reducible refine Ext.al ?_ _ | with_reducible refine Ext.dr ?_ | with_reducible refine Ext.st ?_ (by simp) _ | with_reducible refine Ext.tr ?_ (by assumption))))) ?_; rintro e w1 ⟨A', c', rfl, hr, hb⟩))
    exact bodyPost_ret (v := .tuple #[.int .i64 0, .int .i64 11]) (by simp [results, Try.results33, go_sem]) rfl ⟨rfl, by (repeat (first | with_reducible exact Ext.rfl' _ | with_reducible assumption | with_reducible refine Ext.al ?_ _ | with_reducible refine Ext.dr ?_ | with_reducible refine Ext.st ?_ (by simp) _ | with_reducible refine Ext.tr ?_ (by assumption)))⟩
  · rw [if_neg (by omega)]
    have hg0 := gt_lt L 0 hz
    rw [hg0]
    have hnz : ((L.length : Int) == 0) = false := beq_eq_false_iff_ne.2 (by omega)
    have hzi : 0 < (L.length : Int) := by omega
    have hnz2 : (L.length = 0) = False := eq_false (by omega)
    go_enter Try.func33, Try.ntmps33
    go_wp2_with (first | (go_at_call 31; with_reducible refine Calls.mono (HW.out _ (by (repeat (first | with_reducible exact Ext.rfl' _ | with_reducible assumption | with_reducible refine Ext.al ?_ _ | with_reducible refine Ext.dr ?_ | with_reducible refine Ext.st ?_ (by simp) _ | with_reducible refine Ext.tr ?_ (by assumption))))) ?_; rintro e w1 ⟨A', c', rfl, hr, hb⟩; obtain ⟨b, off, rfl, hb0, hcell⟩ := hr.p2 hz; obtain ⟨c1, c2⟩ := hcell _ (Ext.rfl' _); rw [Nat.zero_mul, Nat.add_zero] at c1 c2))
    exact bodyPost_ret (v := .tuple #[.int .i64 L[0].x, .int .i64 0]) (by simp [results, Try.results33, go_sem]) rfl ⟨rfl, by (repeat (first | with_reducible exact Ext.rfl' _ | with_reducible assumption | with_reducible refine Ext.al ?_ _ | with_reducible refine Ext.dr ?_ | with_reducible refine Ext.st ?_ (by simp) _ | with_reducible refine Ext.tr ?_ (by assumption)))⟩
/-- The first longest one of the first k windows. -/
def lgL (l : List Pt) : Nat → Pt
  | 0 => gt l 0
  | k + 1 => if (lgL l k).y - (lgL l k).x < (gt l k).y - (gt l k).x then gt l k else lgL l k
theorem lgL_mem (l : List Pt) (h : 0 < l.length) : ∀ k, k ≤ l.length → lgL l k ∈ l
  | 0, _ => by rw [lgL, gt_lt l 0 h]; exact List.getElem_mem h
  | k + 1, hk => by
    rw [lgL]
    split
    · rw [gt_lt l k (by omega)]; exact List.getElem_mem _
    · exact lgL_mem l h k (by omega)
theorem lgL_one (l : List Pt) : lgL l 1 = gt l 0 := by rw [lgL, lgL]; split <;> rfl
/-- What holds of windows of a view. -/
def WinOk (l : List Pt) : Prop := ∀ p ∈ l, 0 ≤ p.x ∧ p.x ≤ p.y ∧ p.y ≤ 1000000
theorem winL_ok {G : Int → Bool} {f : Int} {d : Nat} (h0 : 0 ≤ f) (h1 : f + (d : Int) ≤ 1000000) : WinOk (winL G f (d + 1)) := by
  intro p hp
  obtain ⟨a, b, c, _⟩ := winL_mem hp
  omega
theorem longest_no_c (gs : List Ga) (x lev f t : Int) (w : World) (A : Option Addr) (c : Nat) (hl : gs.length ≤ 1000) (hc : gs.length ≤ c) (hA : Row 4 encG w A gs) (hM : Marks w gs) (h0 : viewE gs x f t ≠ 0) :
    Calls Try.prog 34 #[.slice A gs.length c, .int .i64 x, .int .i64 lev, .agg #[.int .i64 f, .int .i64 t]] w
      fun e w' => e = .returned (.tuple #[.agg #[.int .i64 0, .int .i64 0], .int .i64 (viewE gs x f t)]) ∧ Ext w w' := by
  have HC := Lib.hid (fun w' (hw : Ext w w') => sure_no_c gs x lev f t w' A c hl hc (hA.ext hw) (hM.ext hw) h0)
  generalize viewE gs x f t = r at *
  have h' : (r == 0) = false := by simp [h0]
  go_enter Try.func34, Try.ntmps34
  go_wp2_with (first | (go_at_call 31; with_reducible refine Calls.mono (HC.out _ (by (repeat (first | with_reducible exact Ext.rfl' _ | with_reducible assumption | with_reducible refine Ext.al ?_ _ | with_reducible refine Ext.dr ?_ | with_reducible refine Ext.st ?_ (by simp) _ | with_reducible refine Ext.tr ?_ (by assumption))))) ?_; rintro e w1 ⟨rfl, hb⟩; have hc := hb.ccell; have hf := hb.frz; have hs := hb.sz; (try simp at hs); (try have hs0 := hs w.heap.size (by omega)); (try have hs1 := hs (w.heap.size + 1) (by omega)); (try have hs2 := hs (w.heap.size + 1 + 1) (by omega)); (try have hs3 := hs (w.heap.size + 1 + 1 + 1) (by omega))))
  have hE : Ext w w1 := by (repeat (first | with_reducible exact Ext.rfl' _ | with_reducible assumption | with_reducible refine Ext.al ?_ _ | with_reducible refine Ext.dr ?_ | with_reducible refine Ext.st ?_ (by simp) _ | with_reducible refine Ext.tr ?_ (by assumption)))
  have kz : Two w1 (w.heap.size + 1) 0 0 := by refine ⟨?_, ?_⟩ <;> simp [*, go_sem]
  have hS2 := Two.store (w := w1) (b := w.heap.size + 1) kz (0) (0)
  have hX2 := Ext.store2 (b := w.heap.size + 1) hE (by omega) (0) (0)
  show bodyPost _ _ _ _ _ (st2 w1 (w.heap.size + 1) (0) (0))
  generalize st2 w1 (w.heap.size + 1) (0) (0) = W6 at hS2 hX2 ⊢
  obtain ⟨s0, s1⟩ := hS2
  refine bodyPost_ret (v := .tuple #[.agg #[.int .i64 0, .int .i64 0], .int .i64 r]) (by simp [results, Try.results34, go_sem, s0, s1]) rfl ⟨rfl, hX2⟩
set_option maxHeartbeats 4000000 in
theorem longest_c (gs : List Ga) (x lev f : Int) (d : Nat) (V : Int → Int × Int × Bool) (w : World) (A : Option Addr) (c : Nat) (hl : gs.length ≤ 1000) (hc : gs.length ≤ c) (hA : Row 4 encG w A gs) (hM : Marks w gs) (h0 : viewE gs x f (f + d) = 0) (hV : ∀ m, IsLV gs x m (V m)) :
    Calls Try.prog 34 #[.slice A gs.length c, .int .i64 x, .int .i64 lev, .agg #[.int .i64 f, .int .i64 (f + d)]] w
      fun e w' => e = .returned (if (winL (gS V lev) f (d + 1)).length = 0 then .tuple #[.agg #[.int .i64 0, .int .i64 0], .int .i64 11] else .tuple #[.agg #[.int .i64 (lgL (winL (gS V lev) f (d + 1)) (winL (gS V lev) f (d + 1)).length).x, .int .i64 (lgL (winL (gS V lev) f (d + 1)) (winL (gS V lev) f (d + 1)).length).y], .int .i64 0]) ∧ Ext w w' := by
  have HW := Lib.hid (fun w' (hw : Ext w w') => sure_c gs x lev f d V w' A c hl hc (hA.ext hw) (hM.ext hw) h0 hV)
  obtain ⟨hG, hx, f0, f1, f2⟩ := view_parts h0
  have HOK := Lib.hid (winL_ok (G := gS V lev) f0 f2)
  have hLn : (winL (gS V lev) f (d + 1)).length ≤ 1000001 := by have := winL_len (gS V lev) f (d + 1); omega
  generalize winL (gS V lev) f (d + 1) = L at *
  clear h0 hV f0 f1 f2 hG hx
  rcases Nat.eq_zero_or_pos L.length with hz | hz
  · rw [if_pos hz]
    rw [hz] at HW
    go_enter Try.func34, Try.ntmps34
    go_wp2_with (first | (go_at_call 31; with_reducible refine Calls.mono (HW.out _ (by (repeat (first | with_reducible exact Ext.rfl' _ | with_reducible assumption | with_reducible refine Ext.al ?_ _ | with_reducible refine Ext.dr ?_ | with_reducible refine Ext.st ?_ (by simp) _ | with_reducible refine Ext.tr ?_ (by assumption))))) ?_; rintro e w1 ⟨A', c', rfl, hr, hb⟩; have hc := hb.ccell; have hf := hb.frz; have hs := hb.sz))
    have hE : Ext w w1 := by (repeat (first | with_reducible exact Ext.rfl' _ | with_reducible assumption | with_reducible refine Ext.al ?_ _ | with_reducible refine Ext.dr ?_ | with_reducible refine Ext.st ?_ (by simp) _ | with_reducible refine Ext.tr ?_ (by assumption)))
    have kz : Two w1 (w.heap.size + 1) 0 0 := by refine ⟨?_, ?_⟩ <;> simp [*, go_sem]
    have hS2 := Two.store (w := w1) (b := w.heap.size + 1) kz (0) (0)
    have hX2 := Ext.store2 (b := w.heap.size + 1) hE (by omega) (0) (0)
    show bodyPost _ _ _ _ _ (st2 w1 (w.heap.size + 1) (0) (0))
    generalize st2 w1 (w.heap.size + 1) (0) (0) = W6 at hS2 hX2 ⊢
    obtain ⟨s0, s1⟩ := hS2
    refine bodyPost_ret (v := .tuple #[.agg #[.int .i64 0, .int .i64 0], .int .i64 11]) (by simp [results, Try.results34, go_sem, s0, s1]) rfl ⟨rfl, hX2⟩
  · rw [if_neg (by omega)]
    have hnz : ((L.length : Int) == 0) = false := beq_eq_false_iff_ne.2 (by omega)
    have hnz2 : (L.length = 0) = False := eq_false (by omega)
    have hzi : 0 < (L.length : Int) := by omega
    go_enter Try.func34, Try.ntmps34
    go_wp2_with (first | (go_at_call 31; with_reducible refine Calls.mono (HW.out _ (by (repeat (first | with_reducible exact Ext.rfl' _ | with_reducible assumption | with_reducible refine Ext.al ?_ _ | with_reducible refine Ext.dr ?_ | with_reducible refine Ext.st ?_ (by simp) _ | with_reducible refine Ext.tr ?_ (by assumption))))) ?_; rintro e w1 ⟨A', c', rfl, hr, hb⟩; have hc := hb.ccell; have hf := hb.frz; have hs := hb.sz; obtain ⟨b, off, rfl, hb0, hcell⟩ := hr.p2 hz; obtain ⟨c1, c2⟩ := hcell _ (Ext.rfl' _); rw [Nat.zero_mul, Nat.add_zero] at c1 c2))
    have hE1 : Ext w w1 := by (repeat (first | with_reducible exact Ext.rfl' _ | with_reducible assumption | with_reducible refine Ext.al ?_ _ | with_reducible refine Ext.dr ?_ | with_reducible refine Ext.st ?_ (by simp) _ | with_reducible refine Ext.tr ?_ (by assumption)))
    have kp : Two w1 w.heap.size f (f + d) := by refine ⟨?_, ?_⟩ <;> simp [*, go_sem]
    have kz : Two w1 (w.heap.size + 1) 0 0 := by refine ⟨?_, ?_⟩ <;> simp [*, go_sem]
    have fz : ∀ o, w1.frozen? ⟨w.heap.size + 1, o, none⟩ = false := by intro o; simp [*, go_sem]
    have z1 : w.heap.size + 1 < w1.heap.size := hs _ (by simp)
    have z0 : w.heap.size < w1.heap.size := by omega
    have hL0 : lgL L 0 = L[0] := gt_lt L 0 hz
    rw [← hL0] at *
    clear hb hc hf hs
    have hE3 : Ext w1 (w1.alloc (.cells #[.int .i64 (lgL L 0).x, .int .i64 (lgL L 0).y] 49)) := by (repeat (first | with_reducible exact Ext.rfl' _ | with_reducible assumption | with_reducible refine Ext.al ?_ _ | with_reducible refine Ext.dr ?_ | with_reducible refine Ext.st ?_ (by simp) _ | with_reducible refine Ext.tr ?_ (by assumption)))
    have ko : Two (w1.alloc (.cells #[.int .i64 (lgL L 0).x, .int .i64 (lgL L 0).y] 49)) w1.heap.size (lgL L 0).x (lgL L 0).y := by refine ⟨?_, ?_⟩ <;> simp [go_sem]
    have fo : ∀ o, (w1.alloc (.cells #[.int .i64 (lgL L 0).x, .int .i64 (lgL L 0).y] 49)).frozen? ⟨w1.heap.size, o, none⟩ = false := by intro o; simp [go_sem]
    have zo : w1.heap.size < (w1.alloc (.cells #[.int .i64 (lgL L 0).x, .int .i64 (lgL L 0).y] 49)).heap.size := by simp
    generalize w1.alloc (.cells #[.int .i64 (lgL L 0).x, .int .i64 (lgL L 0).y] 49) = wp at *
    have Hp : SpW w wp w1.heap.size f (f + d) (lgL L 0).x (lgL L 0).y :=
      ⟨hE1.tr hE3, ⟨(hE3.ccell _ 0 z0).trans kp.1, (hE3.ccell _ 1 z0).trans kp.2⟩, ⟨(hE3.ccell _ 0 z1).trans kz.1, (hE3.ccell _ 1 z1).trans kz.2⟩, ko, fun o => (hE3.frz _ o z1).trans (fz o), fo, hE3.sz _ z1, zo⟩
    clear kp kz fz ko fo zo z0 c1 c2
    have HWR0 := Lib.hid hr
    go_loopw [36] (fun v wr => Ext w1 wr ∧ ∃ k : Nat, k ≤ L.length ∧ v = .int .i64 k ∧ SpW w wr w1.heap.size f (f + d) (lgL L k).x (lgL L k).y) (fun v _ => L.length - (intOf v).toNat)
    case atStart => exact ⟨hE3, 0, Nat.zero_le _, rfl, Hp⟩
    case round =>
      clear Hp
      obtain ⟨hX, k, hk, rfl, hW⟩ := hrel
      obtain ⟨hE, ⟨p0, p1⟩, ⟨q0, q1⟩, ⟨o0, o1⟩, fq, fo, zq, zo⟩ := hW
      have HWR := Lib.hid (show SpW w wr w1.heap.size f (f + d) (lgL L k).x (lgL L k).y from ⟨hE, ⟨p0, p1⟩, ⟨q0, q1⟩, ⟨o0, o1⟩, fq, fo, zq, zo⟩)
      have zp : w.heap.size < wr.heap.size := by omega
      by_cases hlt : k < L.length
      · obtain ⟨b2, off2, hbo, _, hc2⟩ := hr.p2 hlt
        injection hbo with hbo
        injection hbo with hbo1 hbo2
        subst hbo1 hbo2
        obtain ⟨c1, c2⟩ := hc2 _ hX
        have hbz := hX.sz _ hb0
        obtain ⟨m0, m1, m2⟩ := HOK.out _ (List.getElem_mem hlt)
        obtain ⟨n0, n1, n2⟩ := HOK.out _ (lgL_mem L hz k hk)
        have hgk := gt_lt L k hlt
        have hnx : lgL L (k + 1) = if (lgL L k).y - (lgL L k).x < L[k].y - L[k].x then L[k] else lgL L k := by rw [← hgk]; rfl
        clear hc2 hgk hcell
        generalize L[k] = m at *
        by_cases hq : (lgL L k).y - (lgL L k).x < m.y - m.x
        · rw [if_pos hq] at hnx
          have HN := Lib.hid hnx
          clear hnx
          generalize lgL L k = o at *
          obtain ⟨mx, my⟩ := m
          obtain ⟨ox, oy⟩ := o
          dsimp only at *
          go_wp2
          refine ⟨⟨?_, k + 1, by omega, by go_num, ?_⟩, by simp [intOf]; omega⟩
          rotate_left
          · rw [HN.out]
            exact (HWR.out.set z1 _ _).grow (Ext.al (Ext.rfl' _) _)
          · exact Ext.al (Ext.st (Ext.st hX (by show w1.heap.size ≤ w1.heap.size; omega) _) (by show w1.heap.size ≤ w1.heap.size; omega) _) _
        · rw [if_neg hq] at hnx
          have HN := Lib.hid hnx
          clear hnx
          generalize lgL L k = o at *
          obtain ⟨mx, my⟩ := m
          obtain ⟨ox, oy⟩ := o
          dsimp only at *
          go_wp2
          refine ⟨⟨Ext.al hX _, k + 1, by omega, by go_num, ?_⟩, by simp [intOf]; omega⟩
          rw [HN.out]
          exact HWR.out.grow (Ext.al (Ext.rfl' _) _)
      · have hkl : k = L.length := by omega
        subst hkl
        go_wp2
        have kz := HWR.out.res
        have hS2 := Two.store (w := wr) (b := w.heap.size + 1) kz ((lgL L L.length).x) ((lgL L L.length).y)
        have hX2 := Ext.store2 (b := w.heap.size + 1) hE (by omega) ((lgL L L.length).x) ((lgL L L.length).y)
        show bodyPost _ _ _ _ _ (st2 wr (w.heap.size + 1) ((lgL L L.length).x) ((lgL L L.length).y))
        generalize st2 wr (w.heap.size + 1) ((lgL L L.length).x) ((lgL L L.length).y) = W6 at hS2 hX2 ⊢
        obtain ⟨s0, s1⟩ := hS2
        refine bodyPost_ret (v := .tuple #[.agg #[.int .i64 (lgL L L.length).x, .int .i64 (lgL L L.length).y], .int .i64 0]) (by simp [results, Try.results34, go_sem, s0, s1]) rfl ⟨rfl, hX2⟩
/-- The world of the loop of the reference's Longest. -/
structure LgW (w wr : World) (lo hi : Int) : Prop where
  ext : Ext w wr
  res : Two wr w.heap.size 0 0
  out : Two wr (w.heap.size + 1) lo hi
  fres : ∀ o, wr.frozen? ⟨w.heap.size, o, none⟩ = false
  fout : ∀ o, wr.frozen? ⟨w.heap.size + 1, o, none⟩ = false
  zout : w.heap.size + 1 < wr.heap.size
theorem LgW.grow {w wr w' : World} {lo hi : Int} (h : LgW w wr lo hi) (hX : Ext wr w') : LgW w w' lo hi := by
  have zo := h.zout
  have zr : w.heap.size < wr.heap.size := by omega
  exact ⟨h.ext.tr hX, ⟨(hX.ccell _ 0 zr).trans h.res.1, (hX.ccell _ 1 zr).trans h.res.2⟩, ⟨(hX.ccell _ 0 zo).trans h.out.1, (hX.ccell _ 1 zo).trans h.out.2⟩, fun o => (hX.frz _ o zr).trans (h.fres o), fun o => (hX.frz _ o zo).trans (h.fout o), hX.sz _ zo⟩
theorem LgW.set {w wr : World} {lo hi : Int} (h : LgW w wr lo hi) (lo' hi' : Int) : LgW w (st2 wr (w.heap.size + 1) lo' hi') lo' hi' := by
  obtain ⟨hE, ⟨q0, q1⟩, ⟨o0, o1⟩, fq, fo, zo⟩ := h
  have n5 : w.heap.size ≠ w.heap.size + 1 := by omega
  unfold st2
  refine ⟨Ext.st (Ext.st hE (by show w.heap.size ≤ w.heap.size + 1; omega) _) (by show w.heap.size ≤ w.heap.size + 1; omega) _, ⟨?_, ?_⟩, ⟨?_, ?_⟩, fun o => ?_, fun o => ?_, ?_⟩
  all_goals first | (simp [go_sem, *]; done) | (simp; omega)
set_option maxHeartbeats 4000000 in
theorem rlongest_c (L : List Pt) (w : World) (A : Option Addr) (c : Nat) (hz : 0 < L.length) (hLn : L.length ≤ 1000001) (hOK : WinOk L) (hr : Row 2 encP w A L) :
    Calls Try.prog 37 #[.slice A L.length c] w
      fun e w' => e = .returned (.agg #[.int .i64 (lgL L L.length).x, .int .i64 (lgL L L.length).y]) ∧ Ext w w' := by
  have HOK := Lib.hid hOK
  have hzi : 0 < (L.length : Int) := by omega
  obtain ⟨b, off, rfl, hb0, hcell⟩ := hr.p2 hz
  obtain ⟨c1, c2⟩ := hcell _ (Ext.rfl' _)
  rw [Nat.zero_mul, Nat.add_zero] at c1 c2
  clear hOK
  go_enter Try.func37, Try.ntmps37
  go_wp2
  have hL0 : lgL L 1 = L[0] := (lgL_one L).trans (gt_lt L 0 hz)
  rw [← hL0] at *
  have Hp : LgW w ((w.alloc (.cells #[.int .i64 0, .int .i64 0] 49)).alloc (.cells #[.int .i64 (lgL L 1).x, .int .i64 (lgL L 1).y] 49)) (lgL L 1).x (lgL L 1).y := by
    refine ⟨by (repeat (first | with_reducible exact Ext.rfl' _ | with_reducible assumption | with_reducible refine Ext.al ?_ _ | with_reducible refine Ext.dr ?_ | with_reducible refine Ext.st ?_ (by simp) _ | with_reducible refine Ext.tr ?_ (by assumption))), ⟨?_, ?_⟩, ⟨?_, ?_⟩, fun o => ?_, fun o => ?_, ?_⟩
    all_goals first | (simp [World.cell?_alloc_past, World.cell?_alloc_new, go_sem]; done) | (simp [go_sem]; done) | (simp; done) | (simp; omega)
  generalize (w.alloc (.cells #[.int .i64 0, .int .i64 0] 49)).alloc (.cells #[.int .i64 (lgL L 1).x, .int .i64 (lgL L 1).y] 49) = wp at *
  clear c1 c2
  go_loopw [4] (fun v wr => ∃ k : Nat, 0 < k ∧ k ≤ L.length ∧ v = .int .i64 k ∧ LgW w wr (lgL L k).x (lgL L k).y) (fun v _ => L.length - (intOf v).toNat)
  case atStart => exact ⟨1, by omega, by omega, rfl, Hp⟩
  case round =>
    clear Hp
    obtain ⟨k, hk0, hk, rfl, hW⟩ := hrel
    obtain ⟨hE, ⟨q0, q1⟩, ⟨o0, o1⟩, fq, fo, zo⟩ := hW
    have HWR := Lib.hid (show LgW w wr (lgL L k).x (lgL L k).y from ⟨hE, ⟨q0, q1⟩, ⟨o0, o1⟩, fq, fo, zo⟩)
    by_cases hlt : k < L.length
    · obtain ⟨b2, off2, hbo, _, hc2⟩ := hr.p2 hlt
      injection hbo with hbo
      injection hbo with hbo1 hbo2
      subst hbo1 hbo2
      obtain ⟨c1, c2⟩ := hc2 _ hE
      have hbz := hE.sz _ hb0
      obtain ⟨m0, m1, m2⟩ := HOK.out _ (List.getElem_mem hlt)
      obtain ⟨n0, n1, n2⟩ := HOK.out _ (lgL_mem L hz k hk)
      have hgk := gt_lt L k hlt
      have hnx : lgL L (k + 1) = if (lgL L k).y - (lgL L k).x < L[k].y - L[k].x then L[k] else lgL L k := by rw [← hgk]; rfl
      clear hc2 hgk hcell
      generalize L[k] = m at *
      by_cases hq : (lgL L k).y - (lgL L k).x < m.y - m.x
      · rw [if_pos hq] at hnx
        have HN := Lib.hid hnx
        clear hnx
        generalize lgL L k = o at *
        obtain ⟨mx, my⟩ := m
        obtain ⟨ox, oy⟩ := o
        dsimp only at *
        go_upto_region 5 with fail
        refine region_grow (by kernel_rfl) (by kernel_rfl) ?_
        repeat (first | go_big_quiet_step (first  | fail) | quiet_step (first  | fail))
        refine wpQuiet_nil ?_
        intro w1 hb
        have hc := hb.ccell
        have hf := hb.frz
        have hs := hb.sz
        (try simp at hs); (try have hs0 := hs w.heap.size (by omega)); (try have hs1 := hs (w.heap.size + 1) (by omega)); (try have hs2 := hs (w.heap.size + 1 + 1) (by omega)); (try have hs3 := hs (w.heap.size + 1 + 1 + 1) (by omega))
        (try simp only [IntWalk.i64_left])
        go_wp2
        refine ⟨⟨k + 1, by omega, by omega, by go_num, ?_⟩, by simp [intOf]; omega⟩
        rw [HN.out]
        exact (HWR.out.grow hb).set _ _
      · rw [if_neg hq] at hnx
        have HN := Lib.hid hnx
        clear hnx
        generalize lgL L k = o at *
        obtain ⟨mx, my⟩ := m
        obtain ⟨ox, oy⟩ := o
        dsimp only at *
        go_upto_region 5 with fail
        refine region_grow (by kernel_rfl) (by kernel_rfl) ?_
        repeat (first | go_big_quiet_step (first  | fail) | quiet_step (first  | fail))
        refine wpQuiet_nil ?_
        intro w1 hb
        have hc := hb.ccell
        have hf := hb.frz
        have hs := hb.sz
        (try simp at hs); (try have hs0 := hs w.heap.size (by omega)); (try have hs1 := hs (w.heap.size + 1) (by omega)); (try have hs2 := hs (w.heap.size + 1 + 1) (by omega)); (try have hs3 := hs (w.heap.size + 1 + 1 + 1) (by omega))
        (try simp only [IntWalk.i64_left])
        go_wp2
        refine ⟨⟨k + 1, by omega, by omega, by go_num, ?_⟩, by simp [intOf]; omega⟩
        rw [HN.out]
        exact HWR.out.grow hb
    · have hkl : k = L.length := by omega
      subst hkl
      go_wp2
      have kz := HWR.out.res
      have hS2 := Two.store (w := wr) (b := w.heap.size) kz ((lgL L L.length).x) ((lgL L L.length).y)
      have hX2 := Ext.store2 (b := w.heap.size) hE (by omega) ((lgL L L.length).x) ((lgL L L.length).y)
      show bodyPost _ _ _ _ _ (st2 wr (w.heap.size) ((lgL L L.length).x) ((lgL L L.length).y))
      generalize st2 wr (w.heap.size) ((lgL L L.length).x) ((lgL L L.length).y) = W6 at hS2 hX2 ⊢
      obtain ⟨s0, s1⟩ := hS2
      refine bodyPost_ret (v := .agg #[.int .i64 (lgL L L.length).x, .int .i64 (lgL L L.length).y]) (by simp [results, Try.results37, go_sem, s0, s1]) rfl ⟨rfl, hX2⟩
end Go.Proofs.Ytblmljcgjibfgaa
