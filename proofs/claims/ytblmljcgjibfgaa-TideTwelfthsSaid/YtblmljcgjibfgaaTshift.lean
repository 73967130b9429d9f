/- The contract of Shift. -/
import Derived.Test.YtblmljcgjibfgaaTown
namespace Go.Proofs.Ytblmljcgjibfgaa
open Go Go.RowKit Go.IntWalk Go.Shelf

theorem cloneNil_c (w : World) (A : Option Addr) (c : Nat) :
    Calls Try.prog 85 #[.slice A 0 c] w
      fun e w' => ∃ A' c', e = .returned (.slice A' 0 c') ∧ Ext w w' := by
  cases A with
  | none =>
    refine Calls.mono (show Calls Try.prog 85 _ w _ from AnyE.slices_Clone_nil Try.cloneP 0 c w) ?_
    rintro e w' ⟨he, rfl⟩
    exact ⟨none, 0, he, Ext.rfl' _⟩
  | some a =>
    have hq := fun (w : World) (a : Option Addr) (n c n' c' : Nat) => Lib.run_eql_slice_nil (P := Try.prog) w _ _ a n c n' c' Try.underlying22
    go_enter Try.func85, Try.ntmps85
    go_wp2
    go_ret
    exact ⟨_, _, rfl, by (repeat (first | with_reducible exact Ext.rfl' _ | with_reducible assumption | with_reducible refine Ext.al ?_ _ | with_reducible refine Ext.dr ?_ | with_reducible refine Ext.st ?_ (by simp) _ | with_reducible refine Ext.tr ?_ (by assumption)))⟩
def sh (by_ : Int) (p : Pt) : Pt := ⟨p.x, p.y + by_⟩
def shiftL (by_ : Int) (l : List Pt) : List Pt := l.map (sh by_)
def midL (by_ : Int) (l : List Pt) (k : Nat) : List Pt := (l.take k).map (sh by_) ++ l.drop k
theorem midL_zero (by_ : Int) (l : List Pt) : midL by_ l 0 = l := by simp [midL]
theorem midL_all (by_ : Int) (l : List Pt) : midL by_ l l.length = shiftL by_ l := by simp [midL, shiftL]
theorem midL_len (by_ : Int) (l : List Pt) (k : Nat) (hk : k ≤ l.length) : (midL by_ l k).length = l.length := by simp [midL]; omega
theorem midL_get (by_ : Int) (l : List Pt) (k : Nat) (hk : k < l.length) : (midL by_ l k)[k]'(by rw [midL_len by_ l k (by omega)]; exact hk) = l[k] := by
  unfold midL
  rw [List.getElem_append_right (by simp; omega)]
  simp [Nat.min_eq_left (show k ≤ l.length by omega)]
theorem midL_set (by_ : Int) (l : List Pt) (k : Nat) (hk : k < l.length) : (midL by_ l k).set k ⟨l[k].x, l[k].y + by_⟩ = midL by_ l (k + 1) := by
  unfold midL
  have h1 : ((l.take k).map (sh by_)).length = k := by simp; omega
  rw [List.set_append_right _ _ (by rw [h1]; exact Nat.le_refl k), h1, Nat.sub_self, List.drop_eq_getElem_cons hk, List.set_cons_zero, List.take_succ_eq_append_getElem hk, List.map_append, List.append_assoc]
  rfl
theorem flat_set : ∀ (l : List Pt) (i : Nat) (hi : i < l.length) (y : Int), (l.flatMap encP).set (i * 2 + 1) (.int .i64 y) = (l.set i ⟨l[i].x, y⟩).flatMap encP
  | p :: l, 0, _, y => by simp [encP]
  | p :: l, i + 1, hi, y => by
    have h := flat_set l i (by simpa using hi) y
    rw [List.set_cons_succ, List.flatMap_cons, List.flatMap_cons, List.getElem_cons_succ, ← h]
    rw [List.set_append_right _ _ (by rw [encP_len]; omega), encP_len, show (i + 1) * 2 + 1 - 2 = i * 2 + 1 by omega]
theorem Own.setY {w : World} {g cap : Nat} {l : List Pt} (h : Own w g cap l) (i : Nat) (hi : i < l.length) (y : Int) : Own (w.setCell ⟨g, i * 2 + 1, none⟩ (.int .i64 y)) g cap (l.set i ⟨l[i].x, y⟩) ∧ Touch g w (w.setCell ⟨g, i * 2 + 1, none⟩ (.int .i64 y)) := by
  have h1 := (h.to_row (Nat.zero_le g)).stored (i * 2 + 1) (.int .i64 y)
  rw [flat_set l i hi y] at h1
  exact ⟨(Own.of_row (l := l.set i ⟨l[i].x, y⟩) (by simpa using h1.1)).1, h1.2⟩
def shBad (by_ : Int) (l : List Pt) : Bool := anyN (fun k => !okM (sh by_ (gt l k))) l.length
def shE (s : ByteArray) (x er : Int) (l : List Pt) (by_ : Int) : Int := if gaugeE s x er l ≠ 0 then gaugeE s x er l else if withinB by_ (-40000) 40000 = false then 2 else if shBad by_ l then 2 else 0
/-- Four cells of block b. -/
def Fo (w : World) (b : Nat) (v0 v1 v2 v3 : Value) : Prop := w.cell? ⟨b, 0, none⟩ = some v0 ∧ w.cell? ⟨b, 1, none⟩ = some v1 ∧ w.cell? ⟨b, 2, none⟩ = some v2 ∧ w.cell? ⟨b, 3, none⟩ = some v3
def st4 (w : World) (b : Nat) (v0 v1 v2 v3 : Value) : World := (((w.setCell ⟨b, 0, none⟩ v0).setCell ⟨b, 1, none⟩ v1).setCell ⟨b, 2, none⟩ v2).setCell ⟨b, 3, none⟩ v3
theorem Fo.store {w : World} {b : Nat} {u0 u1 u2 u3 : Value} (h : Fo w b u0 u1 u2 u3) (v0 v1 v2 v3 : Value) : Fo (st4 w b v0 v1 v2 v3) b v0 v1 v2 v3 := by
  obtain ⟨o0, o1, o2, o3⟩ := h
  unfold st4
  refine ⟨?_, ?_, ?_, ?_⟩ <;> simp [go_sem, o0, o1, o2, o3]
theorem Fo.all {w : World} {b : Nat} {v0 v1 v2 v3 : Value} (h : Fo w b v0 v1 v2 v3) : w.cell? ⟨b, 0, none⟩ = some v0 ∧ w.cell? ⟨b, 1, none⟩ = some v1 ∧ w.cell? ⟨b, 2, none⟩ = some v2 ∧ w.cell? ⟨b, 3, none⟩ = some v3 := h
theorem Fo.ext {w w' : World} {b : Nat} {v0 v1 v2 v3 : Value} (h : Fo w b v0 v1 v2 v3) (hw : Ext w w') (hb : b < w.heap.size) : Fo w' b v0 v1 v2 v3 :=
  ⟨(hw.ccell b 0 hb).trans h.1, (hw.ccell b 1 hb).trans h.2.1, (hw.ccell b 2 hb).trans h.2.2.1, (hw.ccell b 3 hb).trans h.2.2.2⟩
theorem Own.other {w : World} {g cap : Nat} {l : List Pt} (h : Own w g cap l) {a : Addr} (ha : g ≠ a.block) (v : Value) : Own (w.setCell a v) g cap l := by
  obtain ⟨cur, h1, h2⟩ := h
  exact ⟨cur, (Below.heap_setCell w a v g ha).trans h1, h2⟩
theorem Own.st4 {w : World} {g cap b : Nat} {l : List Pt} (h : Own w g cap l) (hb : g ≠ b) (v0 v1 v2 v3 : Value) : Own (st4 w b v0 v1 v2 v3) g cap l := by
  unfold Go.Proofs.Ytblmljcgjibfgaa.st4
  exact (((h.other (by simpa using hb) _).other (by simpa using hb) _).other (by simpa using hb) _).other (by simpa using hb) _
theorem Ext.store4 {w wr : World} {b : Nat} (h : Ext w wr) (hb : w.heap.size ≤ b) (v0 v1 v2 v3 : Value) : Ext w (st4 wr b v0 v1 v2 v3) := Ext.st (Ext.st (Ext.st (Ext.st h hb _) hb _) hb _) hb _
/-- A gauge with other marks, or the error. -/
def GaOut (s : ByteArray) (x er : Int) (L : List Pt) (E : Int) (e : Ending) (w' : World) : Prop :=
  (E = 0 ∧ ∃ A' c', e = .returned (.tuple #[.agg #[.string s, .int .i64 x, .int .i64 er, .slice A' L.length c'], .int .i64 0]) ∧ Row 2 encP w' A' L) ∨
  (E ≠ 0 ∧ e = .returned (.tuple #[.agg #[.string ⟨#[]⟩, .int .i64 0, .int .i64 0, .slice none 0 0], .int .i64 E]))
theorem trecord_c (s : ByteArray) (x er : Int) (A A' : Option Addr) (n c n' c' : Nat) (w : World) :
    Calls Try.prog 87 #[.agg #[.string s, .int .i64 x, .int .i64 er, .slice A n c], .slice A' n' c'] w fun e w' => e = .returned (.agg #[.string s, .int .i64 x, .int .i64 er, .slice A' n' c']) ∧ Ext w w' := by
  go_enter Try.func87, Try.ntmps87
  go_wp2
  refine bodyPost_ret (v := .agg #[.string s, .int .i64 x, .int .i64 er, .slice A' n' c']) (by simp [results, Try.results87, go_sem]) rfl ⟨rfl, ?_⟩
  (repeat (first | with_reducible exact Ext.rfl' _ | with_reducible assumption | with_reducible refine Ext.al ?_ _ | with_reducible refine Ext.dr ?_ | with_reducible refine Ext.st ?_ (by simp) _ | with_reducible refine Ext.tr ?_ (by assumption)))
theorem clone_any (l : List Pt) (w : World) (A : Option Addr) (c : Nat) (hl : l.length ≤ 1000) (hA : Row 2 encP w A l) :
    Calls Try.prog 85 #[.slice A l.length c] w fun e w' => ∃ A' c', e = .returned (.slice A' l.length c') ∧ Ext w w' ∧ (l = [] ∨ ∃ g, A' = some ⟨g, 0, none⟩ ∧ w.heap.size ≤ g ∧ Own w' g c' l) := by
  by_cases hn : l = []
  · subst hn
    refine Calls.mono (cloneNil_c w A c) ?_
    rintro e w' ⟨A', c', he, hb⟩
    exact ⟨A', c', he, hb, .inl rfl⟩
  · have h0 : 0 < l.length := List.length_pos_iff.2 hn
    obtain ⟨b, off, rfl, _, _⟩ := hA.addr h0
    refine Calls.mono (clone_c w b off c l (by unfold maxLen; omega) (by omega) hA h0) ?_
    rintro e w' ⟨g, cap, he, ho, hg, hb⟩
    exact ⟨_, _, he, hb, .inr ⟨g, rfl, hg, ho⟩⟩
set_option maxHeartbeats 4000000 in
theorem shift_c (s : ByteArray) (x er : Int) (l : List Pt) (by_ : Int) (w : World) (A : Option Addr) (c : Nat) (hl : l.length ≤ 1000) (hA : Row 2 encP w A l) :
    Calls Try.prog 46 #[.agg #[.string s, .int .i64 x, .int .i64 er, .slice A l.length c], .int .i64 by_] w
      fun e w' => GaOut s x er (shiftL by_ l) (shE s x er l by_) e w' ∧ Ext w w' := by
  have HC := Lib.hid (fun w' (hw : Ext w w') => checkGauge_c s x er l w' A c hl (hA.ext hw))
  unfold shE
  by_cases h0 : gaugeE s x er l = 0
  case neg =>
    rw [if_pos h0]
    generalize gaugeE s x er l = r at *
    have h' : (r == 0) = false := by simp [h0]
    go_enter Try.func46, Try.ntmps46
    go_wp2_with (first | (go_at_call 62; with_reducible refine Calls.mono (HC.out _ (by (repeat (first | with_reducible exact Ext.rfl' _ | with_reducible assumption | with_reducible refine Ext.al ?_ _ | with_reducible refine Ext.dr ?_ | with_reducible refine Ext.st ?_ (by simp) _ | with_reducible refine Ext.tr ?_ (by assumption))))) ?_; rintro e w1 ⟨rfl, hb⟩; have hc := hb.ccell; have hf := hb.frz; have hs := hb.sz; (try simp at hs); (try have hs0 := hs w.heap.size (by omega)); (try have hs1 := hs (w.heap.size + 1) (by omega)); (try have hs2 := hs (w.heap.size + 1 + 1) (by omega)); (try have hs3 := hs (w.heap.size + 1 + 1 + 1) (by omega))))
    have hE : Ext w w1 := by (repeat (first | with_reducible exact Ext.rfl' _ | with_reducible assumption | with_reducible refine Ext.al ?_ _ | with_reducible refine Ext.dr ?_ | with_reducible refine Ext.st ?_ (by simp) _ | with_reducible refine Ext.tr ?_ (by assumption)))
    have kz : Fo w1 (w.heap.size + 1) (.string ⟨#[]⟩) (.int .i64 0) (.int .i64 0) (.slice none 0 0) := by refine ⟨?_, ?_, ?_, ?_⟩ <;> simp [*, go_sem]
    have hS4 := Fo.store (w := w1) (b := w.heap.size + 1) kz (.string ⟨#[]⟩) (.int .i64 0) (.int .i64 0) (.slice none 0 0)
    have hX4 := Ext.store4 (b := w.heap.size + 1) hE (by omega) (.string ⟨#[]⟩) (.int .i64 0) (.int .i64 0) (.slice none 0 0)
    show bodyPost _ _ _ _ _ (st4 w1 (w.heap.size + 1) (.string ⟨#[]⟩) (.int .i64 0) (.int .i64 0) (.slice none 0 0))
    generalize st4 w1 (w.heap.size + 1) (.string ⟨#[]⟩) (.int .i64 0) (.int .i64 0) (.slice none 0 0) = W6 at hS4 hX4 ⊢
    obtain ⟨s0, s1, s2, s3⟩ := hS4
    refine bodyPost_ret (v := .tuple #[.agg #[.string ⟨#[]⟩, .int .i64 0, .int .i64 0, .slice none 0 0], .int .i64 r]) (by simp [results, Try.results46, go_sem, s0, s1, s2, s3]) rfl ⟨.inr ⟨h0, rfl⟩, hX4⟩
  rw [if_neg (by rw [h0]; simp)]
  rw [h0] at HC
  obtain ⟨_, _, he, hG⟩ := gaugeE_zero h0
  have HW := Lib.hid (fun w => tin_c by_ (-40000) 40000 w)
  cases hw : withinB by_ (-40000) 40000
  · rw [hw] at HW
    rw [if_pos rfl]
    go_enter Try.func46, Try.ntmps46
    go_wp2_with (first | (go_at_call 62; with_reducible refine Calls.mono (HC.out _ (by (repeat (first | with_reducible exact Ext.rfl' _ | with_reducible assumption | with_reducible refine Ext.al ?_ _ | with_reducible refine Ext.dr ?_ | with_reducible refine Ext.st ?_ (by simp) _ | with_reducible refine Ext.tr ?_ (by assumption))))) ?_; rintro e w1 ⟨rfl, hb⟩; have hc := hb.ccell; have hf := hb.frz; have hs := hb.sz; (try simp at hs); (try have hs0 := hs w.heap.size (by omega)); (try have hs1 := hs (w.heap.size + 1) (by omega)); (try have hs2 := hs (w.heap.size + 1 + 1) (by omega)); (try have hs3 := hs (w.heap.size + 1 + 1 + 1) (by omega))) | (go_at_call 84; with_reducible refine Calls.mono (HW.out _) ?_; rintro e w' ⟨rfl, rfl⟩))
    have hE : Ext w w1 := by (repeat (first | with_reducible exact Ext.rfl' _ | with_reducible assumption | with_reducible refine Ext.al ?_ _ | with_reducible refine Ext.dr ?_ | with_reducible refine Ext.st ?_ (by simp) _ | with_reducible refine Ext.tr ?_ (by assumption)))
    have kz : Fo w1 (w.heap.size + 1) (.string ⟨#[]⟩) (.int .i64 0) (.int .i64 0) (.slice none 0 0) := by refine ⟨?_, ?_, ?_, ?_⟩ <;> simp [*, go_sem]
    have hS4 := Fo.store (w := w1) (b := w.heap.size + 1) kz (.string ⟨#[]⟩) (.int .i64 0) (.int .i64 0) (.slice none 0 0)
    have hX4 := Ext.store4 (b := w.heap.size + 1) hE (by omega) (.string ⟨#[]⟩) (.int .i64 0) (.int .i64 0) (.slice none 0 0)
    show bodyPost _ _ _ _ _ (st4 w1 (w.heap.size + 1) (.string ⟨#[]⟩) (.int .i64 0) (.int .i64 0) (.slice none 0 0))
    generalize st4 w1 (w.heap.size + 1) (.string ⟨#[]⟩) (.int .i64 0) (.int .i64 0) (.slice none 0 0) = W6 at hS4 hX4 ⊢
    obtain ⟨s0, s1, s2, s3⟩ := hS4
    refine bodyPost_ret (v := .tuple #[.agg #[.string ⟨#[]⟩, .int .i64 0, .int .i64 0, .slice none 0 0], .int .i64 2]) (by simp [results, Try.results46, go_sem, s0, s1, s2, s3]) rfl ⟨.inr ⟨by decide, rfl⟩, hX4⟩
  rw [hw] at HW
  rw [if_neg (by decide)]
  obtain ⟨Z, hZ⟩ : ∃ Z : Int, (if shBad by_ l then 2 else 0) = Z := ⟨_, rfl⟩
  rw [hZ]
  have HZ := Lib.hid hZ
  clear hZ h0
  have hby : -40000 ≤ by_ ∧ by_ ≤ 40000 := by unfold withinB at hw; simpa using hw
  obtain ⟨y1, y2⟩ := hby
  clear hw
  have HRC := Lib.hid (fun w A' c' => trecord_c s x er A A' l.length c l.length c' w)
  have HCL : Hid (∀ w', Ext w w' → Calls Try.prog 85 #[.slice A l.length c] w' fun e w'' => ∃ A' c', e = .returned (.slice A' l.length c') ∧ Ext w' w'' ∧ (l = [] ∨ ∃ g, A' = some ⟨g, 0, none⟩ ∧ w'.heap.size ≤ g ∧ Own w'' g c' l)) :=
    Lib.hid (fun w' hw => clone_any l w' A c hl (hA.ext hw))
  go_enter Try.func46, Try.ntmps46
  go_wp2_with (first | (go_at_call 62; with_reducible refine Calls.mono (HC.out _ (by (repeat (first | with_reducible exact Ext.rfl' _ | with_reducible assumption | with_reducible refine Ext.al ?_ _ | with_reducible refine Ext.dr ?_ | with_reducible refine Ext.st ?_ (by simp) _ | with_reducible refine Ext.tr ?_ (by assumption))))) ?_; rintro e w1 ⟨rfl, hb⟩; have hc := hb.ccell; have hf := hb.frz; have hs := hb.sz; (try simp at hs); (try have hs0 := hs w.heap.size (by omega)); (try have hs1 := hs (w.heap.size + 1) (by omega)); (try have hs2 := hs (w.heap.size + 1 + 1) (by omega)); (try have hs3 := hs (w.heap.size + 1 + 1 + 1) (by omega))) | (go_at_call 84; with_reducible refine Calls.mono (HW.out _) ?_; rintro e w' ⟨rfl, rfl⟩) | (go_at_call 85; with_reducible refine Calls.mono (HCL.out _ (by (repeat (first | with_reducible exact Ext.rfl' _ | with_reducible assumption | with_reducible refine Ext.al ?_ _ | with_reducible refine Ext.dr ?_ | with_reducible refine Ext.st ?_ (by simp) _ | with_reducible refine Ext.tr ?_ (by assumption))))) ?_; rintro e w2 ⟨A', c', rfl, hbc, hown⟩))
  have hE1 : Ext w w1 := by (repeat (first | with_reducible exact Ext.rfl' _ | with_reducible assumption | with_reducible refine Ext.al ?_ _ | with_reducible refine Ext.dr ?_ | with_reducible refine Ext.st ?_ (by simp) _ | with_reducible refine Ext.tr ?_ (by assumption)))
  have kz : Fo w1 (w.heap.size + 1) (.string ⟨#[]⟩) (.int .i64 0) (.int .i64 0) (.slice none 0 0) := by refine ⟨?_, ?_, ?_, ?_⟩ <;> simp [*, go_sem]
  have gz : Fo w1 w.heap.size (.string s) (.int .i64 x) (.int .i64 er) (.slice A l.length c) := by refine ⟨?_, ?_, ?_, ?_⟩ <;> simp [*, go_sem]
  have fz : ∀ o, w1.frozen? ⟨w.heap.size + 1, o, none⟩ = false := by intro o; simp [*, go_sem]
  have HK := Lib.hid (And.intro hE1 (And.intro kz (And.intro gz (And.intro fz hs1))))
  clear kz gz fz hc hf hs hs0 hb HC HW HCL
  go_loopw [8, 24] (fun _ v wr => Ext w1 wr ∧ ∃ k : Nat, k ≤ l.length ∧ v = .int .i64 k ∧ Hid (anyN (fun k => !okM (sh by_ (gt l k))) k = false) ∧ (l = [] ∨ ∃ g, A' = some ⟨g, 0, none⟩ ∧ w1.heap.size ≤ g ∧ Own wr g c' (midL by_ l k))) (fun _ v _ => l.length - (intOf v).toNat)
  case atStart => exact ⟨hbc, 0, Nat.zero_le _, rfl, rfl, by rw [midL_zero]; exact hown⟩
  case round =>
    clear hown hbc
    obtain ⟨hE, k, hk, rfl, hN, hO⟩ := hrel
    have hEw : Ext w wr := hE1.tr hE
    by_cases hlt : k < l.length
    · rcases hO with h | ⟨g, rfl, hg, hO⟩
      · rw [h] at hlt; simp at hlt
      have hm := midL_len by_ l k hk
      have hkm : k < (midL by_ l k).length := by omega
      have hr := hO.row
      obtain ⟨b, off, hb, hz0, hcell⟩ := hr.p2 hkm
      injection hb with hb
      injection hb with hb1 hb2
      subst hb1 hb2
      have hc := hcell _ (Ext.rfl' wr)
      rw [midL_get by_ l k hlt, Nat.zero_add] at hc
      obtain ⟨c1, c2⟩ := hc
      have hfz := fun o => hO.frozen o
      have hS := hO.setY k hkm ((l[k]).y + by_)
      have hset := midL_set by_ l k hlt
      rw [show (⟨(midL by_ l k)[k].x, l[k].y + by_⟩ : Pt) = ⟨l[k].x, l[k].y + by_⟩ by rw [midL_get by_ l k hlt], hset] at hS
      have HS := Lib.hid hS
      have hgk := gt_lt l k hlt
      have hok := (okM_iff _).1 (hG.ok k hlt)
      rw [hgk] at hok
      obtain ⟨_, o3, o4⟩ := hok
      have HI := Lib.hid (fun r (h : okM (sh by_ (gt l k)) = r) w => inRange_c l[k].x (l[k].y + by_) r (by rw [hgk] at h; exact h) w)
      clear hr hcell hm hkm hS hset hO hgk
      generalize l[k].x = px at *
      generalize l[k].y = py at *
      cases hq : okM (sh by_ (gt l k))
      · have HI2 := Lib.hid (HI.out false hq)
        have HQ := Lib.hid hq
        clear hq HI
        go_wp2_with (first | (go_at_call 86; with_reducible refine Calls.mono (HI2.out _) ?_; rintro e w3 ⟨rfl, hb⟩; have hX3 : Ext w1 w3 := (HS.out.2.ext hE hg).tr hb; obtain ⟨q0, q1, q2, q3⟩ := Fo.all (HK.out.2.1.ext hX3 hs1); have yf := fun o => (hX3.frz _ o hs1).trans (HK.out.2.2.2.1 o); have KZ := Lib.hid (HK.out.2.1.ext hX3 hs1)))
        have hZ2 : Z = 2 := by rw [← HZ.out, if_pos (show shBad by_ l = true from anyN_at (fun k => !okM (sh by_ (gt l k))) hlt (by rw [HQ.out]; rfl))]
        subst hZ2
        have hE3 : Ext w w3 := hE1.tr hX3
        have kz := KZ.out
        have hS4 := Fo.store (w := w3) (b := w.heap.size + 1) kz (.string ⟨#[]⟩) (.int .i64 0) (.int .i64 0) (.slice none 0 0)
        have hX4 := Ext.store4 (b := w.heap.size + 1) hE3 (by omega) (.string ⟨#[]⟩) (.int .i64 0) (.int .i64 0) (.slice none 0 0)
        show bodyPost _ _ _ _ _ (st4 w3 (w.heap.size + 1) (.string ⟨#[]⟩) (.int .i64 0) (.int .i64 0) (.slice none 0 0))
        generalize st4 w3 (w.heap.size + 1) (.string ⟨#[]⟩) (.int .i64 0) (.int .i64 0) (.slice none 0 0) = W6 at hS4 hX4 ⊢
        obtain ⟨s0, s1, s2, s3⟩ := hS4
        refine bodyPost_ret (v := .tuple #[.agg #[.string ⟨#[]⟩, .int .i64 0, .int .i64 0, .slice none 0 0], .int .i64 2]) (by simp [results, Try.results46, go_sem, s0, s1, s2, s3]) rfl ⟨.inr ⟨by decide, rfl⟩, hX4⟩
      · have HI2 := Lib.hid (HI.out true hq)
        have HQ := Lib.hid hq
        clear hq HI
        go_wp2_with (first | (go_at_call 86; with_reducible refine Calls.mono (HI2.out _) ?_; rintro e w3 ⟨rfl, hb⟩; have hX3 : Ext w1 w3 := (HS.out.2.ext hE hg).tr hb; obtain ⟨q0, q1, q2, q3⟩ := Fo.all (HK.out.2.1.ext hX3 hs1); have yf := fun o => (hX3.frz _ o hs1).trans (HK.out.2.2.2.1 o); have KZ := Lib.hid (HK.out.2.1.ext hX3 hs1)))
        exact ⟨⟨hX3, k + 1, by omega, by go_num, (by show anyN _ (k + 1) = false; rw [anyN, hN.out, HQ.out]; rfl), .inr ⟨g, rfl, hg, HS.out.1.ext hb⟩⟩, by simp [intOf]; omega⟩
    · have hkl : k = l.length := by omega
      subst hkl
      have hZ0 : Z = 0 := by rw [← HZ.out, if_neg (show ¬ shBad by_ l = true by rw [show shBad by_ l = false from hN.out]; decide)]
      subst hZ0
      have hz0 : w.heap.size < w1.heap.size := by omega
      obtain ⟨g0, g1, g2, g3⟩ := HK.out.2.2.1.ext hE hz0
      obtain ⟨q0, q1, q2, q3⟩ := HK.out.2.1.ext hE hs1
      have yf := fun o => (hE.frz _ o hs1).trans (HK.out.2.2.2.1 o)
      have z1 := hE.sz _ hs1
      have KZ := Lib.hid (HK.out.2.1.ext hE hs1)
      have HO := Lib.hid hO
      clear hO hN
      go_wp2_with (first | (go_at_call 87; with_reducible refine Calls.mono (HRC.out _ _ _) ?_; rintro e w3 ⟨rfl, hb⟩; have hc := hb.ccell; have hf := hb.frz))
      have hE3 : Ext w w3 := hEw.tr hb
      have kz := KZ.out.ext hb z1
      have hR4 : Row 2 encP (st4 w3 (w.heap.size + 1) (.string s) (.int .i64 x) (.int .i64 er) (.slice A' l.length c')) A' (shiftL by_ l) := by
        rcases HO.out with h | ⟨g, rfl, hg, ho⟩
        · left; rw [h]; rfl
        · rw [midL_all] at ho; exact ((ho.ext hb).st4 (by omega) _ _ _ _).row
      have hS4 := Fo.store (w := w3) (b := w.heap.size + 1) kz (.string s) (.int .i64 x) (.int .i64 er) (.slice A' l.length c')
      have hX4 := Ext.store4 (b := w.heap.size + 1) hE3 (by omega) (.string s) (.int .i64 x) (.int .i64 er) (.slice A' l.length c')
      show bodyPost _ _ _ _ _ (st4 w3 (w.heap.size + 1) (.string s) (.int .i64 x) (.int .i64 er) (.slice A' l.length c'))
      generalize st4 w3 (w.heap.size + 1) (.string s) (.int .i64 x) (.int .i64 er) (.slice A' l.length c') = W6 at hS4 hX4 hR4 ⊢
      obtain ⟨s0, s1, s2, s3⟩ := hS4
      refine bodyPost_ret (v := .tuple #[.agg #[.string s, .int .i64 x, .int .i64 er, .slice A' l.length c'], .int .i64 0]) (by simp [results, Try.results46, go_sem, s0, s1, s2, s3]) rfl ⟨.inl ⟨rfl, A', c', by rw [show (shiftL by_ l).length = l.length by simp [shiftL]], hR4⟩, hX4⟩
end Go.Proofs.Ytblmljcgjibfgaa
