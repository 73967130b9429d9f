/- The contract of the reference's Reaches. -/
import Derived.Test.YtgnakeemcccfjaaBrends
import Derived.Test.YtgnakeemcccfjaaBproof
import Derived.Deep.OwnRows
namespace Go.Proofs.Ytgnakeemcccfjaa
open Go Go.RowKit Go.IntWalk

abbrev tBo : TypeId := 4
theorem infoBo : (Try.prog.info? 4).map (fun i => (i.zero, i.size, i.bytes)) = some (some (.bool false), 1, 1) := by kernel_rfl
/-- Block q is a row of n truth values. -/
def BRow (w : World) (q n : Nat) (b : Nat → Bool) : Prop := w.rowIs q tBo n (fun i => .bool (b i))
theorem BRow.ext {w w' : World} {q n : Nat} {b : Nat → Bool} (h : BRow w q n b) (hw : Ext w w') : BRow w' q n b := h.of_block (hw.block q h.lt)
theorem row_made {w : World} {g base n : Nat} {t : TypeId} {z : Value} (h : w.ownsRow base t 1 (.slice (some ⟨g, 0, none⟩) n n) n (madeCells #[z] n).toList) : w.rowIs g t n (fun _ => z) := by
  rcases h.2 with ⟨h', _⟩ | ⟨g', cap', cur, h', hb, hg, hnc, hcm, hcs, htake⟩
  · simp at h'
  · simp only [Value.slice.injEq, Option.some.injEq, Addr.mk.injEq, and_true, true_and] at h'
    obtain ⟨rfl, rfl⟩ := h'
    rw [Nat.mul_one] at hcs htake
    refine ⟨cur, hg, hcs, fun i hi => ?_⟩
    have h1 := congrArg (fun l => l[i]?) htake
    simp only [List.getElem?_take, hi, if_true] at h1
    rw [← Array.getElem?_toList, h1]
    simp [madeCells, hi, Nat.mod_one]
/-- How many truth values of a row are true, as the memory has it. -/
def cntW (w : World) (q : Nat) : Nat → Nat
  | 0 => 0
  | k + 1 => cntW w q k + (match w.cell? ⟨q, k, none⟩ with | some (.bool true) => 1 | _ => 0)
theorem cntW_eq {w : World} {q n : Nat} {b : Nat → Bool} (h : BRow w q n b) : ∀ k, k ≤ n → cntW w q k = cntB b k
  | 0, _ => rfl
  | k + 1, hk => by
    unfold cntW cntB
    rw [cntW_eq h k (by omega), h.cell (show k < n by omega)]
    cases b k <;> rfl
section
variable {adj : Nat → Nat → Prop} {op : Nat → Bool} {n : Nat} {F : List Nat} {wp w w' : World} {q m : Nat} {b b' : Nat → Bool} {a : Bool}
/-- The marks while the cells are gone through. -/
structure RM (adj : Nat → Nat → Prop) (op : Nat → Bool) (n : Nat) (F : List Nat) (q : Nat) (wp w : World) (b b' : Nat → Bool) (a : Bool) (m : Nat) : Prop where
  ext : Ext wp w
  row : BRow w q n b'
  sound : Sound adj op n F b'
  cnt : cntB b n + (if a then 1 else 0) ≤ cntB b' n
  same : a = false → (∀ j, j < n → b' j = b j) ∧ ∀ j, j < m → nxt adj op n F b j → b j = true
theorem RM.next (h : RM adj op n F q wp w b b' a m) (hw : Ext w w') (hm : m < n) (hs : a = false → nxt adj op n F b m → b m = true) : RM adj op n F q wp w' b b' a (m + 1) :=
  ⟨h.ext.tr hw, h.row.ext hw, h.sound, h.cnt, fun ha => ⟨(h.same ha).1, fun j hj hn => by
    rcases Nat.lt_succ_iff_lt_or_eq.1 hj with h1 | h1
    · exact (h.same ha).2 j h1 hn
    · subst h1; exact hs ha hn⟩⟩
theorem RM.marked (h : RM adj op n F q wp w b b' a m) (hw : Ext w w') (hm : m < n) (hb : b' m = true) : RM adj op n F q wp w' b b' a (m + 1) :=
  h.next hw hm fun ha _ => by rw [← (h.same ha).1 m hm]; exact hb
theorem RM.closed (h : RM adj op n F q wp w b b' a m) (hw : Ext w w') (hm : m < n) (ho : op m = false) : RM adj op n F q wp w' b b' a (m + 1) :=
  h.next hw hm fun _ hn => by rw [hn.1] at ho; cases ho
theorem RM.far (h : RM adj op n F q wp w b b' a m) (hw : Ext w w') (hm : m < n) (hF : m ∉ F) (hk : ∀ k, k < n → b' k = true → ¬ adj k m) : RM adj op n F q wp w' b b' a (m + 1) :=
  h.next hw hm fun ha hn => by
    rcases hn.2 with h1 | ⟨k, h1, h2, h3⟩
    · exact absurd h1 hF
    · exact absurd h3 (hk k h1 (by rw [(h.same ha).1 k h1]; exact h2))
theorem RM.mark (h : RM adj op n F q wp w b b' a m) (hq : wp.heap.size ≤ q) (hw : Ext w w') (hm : m < n) (hb : b' m = false) (ho : op m = true) (hn : m ∈ F ∨ ∃ k, k < n ∧ b' k = true ∧ adj k m) :
    RM adj op n F q wp (w'.setCell ⟨q, m, none⟩ (.bool true)) b (upB b' m) true (m + 1) := by
  refine ⟨Ext.st (h.ext.tr hw) hq _, ?_, ?_, ?_, fun h => by cases h⟩
  · refine ((h.row.ext hw).set m (.bool true)).congr fun i hi => ?_
    unfold upB
    split <;> rfl
  · intro i hi hbi
    unfold upB at hbi
    by_cases him : i = m
    · subst him
      rcases hn with h1 | ⟨k, h1, h2, h3⟩
      · exact rch_start hi ho h1
      · exact rch_step (h.sound k h1 h2) h3 hi ho
    · rw [if_neg him] at hbi
      exact h.sound i hi hbi
  · rw [cntB_up hb n hm]
    have := h.cnt
    simp only [if_true]
    split at this <;> omega
end
/-- The open cells of the reference's search. -/
def roP (g : Gr) (most : Int) (W : List Int) (k : Nat) : Bool := knB g.L k && (decide (gi g.L k ≤ most) && !(decide ((k : Int) ∈ W)))
theorem beqmem {x : Nat} {F : List Nat} : decide ((x : Int) ∈ zl F) = decide (x ∈ F) := by
  rw [decide_eq_decide]; exact mem_zl
theorem start_iff {cn rn : Nat} {F : List Nat} {b' : Nat → Bool} {m : Nat} (h0 : 0 < cn) (hm : m < cn * rn) :
    (decide (m ∈ F) || anyN (fun k => b' k && nbB cn m k) (cn * rn)) = true ↔ (m ∈ F ∨ ∃ k, k < cn * rn ∧ b' k = true ∧ adjN cn rn k m) := by
  rw [Bool.or_eq_true, decide_eq_true_eq, anyN_iff]
  have e : ∀ k, k < cn * rn → (nbB cn m k = true ↔ adjN cn rn k m) := by
    intro k hk
    unfold adjN
    rw [nbr_mem h0 hk m, nbB_symm]
    exact ⟨fun h => ⟨hm, h⟩, fun h => h.2⟩
  constructor
  · rintro (h | ⟨k, h1, h2⟩)
    · exact .inl h
    · rw [Bool.and_eq_true] at h2
      exact .inr ⟨k, h1, h2.1, (e k h1).1 h2.2⟩
  · rintro (h | ⟨k, h1, h2, h3⟩)
    · exact .inl h
    · exact .inr ⟨k, h1, by rw [h2, (e k h1).2 h3]; rfl⟩
/-- A verdict that is a given fact. -/
def OutIff (P : Prop) (e : Ending) : Prop := (e = .returned (.bool true) ∧ P) ∨ (e = .returned (.bool false) ∧ ¬ P)
set_option maxHeartbeats 16000000 in
theorem reaches_c {g : Gr} {cn rn : Nat} {F T : List Nat} (hC : g.C = cn) (h0 : 0 < cn) (h1 : cn ≤ 1024) (hn : cn * rn ≤ 1024) (hL : g.L.length = cn * rn) (hlF : F.length ≤ 50000) (hlT : T.length ≤ 50000) (hT : ∀ t ∈ T, t < cn * rn) (most : Int) (W : List Int) (hlW : W.length ≤ 100000)
    (v1 v2 v3 : Value) (w : World) (A B D X : Option Addr) (c cB cD cX : Nat) (hA : Row 1 encZ w A g.L) (hB : Row 1 encZ w B (zl F)) (hD : Row 1 encZ w D (zl T)) (hX : Row 1 encZ w X W) :
    Calls Try.prog 105 #[.agg #[.int .i64 g.X, .int .i64 g.Y, .int .i64 g.S, .int .i64 g.C, .int .i64 g.R, .slice A g.L.length c], .agg #[.slice B F.length cB, .slice D T.length cD, v1, v2, v3], .int .i64 most, .slice X W.length cX] w
      fun e w' => OutIff (∃ p, IsWay (adjN cn rn) (roP g most W) (cn * rn) F T p) e ∧ Ext w w' := by
  have HK := Lib.hid (fun k (hk : k < g.L.length) w' (hw : Ext w w') => known_c g k w' A c hk (hA.ext hw))
  have HHW := Lib.hid (fun (k : Nat) w' (hw : Ext w w') => has_c W (k : Int) w' X cX hlW (hX.ext hw))
  have HHF := Lib.hid (fun (k : Nat) w' (hw : Ext w w') => by
    have h := has_c (zl F) (k : Int) w' B cB (by rw [zl_len]; omega) (hB.ext hw)
    rw [zl_len, beqmem] at h
    exact h)
  have HN := Lib.hid (fun (i k : Nat) (hi : i ≤ 2000) (hk : k ≤ 2000) w' => neigh_c g cn i k w' A c hC h0 h1 hi hk)
  have HST := Lib.hid (fun (b' : Nat → Bool) (m : Nat) (hm : m < cn * rn) => start_iff (rn := rn) (F := F) (b' := b') h0 hm)
  rw [← hL] at hn hT HST ⊢
  obtain ⟨i0, hi, hz0, hz1, hz2⟩ := info_parts infoBo
  have HA := Lib.hid hA
  have HD := Lib.hid hD
  have HTn := Lib.hid hT
  clear hB hX hC h1 hL hA hD hT
  go_enter Try.func105, Try.ntmps105
  go_upto_region 1 with fail
  have hEp : Ext w ((w.alloc (.cells #[.int .i64 g.X, .int .i64 g.Y, .int .i64 g.S, .int .i64 g.C, .int .i64 g.R, .slice A g.L.length c] 24)).alloc (.cells #[.slice B F.length cB, .slice D T.length cD, v1, v2, v3] 92)) := by (repeat (first | with_reducible exact Ext.rfl' _ | with_reducible assumption | with_reducible refine Ext.al ?_ _ | with_reducible refine Ext.dr ?_ | with_reducible refine Ext.st ?_ (by simp) _ | with_reducible refine Ext.tr ?_ (by assumption)))
  generalize hwp : (w.alloc (.cells #[.int .i64 g.X, .int .i64 g.Y, .int .i64 g.S, .int .i64 g.C, .int .i64 g.R, .slice A g.L.length c] 24)).alloc (.cells #[.slice B F.length cB, .slice D T.length cD, v1, v2, v3] 92) = wp at *
  have kg : CellsAt wp w.heap.size 0 [.int .i64 g.X, .int .i64 g.Y, .int .i64 g.S, .int .i64 g.C, .int .i64 g.R, .slice A g.L.length c] := by
    rw [← hwp]
    refine cells_six ⟨?_, ?_, ?_, ?_, ?_, ?_⟩ <;> simp [World.cell?_alloc_past, World.cell?_alloc_new, go_sem]
  have kq0 : wp.cell? ⟨w.heap.size + 1, 0, none⟩ = some (.slice B F.length cB) := by rw [← hwp]; simp [go_sem]
  have kq1 : wp.cell? ⟨w.heap.size + 1, 1, none⟩ = some (.slice D T.length cD) := by rw [← hwp]; simp [go_sem]
  have zp : w.heap.size < wp.heap.size := by rw [← hwp]; simp; omega
  have zq : w.heap.size + 1 < wp.heap.size := by rw [← hwp]; simp
  obtain ⟨g0, g1, g2, g3, g4, g5⟩ := kg.six
  clear hwp
  go_wp2_with (first | (at_make; refine wpList_make_full _ rfl _ _ 175 rfl wp.heap.size 4 i0 _ 1 Try.underlying175 hi hz0 hz1 .i64 .i64 _ _ g.L.length rfl rfl rfl rfl ?c1 ?c2 ?c3 ?_))
  case c1 => rw [hz2]; omega
  case c2 => unfold maxLen; omega
  case c3 => simp
  intro wm hown hgr
  have hR : BRow wm wp.heap.size g.L.length (fun _ => false) := row_made hown
  have hEm : Ext wp wm := Below.grown (Ext.rfl' wp) hgr (Nat.le_refl _) (by intro q hq; cases hq)
  have HR := Lib.hid hR
  clear hown hgr hi hz0 hz1 hz2 hR g0 g1 g2 g3 g4 g5
  go_wp2
  go_loopw [10, 11, 12, 13] (fun ag _ _ _ wr => Ext wp wr ∧ ∃ (b : Nat → Bool) (a : Bool), ag = .bool a ∧ Hid (BRow wr wp.heap.size g.L.length b) ∧ Hid (Sound (adjN cn rn) (roP g most W) g.L.length F b) ∧ Hid (a = false → ∀ i, i < g.L.length → nxt (adjN cn rn) (roP g most W) g.L.length F b i → b i = true)) (fun ag _ _ _ wr => match ag with | .bool true => g.L.length + 1 - cntW wr wp.heap.size g.L.length | _ => 0)
  case atStart => exact ⟨hEm, _, true, rfl, HR, Lib.hid (by intro i _ h; cases h), Lib.hid (by intro h; cases h)⟩
  case round =>
    obtain ⟨hr, b, a, rfl, hb, hs, hcl⟩ := hrel
    clear HR hEm
    obtain ⟨w2, hw2⟩ : ∃ w2, w2 = wr := ⟨_, rfl⟩
    subst hw2
    cases a with
    | true =>
      have HCN : Hid (cntW w2 wp.heap.size g.L.length = cntB b g.L.length) := Lib.hid (cntW_eq hb.out _ (Nat.le_refl _))
      have HRM : Hid (RM (adjN cn rn) (roP g most W) g.L.length F wp.heap.size wp w2 b b false 0) := Lib.hid ⟨hr, hb.out, hs.out, by simp, fun _ => ⟨fun _ _ => rfl, fun j hj => by omega⟩⟩
      have k5 := (kg.ext hr zp).six.2.2.2.2.2
      have zp2 := hr.sz _ zp
      clear hb hs hcl
      go_wp2
      go_loopw [10, 11, 12, 13] (fun ag i _ _ wr => ∃ (m : Nat) (b' : Nat → Bool) (a : Bool), m ≤ g.L.length ∧ i = .int .i64 m ∧ ag = .bool a ∧ Hid (RM (adjN cn rn) (roP g most W) g.L.length F wp.heap.size wp wr b b' a m)) (fun _ i _ _ _ => g.L.length - (intOf i).toNat)
      case atStart => exact ⟨0, b, false, Nat.zero_le _, rfl, rfl, HRM⟩
      case round =>
        obtain ⟨m, b', a, hm, rfl, rfl, hRM⟩ := hrel
        clear HRM k5 zp2
        have hrm := hRM.out.ext
        have hE : Ext w wr := hEp.tr hrm
        have hzp := hrm.sz _ zp
        have hzq := hrm.sz _ zq
        obtain ⟨g0, g1, g2, g3, g4, g5⟩ := (kg.ext hrm zp).six
        have r0 := (hrm.ccell _ _ zq).trans kq0
        have fr := hRM.out.row.frozen
        have hqz := hRM.out.row.lt
        by_cases hlt : m < g.L.length
        · have cm := hRM.out.row.cell hlt
          have K1 := Lib.hid (fun w' (hw : Ext w w') => HK.out m hlt w' hw)
          cases hbm : b' m
          case true =>
            rw [hbm] at cm
            go_wp2
            exact ⟨⟨m + 1, b', a, by omega, by go_num, rfl, Lib.hid (hRM.out.marked (Ext.rfl' _) hlt hbm)⟩, by simp [intOf]; omega⟩
          rw [hbm] at cm
          have HBM := Lib.hid hbm
          cases hkn : knB g.L m
          · rw [hkn] at K1
            have HO : Hid (roP g most W m = false) := Lib.hid (by unfold roP; rw [hkn]; rfl)
            clear hkn hbm
            go_wp2_with (first | (go_at_call 95; with_reducible refine Calls.mono (K1.out _ (by (repeat (first | with_reducible exact Ext.rfl' _ | with_reducible assumption | with_reducible refine Ext.al ?_ _ | with_reducible refine Ext.dr ?_ | with_reducible refine Ext.st ?_ (by simp) _ | with_reducible refine Ext.tr ?_ (by assumption))))) ?_; rintro e w3 ⟨rfl, hb⟩; have hc := hb.ccell; have hf := hb.frz; have hs := hb.sz; (try simp at hs); (try have t0 := hs (w.heap.size) (by first | assumption | omega)); (try have t1 := hs (w.heap.size + 1) (by first | assumption | omega)); (try have t2 := hs (w.heap.size) (by first | assumption | omega)); (try have t3 := hs (w.heap.size) (by first | assumption | omega)); (try have t4 := hs (w.heap.size) (by first | assumption | omega)); (try have t5 := hs (w.heap.size) (by first | assumption | omega))))
            exact ⟨⟨m + 1, b', a, by omega, by go_num, rfl, Lib.hid (hRM.out.closed hb hlt HO.out)⟩, by simp [intOf]; omega⟩
          rw [hkn] at K1
          obtain ⟨bl, ol, hAe, hbl, hcell⟩ := HA.out.p1 hlt
          subst hAe
          have c1 := hcell _ hE
          rw [← gi_lt] at c1
          have hblz := hE.sz _ hbl
          clear hcell hbl
          by_cases hgt : most < gi g.L m
          · have HO : Hid (roP g most W m = false) := Lib.hid (by unfold roP; rw [decide_eq_false (show ¬ gi g.L m ≤ most by omega)]; simp)
            clear hkn hbm
            generalize gi g.L m = av at *
            go_wp2_with (first | (go_at_call 95; with_reducible refine Calls.mono (K1.out _ (by (repeat (first | with_reducible exact Ext.rfl' _ | with_reducible assumption | with_reducible refine Ext.al ?_ _ | with_reducible refine Ext.dr ?_ | with_reducible refine Ext.st ?_ (by simp) _ | with_reducible refine Ext.tr ?_ (by assumption))))) ?_; rintro e w3 ⟨rfl, hb⟩; have hc := hb.ccell; have hf := hb.frz; have hs := hb.sz; (try simp at hs); (try have t0 := hs (w.heap.size) (by first | assumption | omega)); (try have t1 := hs (w.heap.size + 1) (by first | assumption | omega)); (try have t2 := hs (bl) (by first | assumption | omega)); (try have t3 := hs (w.heap.size) (by first | assumption | omega)); (try have t4 := hs (w.heap.size) (by first | assumption | omega)); (try have t5 := hs (w.heap.size) (by first | assumption | omega))))
            exact ⟨⟨m + 1, b', a, by omega, by go_num, rfl, Lib.hid (hRM.out.closed hb hlt HO.out)⟩, by simp [intOf]; omega⟩
          have hgt' : decide (most < gi g.L m) = false := decide_eq_false hgt
          have W1 := Lib.hid (fun w' (hw : Ext w w') => HHW.out m w' hw)
          cases hmw : decide ((m : Int) ∈ W)
          case true =>
            rw [hmw] at W1
            have HO : Hid (roP g most W m = false) := Lib.hid (by unfold roP; rw [hmw]; simp)
            clear hkn hbm hmw hgt
            generalize gi g.L m = av at *
            go_wp2_with (first | (go_at_call 95; with_reducible refine Calls.mono (K1.out _ (by (repeat (first | with_reducible exact Ext.rfl' _ | with_reducible assumption | with_reducible refine Ext.al ?_ _ | with_reducible refine Ext.dr ?_ | with_reducible refine Ext.st ?_ (by simp) _ | with_reducible refine Ext.tr ?_ (by assumption))))) ?_; rintro e w3 ⟨rfl, hb⟩; have hc := hb.ccell; have hf := hb.frz; have hs := hb.sz; (try simp at hs); (try have t0 := hs (w.heap.size) (by first | assumption | omega)); (try have t1 := hs (w.heap.size + 1) (by first | assumption | omega)); (try have t2 := hs (bl) (by first | assumption | omega)); (try have t3 := hs (w.heap.size) (by first | assumption | omega)); (try have t4 := hs (w.heap.size) (by first | assumption | omega)); (try have t5 := hs (w.heap.size) (by first | assumption | omega))) | (go_at_call 106; with_reducible refine Calls.mono (W1.out _ (by (repeat (first | with_reducible exact Ext.rfl' _ | with_reducible assumption | with_reducible refine Ext.al ?_ _ | with_reducible refine Ext.dr ?_ | with_reducible refine Ext.st ?_ (by simp) _ | with_reducible refine Ext.tr ?_ (by assumption))))) ?_; rintro e w4 ⟨rfl, hb⟩; have hc := hb.ccell; have hf := hb.frz; have hs := hb.sz; (try simp at hs); (try have t0 := hs (w.heap.size) (by first | assumption | omega)); (try have t1 := hs (w.heap.size + 1) (by first | assumption | omega)); (try have t2 := hs (bl) (by first | assumption | omega)); (try have t3 := hs (w.heap.size) (by first | assumption | omega)); (try have t4 := hs (w.heap.size) (by first | assumption | omega)); (try have t5 := hs (w.heap.size) (by first | assumption | omega))))
            exact ⟨⟨m + 1, b', a, by omega, by go_num, rfl, Lib.hid (hRM.out.closed (by (repeat (first | with_reducible exact Ext.rfl' _ | with_reducible assumption | with_reducible refine Ext.al ?_ _ | with_reducible refine Ext.dr ?_ | with_reducible refine Ext.st ?_ (by simp) _ | with_reducible refine Ext.tr ?_ (by assumption)))) hlt HO.out)⟩, by simp [intOf]; omega⟩
          rw [hmw] at W1
          have HO : Hid (roP g most W m = true) := Lib.hid (by unfold roP; rw [hmw, hkn, decide_eq_true (show gi g.L m ≤ most by omega)]; rfl)
          have F1 := Lib.hid (fun w' (hw : Ext w w') => HHF.out m w' hw)
          obtain ⟨w6, hw6⟩ : ∃ w6, w6 = wr := ⟨_, rfl⟩
          subst hw6
          clear hkn hbm hmw hgt
          generalize gi g.L m = av at *
          go_wp2_with (first | (go_at_call 95; with_reducible refine Calls.mono (K1.out _ (by (repeat (first | with_reducible exact Ext.rfl' _ | with_reducible assumption | with_reducible refine Ext.al ?_ _ | with_reducible refine Ext.dr ?_ | with_reducible refine Ext.st ?_ (by simp) _ | with_reducible refine Ext.tr ?_ (by assumption))))) ?_; rintro e w3 ⟨rfl, hb⟩; have hc := hb.ccell; have hf := hb.frz; have hs := hb.sz; (try simp at hs); (try have t0 := hs (w.heap.size) (by first | assumption | omega)); (try have t1 := hs (w.heap.size + 1) (by first | assumption | omega)); (try have t2 := hs (bl) (by first | assumption | omega)); (try have t3 := hs (w.heap.size) (by first | assumption | omega)); (try have t4 := hs (w.heap.size) (by first | assumption | omega)); (try have t5 := hs (w.heap.size) (by first | assumption | omega))) | (go_at_call 106; with_reducible refine Calls.mono (W1.out _ (by (repeat (first | with_reducible exact Ext.rfl' _ | with_reducible assumption | with_reducible refine Ext.al ?_ _ | with_reducible refine Ext.dr ?_ | with_reducible refine Ext.st ?_ (by simp) _ | with_reducible refine Ext.tr ?_ (by assumption))))) ?_; rintro e w4 ⟨rfl, hb⟩; have hc := hb.ccell; have hf := hb.frz; have hs := hb.sz; (try simp at hs); (try have t0 := hs (w.heap.size) (by first | assumption | omega)); (try have t1 := hs (w.heap.size + 1) (by first | assumption | omega)); (try have t2 := hs (bl) (by first | assumption | omega)); (try have t3 := hs (w.heap.size) (by first | assumption | omega)); (try have t4 := hs (w.heap.size) (by first | assumption | omega)); (try have t5 := hs (w.heap.size) (by first | assumption | omega))) | (go_at_call 106; with_reducible refine Calls.mono (F1.out _ (by (repeat (first | with_reducible exact Ext.rfl' _ | with_reducible assumption | with_reducible refine Ext.al ?_ _ | with_reducible refine Ext.dr ?_ | with_reducible refine Ext.st ?_ (by simp) _ | with_reducible refine Ext.tr ?_ (by assumption))))) ?_; rintro e w5 ⟨rfl, hb⟩; have hc := hb.ccell; have hf := hb.frz; have hs := hb.sz; (try simp at hs); (try have t0 := hs (w.heap.size) (by first | assumption | omega)); (try have t1 := hs (w.heap.size + 1) (by first | assumption | omega)); (try have t2 := hs (bl) (by first | assumption | omega)); (try have t3 := hs (w.heap.size) (by first | assumption | omega)); (try have t4 := hs (w.heap.size) (by first | assumption | omega)); (try have t5 := hs (w.heap.size) (by first | assumption | omega))))
          have hE5 : Ext w6 w5 := by (repeat (first | with_reducible exact Ext.rfl' _ | with_reducible assumption | with_reducible refine Ext.al ?_ _ | with_reducible refine Ext.dr ?_ | with_reducible refine Ext.st ?_ (by simp) _ | with_reducible refine Ext.tr ?_ (by assumption)))
          have hE55 := Lib.hid hE5
          clear hb hc hf hs t0 t1 t2 t3 t4 t5 cm c1 g0 g1 g2 g3 g4 g5 r0 fr
          go_loopw [12, 13] (fun st kk wr => Ext w5 wr ∧ ∃ j : Nat, j ≤ g.L.length ∧ kk = .int .i64 j ∧ st = .bool (decide (m ∈ F) || anyN (fun k => b' k && nbB cn m k) j)) (fun _ kk _ => g.L.length - (intOf kk).toNat)
          case atStart => exact ⟨Ext.rfl' _, 0, Nat.zero_le _, rfl, by simp [anyN]⟩
          case round =>
            obtain ⟨hr5, j, hj, rfl, rfl⟩ := hrel
            have hE6 := hE5.tr hr5
            have hrm6 := hrm.tr hE6
            have hzp := hrm6.sz _ zp
            obtain ⟨g0, g1, g2, g3, g4, g5⟩ := (kg.ext hrm6 zp).six
            have hrow := hRM.out.row.ext hE6
            have fr := hrow.frozen
            have hqz := hrow.lt
            obtain ⟨bo, hbo⟩ : ∃ bo, (decide (m ∈ F) || anyN (fun k => b' k && nbB cn m k) j) = bo := ⟨_, rfl⟩
            have HSO := Lib.hid hbo
            rw [hbo]
            clear hbo
            by_cases hjl : j < g.L.length
            · have cj := hrow.cell hjl
              have N1 := Lib.hid (fun w' => HN.out m j (by omega) (by omega) w')
              cases bo
              · have HNX : Hid ((decide (m ∈ F) || anyN (fun k => b' k && nbB cn m k) (j + 1)) = (b' j && nbB cn m j)) := Lib.hid (by rw [anyN, ← Bool.or_assoc, HSO.out]; simp)
                cases hbj : b' j
                · rw [hbj] at cj
                  rw [hbj] at HNX
                  clear hbj
                  go_wp2
                  exact ⟨⟨by (repeat (first | with_reducible exact Ext.rfl' _ | with_reducible assumption | with_reducible refine Ext.al ?_ _ | with_reducible refine Ext.dr ?_ | with_reducible refine Ext.st ?_ (by simp) _ | with_reducible refine Ext.tr ?_ (by assumption))), j + 1, by omega, by go_num, by rw [HNX.out]; rfl⟩, by simp [intOf]; omega⟩
                · rw [hbj] at cj
                  rw [hbj] at HNX
                  clear hbj
                  go_wp2_with (first | (go_at_call 80; with_reducible refine Calls.mono (N1.out _) ?_; rintro e w7 ⟨rfl, hb⟩; have hc := hb.ccell; have hf := hb.frz; have hs := hb.sz; (try simp at hs); (try have t0 := hs (w.heap.size) (by first | assumption | omega)); (try have t1 := hs (w.heap.size) (by first | assumption | omega)); (try have t2 := hs (w.heap.size) (by first | assumption | omega)); (try have t3 := hs (w.heap.size) (by first | assumption | omega)); (try have t4 := hs (w.heap.size) (by first | assumption | omega)); (try have t5 := hs (w.heap.size) (by first | assumption | omega))))
                  exact ⟨⟨by (repeat (first | with_reducible exact Ext.rfl' _ | with_reducible assumption | with_reducible refine Ext.al ?_ _ | with_reducible refine Ext.dr ?_ | with_reducible refine Ext.st ?_ (by simp) _ | with_reducible refine Ext.tr ?_ (by assumption))), j + 1, by omega, by go_num, by rw [HNX.out]; simp⟩, by simp [intOf]; omega⟩
              · have HNX : Hid ((decide (m ∈ F) || anyN (fun k => b' k && nbB cn m k) (j + 1)) = true) := Lib.hid (by rw [anyN, ← Bool.or_assoc, HSO.out]; rfl)
                go_wp2
                exact ⟨⟨by (repeat (first | with_reducible exact Ext.rfl' _ | with_reducible assumption | with_reducible refine Ext.al ?_ _ | with_reducible refine Ext.dr ?_ | with_reducible refine Ext.st ?_ (by simp) _ | with_reducible refine Ext.tr ?_ (by assumption))), j + 1, by omega, by go_num, by rw [HNX.out]⟩, by simp [intOf]; omega⟩
            · have hjn : j = g.L.length := by omega
              subst hjn
              have cm := hrow.cell hlt
              cases bo
              · have HF : Hid (m ∉ F ∧ ∀ k, k < g.L.length → b' k = true → ¬ adjN cn rn k m) := Lib.hid (by
                  have h9 : ¬ ((decide (m ∈ F) || anyN (fun k => b' k && nbB cn m k) g.L.length) = true) := by rw [HSO.out]; decide
                  rw [HST.out b' m hlt] at h9
                  exact ⟨fun h => h9 (.inl h), fun k h1 h2 h3 => h9 (.inr ⟨k, h1, h2, h3⟩)⟩)
                go_wp2
                exact ⟨⟨m + 1, b', a, by omega, by go_num, rfl, Lib.hid (hRM.out.far hE6 hlt HF.out.1 HF.out.2)⟩, by simp [intOf]; omega⟩
              · have HF : Hid (m ∈ F ∨ ∃ k, k < g.L.length ∧ b' k = true ∧ adjN cn rn k m) := Lib.hid ((HST.out b' m hlt).1 HSO.out)
                go_wp2
                exact ⟨⟨m + 1, upB b' m, true, by omega, by go_num, rfl, Lib.hid (hRM.out.mark (Nat.le_refl _) hE6 hlt HBM.out HO.out HF.out)⟩, by simp [intOf]; omega⟩
        · have hmn : m = g.L.length := by omega
          subst hmn
          have HC2 : Hid (a = true → cntW w2 wp.heap.size g.L.length + 1 ≤ cntW wr wp.heap.size g.L.length) := Lib.hid (by
            intro ha
            subst ha
            rw [HCN.out, cntW_eq hRM.out.row _ (Nat.le_refl _)]
            exact hRM.out.cnt)
          have HC3 : Hid (cntW wr wp.heap.size g.L.length ≤ g.L.length) := Lib.hid (by rw [cntW_eq hRM.out.row _ (Nat.le_refl _)]; exact cntB_le _ _)
          go_wp2
          refine ⟨⟨hrm, b', a, rfl, Lib.hid hRM.out.row, Lib.hid hRM.out.sound, Lib.hid (fun ha i hi hn => ?_)⟩, ?_⟩
          · rw [(hRM.out.same ha).1 i hi]
            refine (hRM.out.same ha).2 i hi ⟨hn.1, hn.2.imp id ?_⟩
            rintro ⟨k, k1, k2, k3⟩
            exact ⟨k, k1, by rw [← (hRM.out.same ha).1 k k1]; exact k2, k3⟩
          · have h3 := HC3.out
            cases a with
            | true => have h2 := HC2.out rfl; show g.L.length + 1 - cntW wr wp.heap.size g.L.length < g.L.length + 1 - cntW w2 wp.heap.size g.L.length; omega
            | false => have h4 : cntW w2 wp.heap.size g.L.length ≤ g.L.length := (by rw [HCN.out]; exact cntB_le _ _); show 0 < g.L.length + 1 - cntW w2 wp.heap.size g.L.length; omega
    | false =>
      have hE2 : Ext w w2 := hEp.tr hr
      have hzq := hr.sz _ zq
      have r1 := (hr.ccell _ _ zq).trans kq1
      have HB2 := hb
      clear kg kq0 hb
      go_wp2
      go_loopw [14] (fun i wr => Ext w2 wr ∧ ∃ j : Nat, j ≤ T.length ∧ i = .int .i64 j ∧ Hid (∀ x, x < j → b (gn T x) = false)) (fun i _ => T.length - (intOf i).toNat)
      case atStart => exact ⟨Ext.rfl' _, 0, Nat.zero_le _, rfl, Lib.hid (by intro x hx; omega)⟩
      case round =>
        obtain ⟨hr3, j, hj, rfl, hF⟩ := hrel
        have hE3 := hE2.tr hr3
        have hzq3 := hr3.sz _ hzq
        have r3 := (hr3.ccell _ _ hzq).trans r1
        have hrow := HB2.out.ext hr3
        have hqz := hrow.lt
        have fr := hrow.frozen
        by_cases hlt : j < T.length
        · obtain ⟨bt, ot, hDe, hbt, hcell⟩ := HD.out.p1 (show j < (zl T).length by rw [zl_len]; exact hlt)
          subst hDe
          have c1 := hcell _ hE3
          rw [← gi_lt, gi_zl T j hlt] at c1
          have hbtz := hE3.sz _ hbt
          have htm : gn T j ∈ T := by rw [gn_lt T j hlt]; exact List.getElem_mem hlt
          have htn := HTn.out _ htm
          have cj := hrow.cell htn
          have HTM := Lib.hid htm
          clear hcell hbt htm
          obtain ⟨tj, htj⟩ : ∃ tj, gn T j = tj := ⟨_, rfl⟩
          rw [htj] at c1 htn cj HTM
          have HTJ := Lib.hid htj
          clear htj
          cases hbt2 : b tj
          · rw [hbt2] at cj
            have HN2 : Hid (∀ x, x < j + 1 → b (gn T x) = false) := Lib.hid (by
              intro x hx
              rcases Nat.lt_succ_iff_lt_or_eq.1 hx with h | h
              · exact hF.out x h
              · subst h; rw [HTJ.out]; exact hbt2)
            clear hbt2
            go_wp2
            exact ⟨⟨by (repeat (first | with_reducible exact Ext.rfl' _ | with_reducible assumption | with_reducible refine Ext.al ?_ _ | with_reducible refine Ext.dr ?_ | with_reducible refine Ext.st ?_ (by simp) _ | with_reducible refine Ext.tr ?_ (by assumption))), j + 1, by omega, by go_num, HN2⟩, by simp [intOf]; omega⟩
          · rw [hbt2] at cj
            have HY : Hid (∃ p, IsWay (adjN cn rn) (roP g most W) g.L.length F T p) := Lib.hid (rch_way.1 ⟨tj, HTM.out, hs.out _ htn hbt2⟩)
            clear hbt2
            go_wp2
            go_ret
            exact ⟨.inl ⟨rfl, HY.out⟩, by (repeat (first | with_reducible exact Ext.rfl' _ | with_reducible assumption | with_reducible refine Ext.al ?_ _ | with_reducible refine Ext.dr ?_ | with_reducible refine Ext.st ?_ (by simp) _ | with_reducible refine Ext.tr ?_ (by assumption)))⟩
        · have hjn : j = T.length := by omega
          have HY : Hid (¬ ∃ p, IsWay (adjN cn rn) (roP g most W) g.L.length F T p) := Lib.hid (by
            intro h
            obtain ⟨t, ht, hrc⟩ := rch_way.2 h
            have h9 := (rch_closed (hcl.out (by trivial)) hrc).1
            obtain ⟨x, hx, rfl⟩ := List.mem_iff_getElem.1 ht
            have h8 := hF.out x (by omega)
            rw [gn_lt T x hx, h9] at h8
            cases h8)
          go_wp2
          go_ret
          exact ⟨.inr ⟨rfl, HY.out⟩, by (repeat (first | with_reducible exact Ext.rfl' _ | with_reducible assumption | with_reducible refine Ext.al ?_ _ | with_reducible refine Ext.dr ?_ | with_reducible refine Ext.st ?_ (by simp) _ | with_reducible refine Ext.tr ?_ (by assumption)))⟩
end Go.Proofs.Ytgnakeemcccfjaa
