/- The contracts that SoilStable calls: Slump, Steeps, SameGrid, nothing at a bed and at the bed to which it slumps. -/
import Derived.Test.YtdbabihjnhnnfaaGreatSstp
import Derived.Test.YtdbabihjnhnnfaaGreatSawake
import Derived.Test.YtdbabihjnhnnfaaGreatSslight
namespace Go.Proofs.YtdbabihjnhnnfaaGreat
open Go Go.RowKit Go.IntWalk

set_option maxHeartbeats 8000000 in
theorem gslump_err (soils : List So) (bos : List Bo) (g : Gr) (w : World) (AS AB A : Option Addr) (cS cB c : Nat) (gw : GrW w soils AS bos AB) (hl : g.L.length ≤ maxLen) (hA : Row 1 encZ w A g.L) (h0 : cbE soils bos g ≠ 0) :
    Calls Tryz.prog 12 #[.agg #[.slice AS soils.length cS, .slice AB bos.length cB], .agg #[.int .i64 g.X, .int .i64 g.Y, .int .i64 g.S, .int .i64 g.C, .int .i64 g.R, .slice A g.L.length c]] w fun e w' => e = .returned (.tuple #[.agg #[.int .i64 0, .int .i64 0, .int .i64 0, .int .i64 0, .int .i64 0, .slice none 0 0], .int .i64 0, .int .i64 (cbE soils bos g)]) ∧ Ext w w' := by
  have HC := Lib.hid (fun w' (hw : Ext w w') => checkBed_c soils bos g w' AS AB A cS cB c (gw.ext hw) hl (hA.ext hw))
  have h0' : (cbE soils bos g != 0) = true := by simp [h0]
  clear h0 gw hA
  generalize cbE soils bos g = E at *
  go_enter Tryz.func12, Tryz.ntmps12
  go_wp2_with (first | (go_at_call 29; with_reducible refine Calls.mono (HC.out _ (by (repeat (first | with_reducible exact Ext.rfl' _ | with_reducible assumption | with_reducible refine Ext.al ?_ _ | with_reducible refine Ext.dr ?_ | with_reducible refine Ext.st ?_ (by simp) _ | with_reducible refine Ext.tr ?_ (by assumption))))) ?_; rintro e wk ⟨rfl, hb⟩; have hc := hb.ccell; have hf := hb.frz; have hs := hb.sz; (try simp at hs); (try have t0 := hs (w.heap.size) (by first | assumption | omega)); (try have t1 := hs (w.heap.size + 1) (by first | assumption | omega)); (try have t2 := hs (w.heap.size + 1 + 1) (by first | assumption | omega)); (try have t3 := hs (w.heap.size) (by first | assumption | omega)); (try have t4 := hs (w.heap.size) (by first | assumption | omega)); (try have t5 := hs (w.heap.size) (by first | assumption | omega))))
  have hE2 : Ext w wk := by (repeat (first | with_reducible exact Ext.rfl' _ | with_reducible assumption | with_reducible refine Ext.al ?_ _ | with_reducible refine Ext.dr ?_ | with_reducible refine Ext.st ?_ (by simp) _ | with_reducible refine Ext.tr ?_ (by assumption)))
  have kz : CellsAt wk (w.heap.size + 1 + 1) 0 [.int .i64 0, .int .i64 0, .int .i64 0, .int .i64 0, .int .i64 0, .slice none 0 0] := by refine cells_six ⟨?_, ?_, ?_, ?_, ?_, ?_⟩ <;> simp [*, go_sem]
  have hSL := stL_at (w.heap.size + 1 + 1) [.int .i64 0, .int .i64 0, .int .i64 0, .int .i64 0, .int .i64 0, .slice none 0 0] _ 0 _ kz rfl
  have hXL := stL_ext (w.heap.size + 1 + 1) (by first | omega | (simp; done) | (simp; omega)) [.int .i64 0, .int .i64 0, .int .i64 0, .int .i64 0, .int .i64 0, .slice none 0 0] 0 _ hE2
  show bodyPost _ _ _ _ _ (stL (wk) (w.heap.size + 1 + 1) 0 [.int .i64 0, .int .i64 0, .int .i64 0, .int .i64 0, .int .i64 0, .slice none 0 0])
  generalize stL (wk) (w.heap.size + 1 + 1) 0 [.int .i64 0, .int .i64 0, .int .i64 0, .int .i64 0, .int .i64 0, .slice none 0 0] = WL at *
  obtain ⟨s0, s1, s2, s3, s4, s5⟩ := hSL.six
  refine bodyPost_ret (v := .tuple #[.agg #[.int .i64 0, .int .i64 0, .int .i64 0, .int .i64 0, .int .i64 0, .slice none 0 0], .int .i64 0, .int .i64 E]) (by simp [results, Tryz.results12, go_sem, s0, s1, s2, s3, s4, s5]) rfl ⟨rfl, hXL⟩
/-- What Slump returns of a bed without error. -/
def OutSm (soils : List So) (bos : List Bo) (g : Gr) (cn : Nat) (e : Ending) (w' : World) : Prop :=
  ∃ L A c v, e = .returned (.tuple #[.agg #[.int .i64 g.X, .int .i64 g.Y, .int .i64 g.S, .int .i64 g.C, .int .i64 g.R, .slice A g.L.length c], .int .i64 v, .int .i64 0]) ∧ Row 1 encZ w' A L ∧ 0 ≤ v ∧ Slm soils bos g cn L
theorem gslump_sm (soils : List So) (bos : List Bo) (g : Gr) (cn rn : Nat) (w : World) (AS AB A : Option Addr) (cS cB c : Nat) (gw : GrW w soils AS bos AB) (h0 : cbE soils bos g = 0) (hC : g.C = cn) (hR : g.R = rn) (hA : Row 1 encZ w A g.L) :
    Calls Tryz.prog 12 #[.agg #[.slice AS soils.length cS, .slice AB bos.length cB], .agg #[.int .i64 g.X, .int .i64 g.Y, .int .i64 g.S, .int .i64 g.C, .int .i64 g.R, .slice A g.L.length c]] w fun e w' => OutSm soils bos g cn e w' ∧ Ext w w' := by
  refine (gslump_ok_c soils bos g cn rn w AS AB A cS cB c gw h0 hC hR hA).mono ?_
  rintro e w' ⟨⟨L, A', c', he, hN, hS⟩, hE⟩
  have sm := Slm.of h0 hS
  refine ⟨⟨L, A', c', dfN g.L L g.L.length * (g.S * g.S), ?_, hN.row, ?_, sm⟩, hE⟩
  · rw [he, sm.len]
  · have h1 := dfN_pos sm.le g.L.length
    have h2 := (chkG_ok (cbE_ok h0).2).hs
    exact Int.mul_nonneg h1 (Int.mul_nonneg (by omega) (by omega))
/-- What Slump returns of a bed that stands. -/
def OutSt0 (g : Gr) (L : List Int) (e : Ending) (w' : World) : Prop :=
  ∃ A c, e = .returned (.tuple #[.agg #[.int .i64 g.X, .int .i64 g.Y, .int .i64 g.S, .int .i64 g.C, .int .i64 g.R, .slice A g.L.length c], .int .i64 0, .int .i64 0]) ∧ Row 1 encZ w' A L
theorem gslump_again (soils : List So) (bos : List Bo) (g : Gr) (cn rn : Nat) (L : List Int) (w : World) (AS AB A : Option Addr) (cS cB c : Nat) (gw : GrW w soils AS bos AB) (sm : Slm soils bos g cn L) (hC : g.C = cn) (hR : g.R = rn) (hA : Row 1 encZ w A L) :
    Calls Tryz.prog 12 #[.agg #[.slice AS soils.length cS, .slice AB bos.length cB], .agg #[.int .i64 g.X, .int .i64 g.Y, .int .i64 g.S, .int .i64 g.C, .int .i64 g.R, .slice A g.L.length c]] w fun e w' => OutSt0 g L e w' ∧ Ext w w' := by
  have h := gslump_ok_c soils bos (withL g L) cn rn w AS AB A cS cB c gw sm.ok hC hR hA
  rw [show (withL g L).L = L from rfl, sm.len] at h
  refine h.mono ?_
  rintro e w' ⟨⟨K, A', c', he, hN, hS⟩, hE⟩
  have hK := sm.one K (by
    show IsSl (prsN cn L.length (knB L) L.length) _ L K
    rw [sm.len]
    exact hS)
  subst hK
  refine ⟨⟨A', c', ?_, hN.row⟩, hE⟩
  rw [he, show (withL g K).L = K from rfl, dfN_self, sm.len]
  simp [withL]
def OutS0 (e : Ending) (_w' : World) : Prop := ∃ A c, e = .returned (.tuple #[.slice A 0 c, .int .i64 0])
/-- What Steeps returns, whatever the bed. -/
def stA (soils : List So) (bos : List Bo) (h : Gr) : List St := if cbE soils bos h = 0 then stL6 soils bos h h.C.toNat else []
theorem sameGrid_self (g : Gr) (L : List Int) (w : World) (A B : Option Addr) (c d : Nat) (hl : g.L.length ≤ maxLen) (hn : L.length = g.L.length) (hA : Row 1 encZ w A L) (hB : Row 1 encZ w B L) :
    Calls Tryz.prog 13 #[.agg #[.int .i64 g.X, .int .i64 g.Y, .int .i64 g.S, .int .i64 g.C, .int .i64 g.R, .slice A g.L.length c], .agg #[.int .i64 g.X, .int .i64 g.Y, .int .i64 g.S, .int .i64 g.C, .int .i64 g.R, .slice B g.L.length d]] w fun e w' => e = .returned (.bool true) ∧ Ext w w' := by
  have h := sameGrid_c (withL g L) (withL g L) w A B c d (by rw [show (withL g L).L = L from rfl, hn]; exact hl) hA hB
  rw [sameB_withL, show (withL g L).L = L from rfl, decide_eq_true rfl, hn] at h
  exact h
theorem alike_self (g : Gr) (w : World) (A B : Option Addr) (c d n m : Nat) :
    Calls Tryz.prog 28 #[.agg #[.int .i64 g.X, .int .i64 g.Y, .int .i64 g.S, .int .i64 g.C, .int .i64 g.R, .slice A n c], .agg #[.int .i64 g.X, .int .i64 g.Y, .int .i64 g.S, .int .i64 g.C, .int .i64 g.R, .slice B m d]] w fun e w' => e = .returned (.bool true) ∧ Ext w w' := by
  have h := alike_c g g w A B c d n m
  rw [(sameB_iff g g).2 ⟨rfl, rfl, rfl, rfl, rfl⟩] at h
  exact h
theorem known_w (g : Gr) (L : List Int) (k : Nat) (w : World) (A : Option Addr) (c : Nat) (hn : L.length = g.L.length) (hk : k < g.L.length) (hA : Row 1 encZ w A L) :
    Calls Tryz.prog 32 #[.agg #[.int .i64 g.X, .int .i64 g.Y, .int .i64 g.S, .int .i64 g.C, .int .i64 g.R, .slice A g.L.length c], .int .i64 k] w fun e w' => e = .returned (.bool (knB L k)) ∧ Ext w w' := by
  have h := known_c (withL g L) k w A c (by show k < L.length; omega) hA
  rw [show (withL g L).L = L from rfl, hn] at h
  exact h
/-- What holds of another stable bed below g, cell by cell. -/
theorem below_all {soils : List So} {bos : List Bo} {g : Gr} {cn : Nat} {L M : List Int} (sm : Slm soils bos g cn L) (hM : M.length = g.L.length) (hst : stL6 soils bos (withL g M) cn = []) (h : ∀ j, j < g.L.length → knB g.L j = knB M j ∧ gi M j ≤ gi g.L j) (i : Nat) : gi M i ≤ gi L i := by
  have hk : knB M = knB g.L := by
    funext j
    by_cases hj : j < g.L.length
    · exact (h j hj).1.symm
    · unfold knB; rw [gi_out _ _ (by omega), gi_out _ _ (by omega)]
  have hle : ∀ j, gi M j ≤ gi g.L j := by
    intro j
    by_cases hj : j < g.L.length
    · exact (h j hj).2
    · rw [gi_out _ _ (by omega), gi_out _ _ (by omega)]; exact Int.le_refl _
  refine sm.top M hle ?_ i
  rw [stL6_nil, psG_withL g cn hM hk, alG_withL soils bos g cn hM] at hst
  exact hst
end Go.Proofs.YtdbabihjnhnnfaaGreat
