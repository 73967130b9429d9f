/- The contract of awake: two of the document's examples. -/
import Derived.Test.YtgbkjioajmnjbaaGreatSslumps
namespace Go.Proofs.YtgbkjioajmnjbaaGreat
open Go Go.RowKit Go.IntWalk

theorem row_set {α : Type} {k : Nat} {enc : α → List Value} {w : World} {q off : Nat} {l : List α} (hR : Row k enc w (some ⟨q, off, none⟩) l) {a : Addr} (hne : q ≠ a.block) (v : Value) : Row k enc (w.setCell a v) (some ⟨q, off, none⟩) l := by
  rcases hR with hR | ⟨b', off', h1, h2, h3⟩
  · exact .inl hR
  · injection h1 with h1
    injection h1 with e1 e2
    subst e1 e2
    refine .inr ⟨_, _, rfl, by simpa using h2, fun i hi j u hv => ?_⟩
    rw [World.cell?_setCell_other _ _ _ _ (by intro e; subst e; exact hne rfl)]
    exact h3 i hi j u hv
def sSand : ByteArray := ⟨#[115, 97, 110, 100]⟩
def sMud : ByteArray := ⟨#[109, 117, 100]⟩
def gSo : List So := [⟨sSand, 30, 1900, 6, 5⟩, ⟨sMud, 100, 1300, 1, 1⟩]
def gLa1 : List La := [⟨-500, sMud⟩, ⟨-700, sSand⟩]
def gLa2 : List La := [⟨-600, sSand⟩]
def gBo (A1 : Option Addr) (c1 : Nat) (A2 : Option Addr) (c2 : Nat) : List Bo := [⟨⟨#[66]⟩, 0, 0, gLa1, A1, c1⟩, ⟨⟨#[67]⟩, 1000, 0, gLa2, A2, c2⟩]
def OutGd (e : Ending) (w' : World) : Prop := ∃ AS cS AB cB A1 c1 A2 c2, e = .returned (.agg #[.slice AS 2 cS, .slice AB 2 cB]) ∧ GrW w' gSo AS (gBo A1 c1 A2 c2) AB
set_option maxHeartbeats 4000000 in
set_option maxRecDepth 100000 in
theorem ground_c (w : World) : Calls Tryz.prog 18 #[] w fun e w' => OutGd e w' ∧ Ext w w' := by
  go_enter Tryz.func18, Tryz.ntmps18
  go_wp2
  refine bodyPost_ret (v := .agg #[.slice (some ⟨w.heap.size + 1, 0, none⟩) 2 2, .slice (some ⟨w.heap.size + 1 + 1 + 1 + 1, 0, none⟩) 2 2]) (by simp [results, Tryz.results18, go_sem]) rfl ⟨⟨some ⟨w.heap.size + 1, 0, none⟩, 2, some ⟨w.heap.size + 1 + 1 + 1 + 1, 0, none⟩, 2, some ⟨w.heap.size + 1 + 1, 0, none⟩, 2, some ⟨w.heap.size + 1 + 1 + 1, 0, none⟩, 1, rfl, ?_⟩, ?_⟩
  · refine ⟨by decide, by simp [gBo], Row.ext (Row.new' encSo_len _ _ _ gSo _ ?_ rfl) (Ext.al (Ext.al (Ext.al (Ext.rfl' _) _) _) _), Row.new' encBo_len _ _ _ (gBo _ 2 _ 1) _ ?_ rfl, fun k hk => ?_⟩
    · simp
    · simp
    · rcases (by simp [gBo] at hk; omega : k = 0 ∨ k = 1) with rfl | rfl
      · refine ⟨Row.ext (Row.new' encLa_len _ _ _ gLa1 _ ?_ rfl) (Ext.al (Ext.al (Ext.rfl' _) _) _), (show 2 ≤ 1000 by decide), (show 2 ≤ 2 by decide)⟩
        simp
      · refine ⟨Row.ext (Row.new' encLa_len _ _ _ gLa2 _ ?_ rfl) (Ext.al (Ext.rfl' _) _), (show 1 ≤ 1000 by decide), (show 1 ≤ 1 by decide)⟩
        simp
  · (repeat (first | with_reducible exact Ext.rfl' _ | with_reducible assumption | with_reducible refine Ext.al ?_ _ | with_reducible refine Ext.dr ?_ | with_reducible refine Ext.st ?_ (by simp) _ | with_reducible refine Ext.tr ?_ (by assumption)))
theorem sameS_fn : sameS = fun a b => decide (a.data.toList = b.data.toList) := by funext a b; exact sameS_lit a b
theorem g_ok (A1 : Option Addr) (c1 : Nat) (A2 : Option Addr) (c2 : Nat) : chkGr gSo (gBo A1 c1 A2 c2) = 0 := by
  unfold chkGr chkSoils chkBos soE bosE boE namedE dupAt laE hasSoil
  rw [sameS_fn]
  kernel_rfl
theorem g_at (A1 : Option Addr) (c1 : Nat) (A2 : Option Addr) (c2 : Nat) : pcE gSo (gBo A1 c1 A2 c2) 500 0 [-699] = 0 := by
  unfold pcE
  rw [g_ok]
  kernel_rfl
theorem g_soil (A1 : Option Addr) (c1 : Nat) (A2 : Option Addr) (c2 : Nat) : soilB (gBo A1 c1 A2 c2) 500 0 (-699) = sMud := by kernel_rfl
def gGr : Gr := ⟨0, 0, 100, 2, 1, [-500, -550]⟩
theorem g_bed (A1 : Option Addr) (c1 : Nat) (A2 : Option Addr) (c2 : Nat) : cbE gSo (gBo A1 c1 A2 c2) gGr = 0 := by
  unfold cbE
  rw [g_ok]
  kernel_rfl
theorem g_run (A1 : Option Addr) (c1 : Nat) (A2 : Option Addr) (c2 : Nat) : rL gSo (gBo A1 c1 A2 c2) gGr 2 = [100, 100] := by
  have h : ∀ i, i < 2 → rF gSo (gBo A1 c1 A2 c2) gGr 2 i = 100 := by
    intro i hi
    have hs : softN gSo gLa1 2 = 100 := by
      unfold softN softN softN hasLa
      rw [sameS_fn]
      kernel_rfl
    have hn : nearB (gBo A1 c1 A2 c2) (ctX gGr 2 i) (ctY gGr 2 i) = 0 := by
      rcases (by omega : i = 0 ∨ i = 1) with rfl | rfl <;> kernel_rfl
    unfold rF runB
    rw [hn]
    exact hs
  unfold rL mkI
  show [rF gSo (gBo A1 c1 A2 c2) gGr 2 0, rF gSo (gBo A1 c1 A2 c2) gGr 2 1] = [100, 100]
  rw [h 0 (by omega), h 1 (by omega)]
theorem g_prs : prsN 2 gGr.L.length (knB gGr.L) gGr.L.length = [(0, 1)] := by kernel_rfl
theorem g_slump {al : Nat → Nat → Int} (hal : al 0 1 = 10) {L : List Int} (h : IsSl [(0, 1)] al gGr.L L) : L = [-540, -550] := by
  refine h.one ⟨⟨rfl, ?_, ?_, ?_, ?_⟩, ?_⟩
  · intro i
    match i with
    | 0 => decide
    | 1 => decide
    | i + 2 => simp [gi, gGr]
  · intro i
    match i with
    | 0 => decide
    | 1 => decide
    | i + 2 => simp [gi, gGr]
  · intro i
    match i with
    | 0 => decide
    | 1 => decide
    | i + 2 => simp [gi]
  · intro X h1 h2 i
    have h3 := h1 0
    have h4 := h1 1
    have h5 := h2 (0, 1) (by simp)
    unfold okP at h5
    simp only [hal] at h5
    match i with
    | 0 => simp [gi, gGr] at h3 h4 h5 ⊢; omega
    | 1 => simp [gi, gGr] at h4 ⊢; omega
    | i + 2 => have h6 := h1 (i + 2); simp [gi, gGr] at h6 ⊢; omega
  · intro p hp
    simp at hp
    subst hp
    unfold okP
    simp only [hal]
    decide
theorem at_gc (w : World) (AS AB A1 A2 : Option Addr) (cS cB c1 c2 : Nat) (g : GrW w gSo AS (gBo A1 c1 A2 c2) AB) :
    Calls Tryz.prog 17 #[.agg #[.slice AS 2 cS, .slice AB 2 cB], .agg #[.int .i64 500, .int .i64 0], .int .i64 (-699)] w fun e w' => e = .returned (.tuple #[.string sMud, .int .i64 0]) ∧ Ext w w' := by
  have h := at_c gSo (gBo A1 c1 A2 c2) 500 0 (-699) w AS AB cS cB g
  rw [g_at, if_pos rfl, g_soil] at h
  exact h
def OutSg (_base : Nat) (e : Ending) (w' : World) : Prop := ∃ A c, e = .returned (.tuple #[.agg #[.int .i64 0, .int .i64 0, .int .i64 100, .int .i64 2, .int .i64 1, .slice A 2 c], .int .i64 400000, .int .i64 0]) ∧ Row 1 encZ w' A [-540, -550]
theorem slump_gc (w : World) (AS AB A1 A2 A : Option Addr) (cS cB c1 c2 c : Nat) (g : GrW w gSo AS (gBo A1 c1 A2 c2) AB) (hA : Row 1 encZ w A [-500, -550]) :
    Calls Tryz.prog 19 #[.agg #[.slice AS 2 cS, .slice AB 2 cB], .agg #[.int .i64 0, .int .i64 0, .int .i64 100, .int .i64 2, .int .i64 1, .slice A 2 c]] w fun e w' => OutSg w.heap.size e w' ∧ Ext w w' := by
  have h := gslump_ok_c gSo (gBo A1 c1 A2 c2) gGr 2 1 w AS AB A cS cB c g (g_bed _ _ _ _) rfl rfl hA
  rw [g_run, g_prs] at h
  refine h.mono ?_
  rintro e w' ⟨⟨L, B, d, he, hN, hS⟩, hE⟩
  have hL := g_slump (al := alw gGr.S [100, 100]) (by kernel_rfl) hS
  subst hL
  exact ⟨⟨B, d, he, hN.row⟩, hE⟩
theorem ints_gc (w : World) (A B : Option Addr) (c d : Nat) (hA : Row 1 encZ w A [-540, -550]) (hB : Row 1 encZ w B [-540, -550]) :
    Calls Tryz.prog 15 #[.slice A 2 c, .slice B 2 d] w fun e w' => e = .returned (.bool true) ∧ Ext w w' := by
  have h := ints_c [-540, -550] [-540, -550] w A B c d (by unfold maxLen; decide) hA hB
  refine h.mono ?_
  rintro e w' ⟨he, hE⟩
  refine ⟨by rw [he]; rfl, ?_⟩
  first | exact hE | exact hE ▸ Ext.rfl' _
set_option maxHeartbeats 16000000 in
set_option maxRecDepth 100000 in
theorem awake_c (w : World) : Calls Tryz.prog 4 #[] w fun e w' => e = .returned (.bool true) ∧ Ext w w' := by
  have HG := Lib.hid ground_c
  have HAT := Lib.hid at_gc
  have HSL := Lib.hid slump_gc
  have HIN := Lib.hid ints_gc
  have hms : sMud.toList = [109, 117, 100] := by rw [ByteArray.toList_eq]; rfl
  go_enter Tryz.func4, Tryz.ntmps4
  go_upto_region 2 with (first | (go_at_call 18; (with_reducible refine Calls.mono (HG.out _) ?_); rintro e w1 ⟨⟨AS, cS, AB, cB, A1, c1, A2, c2, rfl, hG1⟩, hb⟩; have hc := hb.ccell; have hf := hb.frz; have hs := hb.sz; (try simp at hs); (try have t0 := hs (w.heap.size) (by first | assumption | omega)); (try have t1 := hs (w.heap.size) (by first | assumption | omega)); (try have t2 := hs (w.heap.size) (by first | assumption | omega)); (try have t3 := hs (w.heap.size) (by first | assumption | omega)); (try have t4 := hs (w.heap.size) (by first | assumption | omega)); (try have t5 := hs (w.heap.size) (by first | assumption | omega))) | (go_at_call 17; with_reducible refine Calls.mono (HAT.out _ _ _ _ _ _ _ _ _ hG1) ?_; rintro e w2 ⟨rfl, hb⟩; have hc := hb.ccell; have hf := hb.frz; have hs := hb.sz; (try simp at hs); (try have t0 := hs (w.heap.size) (by first | assumption | omega)); (try have t1 := hs (w.heap.size) (by first | assumption | omega)); (try have t2 := hs (w.heap.size) (by first | assumption | omega)); (try have t3 := hs (w.heap.size) (by first | assumption | omega)); (try have t4 := hs (w.heap.size) (by first | assumption | omega)); (try have t5 := hs (w.heap.size) (by first | assumption | omega))))
  have hE2 : Ext w w2 := by (repeat (first | with_reducible exact Ext.rfl' _ | with_reducible assumption | with_reducible refine Ext.al ?_ _ | with_reducible refine Ext.dr ?_ | with_reducible refine Ext.st ?_ (by simp) _ | with_reducible refine Ext.tr ?_ (by assumption)))
  clear hb hc hf hs hG1
  go_upto_region 3 with (first | (go_at_call 18; (with_reducible refine Calls.mono (HG.out _) ?_); rintro e w3 ⟨⟨AS, cS, AB, cB, A1, c1, A2, c2, rfl, hG3⟩, hb⟩; have hc := hb.ccell; have hf := hb.frz; have hs := hb.sz; (try simp at hs); (try have t0 := hs (w.heap.size) (by first | assumption | omega)); (try have t1 := hs (w.heap.size) (by first | assumption | omega)); (try have t2 := hs (w.heap.size) (by first | assumption | omega)); (try have t3 := hs (w.heap.size) (by first | assumption | omega)); (try have t4 := hs (w.heap.size) (by first | assumption | omega)); (try have t5 := hs (w.heap.size) (by first | assumption | omega))) | (go_at_call 19; (with_reducible refine Calls.mono (HSL.out _ _ _ _ _ _ _ _ _ _ _ (hG3.ext (by (repeat (first | with_reducible exact Ext.rfl' _ | with_reducible assumption | with_reducible refine Ext.al ?_ _ | with_reducible refine Ext.dr ?_ | with_reducible refine Ext.st ?_ (by simp) _ | with_reducible refine Ext.tr ?_ (by assumption))))) (Row.new' encZ_len _ _ _ _ _ (by simp) rfl)) ?_); rintro e w4 ⟨⟨A4, c4, rfl, hR4⟩, hb⟩; have hc := hb.ccell; have hf := hb.frz; have hs := hb.sz; (try simp at hs); (try have t0 := hs (w.heap.size) (by first | assumption | omega)); (try have t1 := hs (w.heap.size) (by first | assumption | omega)); (try have t2 := hs (w.heap.size) (by first | assumption | omega)); (try have t3 := hs (w.heap.size) (by first | assumption | omega)); (try have t4 := hs (w.heap.size) (by first | assumption | omega)); (try have t5 := hs (w.heap.size) (by first | assumption | omega))))
  refine wp_name (fun W hW => ?_)
  have hEW : Ext w W := by rw [hW]; (repeat (first | with_reducible exact Ext.rfl' _ | with_reducible assumption | with_reducible refine Ext.al ?_ _ | with_reducible refine Ext.dr ?_ | with_reducible refine Ext.st ?_ (by simp) _ | with_reducible refine Ext.tr ?_ (by assumption)))
  have k5 : W.cell? ⟨w4.heap.size, 5, none⟩ = some (.slice A4 2 c4) := by rw [hW]; simp [go_sem]
  have z4 : w4.heap.size < W.heap.size := by rw [hW]; simp
  have hRW := Lib.hid (hR4.ext (show Ext w4 W by rw [hW]; (repeat (first | with_reducible exact Ext.rfl' _ | with_reducible assumption | with_reducible refine Ext.al ?_ _ | with_reducible refine Ext.dr ?_ | with_reducible refine Ext.st ?_ (by simp) _ | with_reducible refine Ext.tr ?_ (by assumption)))))
  clear hW hb hc hf hs hG3 hR4
  go_wp2_with (first | (go_at_call 15; with_reducible refine Calls.mono (HIN.out _ _ _ _ _ (hRW.out.ext (by (repeat (first | with_reducible exact Ext.rfl' _ | with_reducible assumption | with_reducible refine Ext.al ?_ _ | with_reducible refine Ext.dr ?_ | with_reducible refine Ext.st ?_ (by simp) _ | with_reducible refine Ext.tr ?_ (by assumption))))) (Row.new' encZ_len _ _ _ _ _ (by simp) rfl)) ?_; rintro e w1 ⟨rfl, hb⟩; have hc := hb.ccell; have hf := hb.frz; have hs := hb.sz; (try simp at hs); (try have hs0 := hs w.heap.size (by omega)); (try have hs1 := hs (w.heap.size + 1) (by omega)); (try have hs2 := hs (w.heap.size + 1 + 1) (by omega)); (try have hs3 := hs (w.heap.size + 1 + 1 + 1) (by omega))))
  go_ret
  exact ⟨rfl, by (repeat (first | with_reducible exact Ext.rfl' _ | with_reducible assumption | with_reducible refine Ext.al ?_ _ | with_reducible refine Ext.dr ?_ | with_reducible refine Ext.st ?_ (by simp) _ | with_reducible refine Ext.tr ?_ (by assumption)))⟩
end Go.Proofs.YtgbkjioajmnjbaaGreat
