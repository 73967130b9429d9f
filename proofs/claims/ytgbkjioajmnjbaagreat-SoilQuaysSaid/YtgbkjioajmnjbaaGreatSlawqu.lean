/- SoilQuays: the law returns true for every input. Conditions: none. -/
import Derived.Test.YtgbkjioajmnjbaaGreatSwg
import Derived.Test.YtgbkjioajmnjbaaGreatSwh
import Derived.Test.YtgbkjioajmnjbaaGreatSwi
import Derived.Test.YtgbkjioajmnjbaaGreatSqlib
import Derived.Test.YtgbkjioajmnjbaaGreatSawake
namespace Go.Proofs.YtgbkjioajmnjbaaGreat
open Go Go.RowKit Go.IntWalk

theorem first_fr (q : Qu) (g : Gr) : firstE (gi [quE q, chkG g]) 2 = frE q g := by
  have h0 : gi [quE q, chkG g] 0 = quE q := rfl
  have h1 : gi [quE q, chkG g] 1 = chkG g := rfl
  simp only [firstE, h0, h1]
  unfold frE
  by_cases ha : quE q = 0 <;> simp [*]
theorem keepP6 {W w' : World} {b c : Nat} (h : Ext W w') (hb : b < W.heap.size) (hc : c < W.heap.size) : (∀ j : Nat, w'.cell? ⟨b, j, none⟩ = W.cell? ⟨b, j, none⟩) ∧ (∀ j : Nat, w'.cell? ⟨c, j, none⟩ = W.cell? ⟨c, j, none⟩) ∧ Ext W w' := ⟨fun _ => h.ccell _ _ hb, fun _ => h.ccell _ _ hc, h⟩
theorem keepQ3 {W w' : World} {a b c : Nat} (h : Ext W w') (ha : a < W.heap.size) (hb : b < W.heap.size) (hc : c < W.heap.size) :
    (∀ j : Nat, w'.cell? ⟨a, j, none⟩ = W.cell? ⟨a, j, none⟩) ∧ (∀ j : Nat, w'.cell? ⟨b, j, none⟩ = W.cell? ⟨b, j, none⟩) ∧ (∀ j : Nat, w'.cell? ⟨c, j, none⟩ = W.cell? ⟨c, j, none⟩) :=
  ⟨fun _ => h.ccell _ _ ha, fun _ => h.ccell _ _ hb, fun _ => h.ccell _ _ hc⟩
theorem sameGrid_self (g : Gr) (L : List Int) (w : World) (A B : Option Addr) (c d : Nat) (hl : g.L.length ≤ maxLen) (hn : L.length = g.L.length) (hA : Row 1 encZ w A L) (hB : Row 1 encZ w B L) :
    Calls Tryz.prog 13 #[.agg #[.int .i64 g.X, .int .i64 g.Y, .int .i64 g.S, .int .i64 g.C, .int .i64 g.R, .slice A g.L.length c], .agg #[.int .i64 g.X, .int .i64 g.Y, .int .i64 g.S, .int .i64 g.C, .int .i64 g.R, .slice B g.L.length d]] w fun e w' => e = .returned (.bool true) ∧ Ext w w' := by
  have h := sameGrid_c (withL g L) (withL g L) w A B c d (by rw [show (withL g L).L = L from rfl, hn]; exact hl) hA hB
  rw [(sameB_iff (withL g L) (withL g L)).2 ⟨rfl, rfl, rfl, rfl, rfl⟩, show (withL g L).L = L from rfl, decide_eq_true rfl, hn] at h
  exact h
set_option maxHeartbeats 64000000 in
set_option maxRecDepth 100000 in
theorem qu_err (q : Qu) (g : Gr) (w : World) (A : Option Addr) (c : Nat) (h50 : q.s.size ≤ 50) (h30 : g.L.length ≤ 30) (hl : g.L.length ≤ maxLen) (hA : Row 1 encZ w A g.L) (h0 : frE q g ≠ 0) :
    Calls Tryz.prog 3 #[.agg #[.string q.s, .int .i64 q.a.x, .int .i64 q.a.y, .int .i64 q.b.x, .int .i64 q.b.y, .int .i64 q.lev, .int .i64 q.run], .agg #[.int .i64 g.X, .int .i64 g.Y, .int .i64 g.S, .int .i64 g.C, .int .i64 g.R, .slice A g.L.length c]] w fun e w' => e = .returned (.bool true) ∧ Ext w w' := by
  have HSM := Lib.hid (fun w' => small6_c g w' A c hl)
  rw [decide_eq_true h30] at HSM
  have HW := Lib.hid (fun w' (hw : Ext w w') => gwedge_err q g w' A c hl (hA.ext hw) h0)
  have HU := Lib.hid (fun w' (hw : Ext w w') => gunder_err q g w' A c hl (hA.ext hw) h0)
  have HQ := Lib.hid (fun w' => checkQuay_c q w')
  have HRQ := Lib.hid (fun w' => rcheckQuay_c q w')
  have HRC := Lib.hid (fun w' (hw : Ext w w') => rcheck_c g w' A c hl (hA.ext hw))
  have HF := Lib.hid (fun w' A2 c2 hr => by have h := first6_c [quE q, chkG g] w' A2 c2 (by simp) hr; rw [show [quE q, chkG g].length = 2 from rfl, first_fr] at h; exact h)
  have h0' : (frE q g != 0) = true := by simp [h0]
  have h51 : ¬ (50 : Int) < (q.s.size : Int) := by omega
  clear h0 hA hl h30
  generalize quE q = E1 at *
  generalize chkG g = E2 at *
  generalize frE q g = E at *
  go_enter Tryz.func3, Tryz.ntmps3
  go_upto_region 7 with (first | (go_at_call 4; with_reducible refine Calls.mono (awake_c _) ?_; rintro e wa ⟨rfl, hb⟩; have hc := hb.ccell; have hf := hb.frz; have hs := hb.sz; (try simp at hs); (try have t0 := hs (w.heap.size) (by first | assumption | omega)); (try have t1 := hs (w.heap.size + 1) (by first | assumption | omega)); (try have t2 := hs (w.heap.size) (by first | assumption | omega)); (try have t3 := hs (w.heap.size) (by first | assumption | omega)); (try have t4 := hs (w.heap.size) (by first | assumption | omega)); (try have t5 := hs (w.heap.size) (by first | assumption | omega))) | (go_at_call 5; with_reducible refine Calls.mono (HSM.out _) ?_; rintro e wm ⟨rfl, hb⟩; have hc := hb.ccell; have hf := hb.frz; have hs := hb.sz; (try simp at hs); (try have t0 := hs (w.heap.size) (by first | assumption | omega)); (try have t1 := hs (w.heap.size + 1) (by first | assumption | omega)); (try have t2 := hs (w.heap.size) (by first | assumption | omega)); (try have t3 := hs (w.heap.size) (by first | assumption | omega)); (try have t4 := hs (w.heap.size) (by first | assumption | omega)); (try have t5 := hs (w.heap.size) (by first | assumption | omega))) | (go_at_call 6; with_reducible refine Calls.mono (HW.out _ (by (repeat (first | with_reducible exact Ext.rfl' _ | with_reducible assumption | with_reducible refine Ext.al ?_ _ | with_reducible refine Ext.dr ?_ | with_reducible refine Ext.st ?_ (by simp) _ | with_reducible refine Ext.tr ?_ (by assumption))))) ?_; rintro e w2 ⟨rfl, hb⟩; have hc := hb.ccell; have hf := hb.frz; have hs := hb.sz; (try simp at hs); (try have t0 := hs (w.heap.size) (by first | assumption | omega)); (try have t1 := hs (w.heap.size + 1) (by first | assumption | omega)); (try have t2 := hs (w.heap.size) (by first | assumption | omega)); (try have t3 := hs (w.heap.size) (by first | assumption | omega)); (try have t4 := hs (w.heap.size) (by first | assumption | omega)); (try have t5 := hs (w.heap.size) (by first | assumption | omega))) | (go_at_call 7; with_reducible refine Calls.mono (HU.out _ (by (repeat (first | with_reducible exact Ext.rfl' _ | with_reducible assumption | with_reducible refine Ext.al ?_ _ | with_reducible refine Ext.dr ?_ | with_reducible refine Ext.st ?_ (by simp) _ | with_reducible refine Ext.tr ?_ (by assumption))))) ?_; rintro e w3 ⟨rfl, hb⟩; have hc := hb.ccell; have hf := hb.frz; have hs := hb.sz; (try simp at hs); (try have t0 := hs (w.heap.size) (by first | assumption | omega)); (try have t1 := hs (w.heap.size + 1) (by first | assumption | omega)); (try have t2 := hs (w2.heap.size) (by first | assumption | omega)); (try have t3 := hs (w.heap.size) (by first | assumption | omega)); (try have t4 := hs (w.heap.size) (by first | assumption | omega)); (try have t5 := hs (w.heap.size) (by first | assumption | omega))))
  refine wp_name (fun W hW => ?_)
  have hEW : Ext w W := by rw [hW]; (repeat (first | with_reducible exact Ext.rfl' _ | with_reducible assumption | with_reducible refine Ext.al ?_ _ | with_reducible refine Ext.dr ?_ | with_reducible refine Ext.st ?_ (by simp) _ | with_reducible refine Ext.tr ?_ (by assumption)))
  have kq : CellsAt W w.heap.size 0 [.string q.s, .int .i64 q.a.x, .int .i64 q.a.y, .int .i64 q.b.x, .int .i64 q.b.y, .int .i64 q.lev, .int .i64 q.run] := by rw [hW]; refine cells_seven ⟨?_, ?_, ?_, ?_, ?_, ?_, ?_⟩ <;> simp [*, go_sem]
  have km : CellsAt W (w.heap.size + 1) 0 [.int .i64 g.X, .int .i64 g.Y, .int .i64 g.S, .int .i64 g.C, .int .i64 g.R, .slice A g.L.length c] := by rw [hW]; refine cells_six ⟨?_, ?_, ?_, ?_, ?_, ?_⟩ <;> simp [*, go_sem]
  have kn : CellsAt W w2.heap.size 0 [.int .i64 0, .int .i64 0, .int .i64 0, .int .i64 0, .int .i64 0, .slice none 0 0] := by rw [hW]; refine cells_six ⟨?_, ?_, ?_, ?_, ?_, ?_⟩ <;> simp [*, go_sem]
  have zn : w2.heap.size < W.heap.size := by rw [hW]; first | assumption | (simp; omega)
  have z1 : w.heap.size + 1 < W.heap.size := by rw [hW]; first | assumption | (simp; omega)
  have z0 : w.heap.size < W.heap.size := by omega
  clear hW hb hc hf hs t0 t1 t2 t3 t4 t5 HSM HW HU
  generalize w2.heap.size = nn at *
  generalize w.heap.size + 1 = nm at *
  obtain ⟨j0, j1, j2, j3, j4, j5, j6⟩ := kq.seven
  obtain ⟨m0, m1, m2, m3, m4, m5⟩ := km.six
  refine region_grow (by kernel_rfl) (by kernel_rfl) ?_
  repeat (first | go_big_quiet_step (first | (go_at_call 8; with_reducible exact callsGrow (HQ.out _)) | (go_at_call 9; with_reducible exact callsGrow (HRQ.out _)) | fail) | quiet_step (first | (go_at_call 8; with_reducible exact callsGrow (HQ.out _)) | (go_at_call 9; with_reducible exact callsGrow (HRQ.out _)) | fail))
  refine wpQuiet_nil ?_
  intro w1 hb
  have hc := hb.ccell
  have hf := hb.frz
  have hs := hb.sz
  (try simp at hs); (try have hs0 := hs w.heap.size (by omega)); (try have hs1 := hs (w.heap.size + 1) (by omega)); (try have hs2 := hs (w.heap.size + 1 + 1) (by omega)); (try have hs3 := hs (w.heap.size + 1 + 1 + 1) (by omega))
  (try simp only [IntWalk.i64_left])
  have hE1 : Ext W w1 := by assumption
  have hEw := hEW.tr hE1
  have kq := kq.ext hE1 z0
  have km := km.ext hE1 z1
  have kn := kn.ext hE1 zn
  have z0 := hE1.sz _ z0
  have z1 := hE1.sz _ z1
  have zn := hE1.sz _ zn
  clear j0 j1 j2 j3 j4 j5 j6 m0 m1 m2 m3 m4 m5 hb hc hf hs hE1 hEW
  (try clear hs0); (try clear hs1); (try clear hs2); (try clear hs3)
  obtain ⟨j0, j1, j2, j3, j4, j5, j6⟩ := kq.seven
  obtain ⟨m0, m1, m2, m3, m4, m5⟩ := km.six
  go_upto_region 9 with fail
  go_cut [9] (fun x wx => x = .int .i64 E ∧ Ext w1 wx)
  case first =>
    go_region_held3 (fun w' => (∀ j : Nat, w'.cell? ⟨w.heap.size, j, none⟩ = w1.cell? ⟨w.heap.size, j, none⟩) ∧ (∀ j : Nat, w'.cell? ⟨nm, j, none⟩ = w1.cell? ⟨nm, j, none⟩) ∧ Ext w1 w') ((refine keepP6 ?_ z0 z1; (repeat (first | with_reducible exact Ext.rfl' _ | with_reducible assumption | with_reducible refine Ext.al ?_ _ | with_reducible refine Ext.dr ?_ | with_reducible refine Ext.st ?_ (by first | (simp; done) | ((try have h9 := Below.size hb2); (try have h8 := Below.size hb3); (try have h7 := Below.size hb4); (try simp at h9); (try simp at h8); (try simp at h7); (try simp); omega)) _ | with_reducible refine Ext.tr ?_ (by with_reducible assumption) | (with_reducible exact (by with_reducible assumption : _ ∧ _ ∧ Ext w1 _).2.2))))) (first | (go_at_call 9; (with_reducible refine Calls.mono (HRQ.out _) ?_); rintro e w2 ⟨rfl, hb2⟩; have hc2 := hb2.ccell; have hf2 := hb2.frz; have hs2 := hb2.sz) | (go_at_call 11; (with_reducible refine Calls.mono (HRC.out _ (hEw.tr (by (repeat (first | with_reducible exact Ext.rfl' _ | with_reducible assumption | with_reducible refine Ext.al ?_ _ | with_reducible refine Ext.dr ?_ | with_reducible refine Ext.st ?_ (by first | (simp; done) | ((try have h9 := Below.size hb2); (try have h8 := Below.size hb3); (try have h7 := Below.size hb4); (try simp at h9); (try simp at h8); (try simp at h7); (try simp); omega)) _ | with_reducible refine Ext.tr ?_ (by with_reducible assumption) | (with_reducible exact (by with_reducible assumption : _ ∧ _ ∧ Ext w1 _).2.2)))))) ?_); rintro e w3 ⟨rfl, hb3⟩; have hc3 := hb3.ccell; have hf3 := hb3.frz; have hs3 := hb3.sz) | (go_at_call 10; (with_reducible refine Calls.mono (HF.out _ _ _ (Row.new' encZ_len _ _ _ _ _ (by simp) rfl)) ?_); rintro e w4 ⟨rfl, hb4⟩; have hc4 := hb4.ccell; have hf4 := hb4.frz; have hs4 := hb4.sz))
    all_goals
      rename_i hJ hK h1 h2 hH
      clear hH
      refine h2 _ _ (Met.intro (h1 _ _ ?_))
      (repeat apply Exists.intro)
      refine ⟨?_, rfl⟩
      exact ⟨rfl, by (repeat (first | with_reducible exact Ext.rfl' _ | with_reducible assumption | with_reducible refine Ext.al ?_ _ | with_reducible refine Ext.dr ?_ | with_reducible refine Ext.st ?_ (by simp) _ | with_reducible refine Ext.tr ?_ (by assumption)))⟩
  case rest =>
  obtain ⟨rfl, hx⟩ := hcut
  have hEc := hEw.tr hx
  obtain ⟨n0, n1, n2, n3, n4, n5⟩ := (kn.ext hx zn).six
  have yn := hx.sz _ zn
  clear kq km kn z0 z1 zn hx hEw HQ HRQ HRC HF j0 j1 j2 j3 j4 j5 j6 m0 m1 m2 m3 m4 m5
  go_wp2_with (first | (go_at_call 12; with_reducible refine Calls.mono (nothing0_c _) ?_; rintro e w8 ⟨rfl, hb⟩; have hc := hb.ccell; have hf := hb.frz; have hs := hb.sz; (try simp at hs); (try have t0 := hs (w.heap.size) (by first | assumption | omega)); (try have t1 := hs (nm) (by first | assumption | omega)); (try have t2 := hs (nn) (by first | assumption | omega)); (try have t3 := hs (w.heap.size) (by first | assumption | omega)); (try have t4 := hs (w.heap.size) (by first | assumption | omega)); (try have t5 := hs (w.heap.size) (by first | assumption | omega))))
  go_ret
  exact ⟨by first | rfl | (simp; done), hEc.tr (by (repeat (first | with_reducible exact Ext.rfl' _ | with_reducible assumption | with_reducible refine Ext.al ?_ _ | with_reducible refine Ext.dr ?_ | with_reducible refine Ext.st ?_ (by simp) _ | with_reducible refine Ext.tr ?_ (by assumption))))⟩
set_option maxHeartbeats 64000000 in
set_option maxRecDepth 100000 in
theorem qu_ok (q : Qu) (g : Gr) (w : World) (A : Option Addr) (c : Nat) (h50 : q.s.size ≤ 50) (h30 : g.L.length ≤ 30) (hl : g.L.length ≤ maxLen) (hA : Row 1 encZ w A g.L) (h0 : frE q g = 0) :
    Calls Tryz.prog 3 #[.agg #[.string q.s, .int .i64 q.a.x, .int .i64 q.a.y, .int .i64 q.b.x, .int .i64 q.b.y, .int .i64 q.lev, .int .i64 q.run], .agg #[.int .i64 g.X, .int .i64 g.Y, .int .i64 g.S, .int .i64 g.C, .int .i64 g.R, .slice A g.L.length c]] w fun e w' => e = .returned (.bool true) ∧ Ext w w' := by
  obtain ⟨hq0, hg0⟩ := frE_ok h0
  obtain ⟨cn, rn, e1, e2, e3, e4, e5, e6, e7, e8⟩ := (chkG_ok hg0).nat
  have HSM := Lib.hid (fun w' => small6_c g w' A c hl)
  rw [decide_eq_true h30] at HSM
  have HW := Lib.hid (fun w' (hw : Ext w w') => gwedge_ok q g cn w' A c hl (hA.ext hw) h0 e1)
  have HU := Lib.hid (fun w' (hw : Ext w w') => gunder_ok q g cn w' A c hl (hA.ext hw) h0 e1)
  have HRW := Lib.hid (fun w' (hw : Ext w w') => rwedge_c q g cn w' A c hq0 hg0 e1 (hA.ext hw))
  have HRU := Lib.hid (fun w' (hw : Ext w w') => runder_c q g cn w' A c hq0 hg0 e1 (hA.ext hw))
  have HQ := Lib.hid (fun w' => checkQuay_c q w')
  have HRQ := Lib.hid (fun w' => rcheckQuay_c q w')
  have HRC := Lib.hid (fun w' (hw : Ext w w') => rcheck_c g w' A c hl (hA.ext hw))
  rw [hq0] at HQ HRQ
  rw [hg0] at HRC
  have HF := Lib.hid (fun w' A2 c2 hr => by have h := first6_c [0, 0] w' A2 c2 (by simp) hr; rw [show [(0 : Int), 0].length = 2 from rfl, show firstE (gi [0, 0]) 2 = 0 from rfl] at h; exact h)
  have hMl : (wdL q g cn).length = g.L.length := mkI_len _ _
  have hUl := unK_le (wdC q g cn) g.L g.L.length
  generalize wdL q g cn = M at *
  generalize unK (wdC q g cn) g.L g.L.length = U at *
  have HSG := Lib.hid (fun w' A2 A3 c2 c3 hr2 hr3 => sameGrid_self g M w' A2 A3 c2 c3 hl hMl hr2 hr3)
  have HIN := Lib.hid (fun w' A2 A3 c2 c3 hr2 hr3 => by have h := ints_c (zl U) (zl U) w' A2 A3 c2 c3 (by rw [zl_len]; unfold maxLen at *; omega) hr2 hr3; rw [decide_eq_true rfl, zl_len] at h; exact h)
  unfold OutW at HW
  unfold OutU at HU
  unfold OutGL at HRW
  unfold OutZN at HRU
  have h51 : ¬ (50 : Int) < (q.s.size : Int) := by omega
  clear h0 hA hl h30 hq0 hg0 e1 e2 e3 e4 e5 e6 e7 e8 hMl hUl
  go_enter Tryz.func3, Tryz.ntmps3
  go_upto_region 7 with (first | (go_at_call 4; with_reducible refine Calls.mono (awake_c _) ?_; rintro e wa ⟨rfl, hb⟩; have hc := hb.ccell; have hf := hb.frz; have hs := hb.sz; (try simp at hs); (try have t0 := hs (w.heap.size) (by first | assumption | omega)); (try have t1 := hs (w.heap.size + 1) (by first | assumption | omega)); (try have t2 := hs (w.heap.size) (by first | assumption | omega)); (try have t3 := hs (w.heap.size) (by first | assumption | omega)); (try have t4 := hs (w.heap.size) (by first | assumption | omega)); (try have t5 := hs (w.heap.size) (by first | assumption | omega))) | (go_at_call 5; with_reducible refine Calls.mono (HSM.out _) ?_; rintro e wm ⟨rfl, hb⟩; have hc := hb.ccell; have hf := hb.frz; have hs := hb.sz; (try simp at hs); (try have t0 := hs (w.heap.size) (by first | assumption | omega)); (try have t1 := hs (w.heap.size + 1) (by first | assumption | omega)); (try have t2 := hs (w.heap.size) (by first | assumption | omega)); (try have t3 := hs (w.heap.size) (by first | assumption | omega)); (try have t4 := hs (w.heap.size) (by first | assumption | omega)); (try have t5 := hs (w.heap.size) (by first | assumption | omega))) | (go_at_call 6; (with_reducible refine Calls.mono (HW.out _ (by (repeat (first | with_reducible exact Ext.rfl' _ | with_reducible assumption | with_reducible refine Ext.al ?_ _ | with_reducible refine Ext.dr ?_ | with_reducible refine Ext.st ?_ (by simp) _ | with_reducible refine Ext.tr ?_ (by assumption))))) ?_); rintro e w2 ⟨⟨A2, c2, rfl, hN2⟩, hb⟩; have hc := hb.ccell; have hf := hb.frz; have hs := hb.sz; (try simp at hs); (try have t0 := hs (w.heap.size) (by first | assumption | omega)); (try have t1 := hs (w.heap.size + 1) (by first | assumption | omega)); (try have t2 := hs (w.heap.size) (by first | assumption | omega)); (try have t3 := hs (w.heap.size) (by first | assumption | omega)); (try have t4 := hs (w.heap.size) (by first | assumption | omega)); (try have t5 := hs (w.heap.size) (by first | assumption | omega))) | (go_at_call 7; (with_reducible refine Calls.mono (HU.out _ (by (repeat (first | with_reducible exact Ext.rfl' _ | with_reducible assumption | with_reducible refine Ext.al ?_ _ | with_reducible refine Ext.dr ?_ | with_reducible refine Ext.st ?_ (by simp) _ | with_reducible refine Ext.tr ?_ (by assumption))))) ?_); rintro e w3 ⟨⟨A3, c3, rfl, hN3⟩, hb⟩; have hc := hb.ccell; have hf := hb.frz; have hs := hb.sz; (try simp at hs); (try have t0 := hs (w.heap.size) (by first | assumption | omega)); (try have t1 := hs (w.heap.size + 1) (by first | assumption | omega)); (try have t2 := hs (w2.heap.size) (by first | assumption | omega)); (try have t3 := hs (w.heap.size) (by first | assumption | omega)); (try have t4 := hs (w.heap.size) (by first | assumption | omega)); (try have t5 := hs (w.heap.size) (by first | assumption | omega))))
  refine wp_name (fun W hW => ?_)
  have hEW : Ext w W := by rw [hW]; (repeat (first | with_reducible exact Ext.rfl' _ | with_reducible assumption | with_reducible refine Ext.al ?_ _ | with_reducible refine Ext.dr ?_ | with_reducible refine Ext.st ?_ (by simp) _ | with_reducible refine Ext.tr ?_ (by assumption)))
  have hR2 := Lib.hid (show Row 1 encZ W A2 M from hN2.row.ext (by rw [hW]; (repeat (first | with_reducible exact Ext.rfl' _ | with_reducible assumption | with_reducible refine Ext.al ?_ _ | with_reducible refine Ext.dr ?_ | with_reducible refine Ext.st ?_ (by simp) _ | with_reducible refine Ext.tr ?_ (by assumption)))))
  have hR3 := Lib.hid (show Row 1 encZ W A3 (zl U) from hN3.row.ext (by rw [hW]; (repeat (first | with_reducible exact Ext.rfl' _ | with_reducible assumption | with_reducible refine Ext.al ?_ _ | with_reducible refine Ext.dr ?_ | with_reducible refine Ext.st ?_ (by simp) _ | with_reducible refine Ext.tr ?_ (by assumption)))))
  have kq : CellsAt W w.heap.size 0 [.string q.s, .int .i64 q.a.x, .int .i64 q.a.y, .int .i64 q.b.x, .int .i64 q.b.y, .int .i64 q.lev, .int .i64 q.run] := by rw [hW]; refine cells_seven ⟨?_, ?_, ?_, ?_, ?_, ?_, ?_⟩ <;> simp [*, go_sem]
  have km : CellsAt W (w.heap.size + 1) 0 [.int .i64 g.X, .int .i64 g.Y, .int .i64 g.S, .int .i64 g.C, .int .i64 g.R, .slice A g.L.length c] := by rw [hW]; refine cells_six ⟨?_, ?_, ?_, ?_, ?_, ?_⟩ <;> simp [*, go_sem]
  have kn : CellsAt W w2.heap.size 0 [.int .i64 g.X, .int .i64 g.Y, .int .i64 g.S, .int .i64 g.C, .int .i64 g.R, .slice A2 g.L.length c2] := by rw [hW]; refine cells_six ⟨?_, ?_, ?_, ?_, ?_, ?_⟩ <;> simp [*, go_sem]
  have zn : w2.heap.size < W.heap.size := by rw [hW]; first | assumption | (simp; omega)
  have z1 : w.heap.size + 1 < W.heap.size := by rw [hW]; first | assumption | (simp; omega)
  have z0 : w.heap.size < W.heap.size := by omega
  clear hW hb hc hf hs t0 t1 t2 t3 t4 t5 HSM HW HU hN2 hN3
  generalize w2.heap.size = nn at *
  generalize w.heap.size + 1 = nm at *
  obtain ⟨j0, j1, j2, j3, j4, j5, j6⟩ := kq.seven
  obtain ⟨m0, m1, m2, m3, m4, m5⟩ := km.six
  refine region_grow (by kernel_rfl) (by kernel_rfl) ?_
  repeat (first | go_big_quiet_step (first | (go_at_call 8; with_reducible exact callsGrow (HQ.out _)) | (go_at_call 9; with_reducible exact callsGrow (HRQ.out _)) | fail) | quiet_step (first | (go_at_call 8; with_reducible exact callsGrow (HQ.out _)) | (go_at_call 9; with_reducible exact callsGrow (HRQ.out _)) | fail))
  refine wpQuiet_nil ?_
  intro w1 hb
  have hc := hb.ccell
  have hf := hb.frz
  have hs := hb.sz
  (try simp at hs); (try have hs0 := hs w.heap.size (by omega)); (try have hs1 := hs (w.heap.size + 1) (by omega)); (try have hs2 := hs (w.heap.size + 1 + 1) (by omega)); (try have hs3 := hs (w.heap.size + 1 + 1 + 1) (by omega))
  (try simp only [IntWalk.i64_left])
  have hE1 : Ext W w1 := by assumption
  have hEw := hEW.tr hE1
  have kq := kq.ext hE1 z0
  have km := km.ext hE1 z1
  have kn := kn.ext hE1 zn
  have hR2 := Lib.hid (hR2.out.ext hE1)
  have hR3 := Lib.hid (hR3.out.ext hE1)
  have z0 := hE1.sz _ z0
  have z1 := hE1.sz _ z1
  have zn := hE1.sz _ zn
  clear j0 j1 j2 j3 j4 j5 j6 m0 m1 m2 m3 m4 m5 hb hc hf hs hE1 hEW
  (try clear hs0); (try clear hs1); (try clear hs2); (try clear hs3)
  obtain ⟨j0, j1, j2, j3, j4, j5, j6⟩ := kq.seven
  obtain ⟨m0, m1, m2, m3, m4, m5⟩ := km.six
  go_upto_region 9 with fail
  go_cut [9] (fun x wx => x = .int .i64 0 ∧ Ext w1 wx)
  case first =>
    go_region_held3 (fun w' => (∀ j : Nat, w'.cell? ⟨w.heap.size, j, none⟩ = w1.cell? ⟨w.heap.size, j, none⟩) ∧ (∀ j : Nat, w'.cell? ⟨nm, j, none⟩ = w1.cell? ⟨nm, j, none⟩) ∧ Ext w1 w') ((refine keepP6 ?_ z0 z1; (repeat (first | with_reducible exact Ext.rfl' _ | with_reducible assumption | with_reducible refine Ext.al ?_ _ | with_reducible refine Ext.dr ?_ | with_reducible refine Ext.st ?_ (by first | (simp; done) | ((try have h9 := Below.size hb2); (try have h8 := Below.size hb3); (try have h7 := Below.size hb4); (try simp at h9); (try simp at h8); (try simp at h7); (try simp); omega)) _ | with_reducible refine Ext.tr ?_ (by with_reducible assumption) | (with_reducible exact (by with_reducible assumption : _ ∧ _ ∧ Ext w1 _).2.2))))) (first | (go_at_call 9; (with_reducible refine Calls.mono (HRQ.out _) ?_); rintro e w2 ⟨rfl, hb2⟩; have hc2 := hb2.ccell; have hf2 := hb2.frz; have hs2 := hb2.sz) | (go_at_call 11; (with_reducible refine Calls.mono (HRC.out _ (hEw.tr (by (repeat (first | with_reducible exact Ext.rfl' _ | with_reducible assumption | with_reducible refine Ext.al ?_ _ | with_reducible refine Ext.dr ?_ | with_reducible refine Ext.st ?_ (by first | (simp; done) | ((try have h9 := Below.size hb2); (try have h8 := Below.size hb3); (try have h7 := Below.size hb4); (try simp at h9); (try simp at h8); (try simp at h7); (try simp); omega)) _ | with_reducible refine Ext.tr ?_ (by with_reducible assumption) | (with_reducible exact (by with_reducible assumption : _ ∧ _ ∧ Ext w1 _).2.2)))))) ?_); rintro e w3 ⟨rfl, hb3⟩; have hc3 := hb3.ccell; have hf3 := hb3.frz; have hs3 := hb3.sz) | (go_at_call 10; (with_reducible refine Calls.mono (HF.out _ _ _ (Row.new' encZ_len _ _ _ _ _ (by simp) rfl)) ?_); rintro e w4 ⟨rfl, hb4⟩; have hc4 := hb4.ccell; have hf4 := hb4.frz; have hs4 := hb4.sz))
    all_goals
      rename_i hJ hK h1 h2 hH
      clear hH
      refine h2 _ _ (Met.intro (h1 _ _ ?_))
      (repeat apply Exists.intro)
      refine ⟨?_, rfl⟩
      exact ⟨rfl, by (repeat (first | with_reducible exact Ext.rfl' _ | with_reducible assumption | with_reducible refine Ext.al ?_ _ | with_reducible refine Ext.dr ?_ | with_reducible refine Ext.st ?_ (by simp) _ | with_reducible refine Ext.tr ?_ (by assumption)))⟩
  case rest =>
  obtain ⟨rfl, hx⟩ := hcut
  have hEc := hEw.tr hx
  have hR2 := Lib.hid (hR2.out.ext hx)
  have hR3 := Lib.hid (hR3.out.ext hx)
  obtain ⟨wd, hwd⟩ : ∃ x, x = wc := ⟨_, rfl⟩
  subst hwd
  have kq := kq.ext hx z0
  have km := km.ext hx z1
  have kn := kn.ext hx zn
  have z0 := hx.sz _ z0
  have z1 := hx.sz _ z1
  have zn := hx.sz _ zn
  clear hx hEw HQ HRQ HRC HF j0 j1 j2 j3 j4 j5 j6 m0 m1 m2 m3 m4 m5
  obtain ⟨j0, j1, j2, j3, j4, j5, j6⟩ := kq.seven
  obtain ⟨m0, m1, m2, m3, m4, m5⟩ := km.six
  obtain ⟨n0, n1, n2, n3, n4, n5⟩ := kn.six
  go_upto_region 12 with fail
  go_cut [4] (fun s wx => s = .bool true ∧ Ext wd wx)
  case first =>
    go_region_held3 (fun w' => (∀ j : Nat, w'.cell? ⟨w.heap.size, j, none⟩ = wd.cell? ⟨w.heap.size, j, none⟩) ∧ (∀ j : Nat, w'.cell? ⟨nm, j, none⟩ = wd.cell? ⟨nm, j, none⟩) ∧ (∀ j : Nat, w'.cell? ⟨nn, j, none⟩ = wd.cell? ⟨nn, j, none⟩)) ((refine keepQ3 ?_ z0 z1 zn; (repeat (first | with_reducible exact Ext.rfl' _ | with_reducible assumption | with_reducible refine Ext.al ?_ _ | with_reducible refine Ext.dr ?_ | with_reducible refine Ext.st ?_ (by first | (simp; done) | ((try have s2 := Below.size hb2); (try have s3 := Below.size hb3); (try have s4 := Below.size hb4); (try simp at s2); (try simp at s3); (try simp at s4); (try simp); omega)) _ | with_reducible refine Ext.tr ?_ (by with_reducible assumption))))) (first | (go_at_call 14; (with_reducible refine Calls.mono (HRW.out _ (hEc.tr (by (repeat (first | with_reducible exact Ext.rfl' _ | with_reducible assumption | with_reducible refine Ext.al ?_ _ | with_reducible refine Ext.dr ?_ | with_reducible refine Ext.st ?_ (by first | (simp; done) | ((try have s2 := Below.size hb2); (try have s3 := Below.size hb3); (try have s4 := Below.size hb4); (try simp at s2); (try simp at s3); (try simp at s4); (try simp); omega)) _ | with_reducible refine Ext.tr ?_ (by with_reducible assumption)))))) ?_); rintro e w2 ⟨⟨A4, c4, rfl, hN4⟩, hb2⟩; have hc2 := hb2.ccell) | (go_at_call 13; (with_reducible refine Calls.mono (HSG.out _ _ _ _ _ (hR2.out.ext (by (repeat (first | with_reducible exact Ext.rfl' _ | with_reducible assumption | with_reducible refine Ext.al ?_ _ | with_reducible refine Ext.dr ?_ | with_reducible refine Ext.st ?_ (by first | (simp; done) | ((try have s2 := Below.size hb2); (try have s3 := Below.size hb3); (try have s4 := Below.size hb4); (try simp at s2); (try simp at s3); (try simp at s4); (try simp); omega)) _ | with_reducible refine Ext.tr ?_ (by with_reducible assumption))))) (hN4.row.ext (by (repeat (first | with_reducible exact Ext.rfl' _ | with_reducible assumption | with_reducible refine Ext.al ?_ _ | with_reducible refine Ext.dr ?_ | with_reducible refine Ext.st ?_ (by first | (simp; done) | ((try have s2 := Below.size hb2); (try have s3 := Below.size hb3); (try have s4 := Below.size hb4); (try simp at s2); (try simp at s3); (try simp at s4); (try simp); omega)) _ | with_reducible refine Ext.tr ?_ (by with_reducible assumption)))))) ?_); rintro e w3 ⟨rfl, hb3⟩; have hc3 := hb3.ccell) | (go_at_call 16; (with_reducible refine Calls.mono (HRU.out _ (hEc.tr (by (repeat (first | with_reducible exact Ext.rfl' _ | with_reducible assumption | with_reducible refine Ext.al ?_ _ | with_reducible refine Ext.dr ?_ | with_reducible refine Ext.st ?_ (by first | (simp; done) | ((try have s2 := Below.size hb2); (try have s3 := Below.size hb3); (try have s4 := Below.size hb4); (try simp at s2); (try simp at s3); (try simp at s4); (try simp); omega)) _ | with_reducible refine Ext.tr ?_ (by with_reducible assumption)))))) ?_); rintro e w4 ⟨⟨A5, c5, rfl, hN5⟩, hb4⟩; have hc4 := hb4.ccell) | (go_at_call 15; (with_reducible refine Calls.mono (HIN.out _ _ _ _ _ (hR3.out.ext (by (repeat (first | with_reducible exact Ext.rfl' _ | with_reducible assumption | with_reducible refine Ext.al ?_ _ | with_reducible refine Ext.dr ?_ | with_reducible refine Ext.st ?_ (by first | (simp; done) | ((try have s2 := Below.size hb2); (try have s3 := Below.size hb3); (try have s4 := Below.size hb4); (try simp at s2); (try simp at s3); (try simp at s4); (try simp); omega)) _ | with_reducible refine Ext.tr ?_ (by with_reducible assumption))))) (hN5.row.ext (by (repeat (first | with_reducible exact Ext.rfl' _ | with_reducible assumption | with_reducible refine Ext.al ?_ _ | with_reducible refine Ext.dr ?_ | with_reducible refine Ext.st ?_ (by first | (simp; done) | ((try have s2 := Below.size hb2); (try have s3 := Below.size hb3); (try have s4 := Below.size hb4); (try simp at s2); (try simp at s3); (try simp at s4); (try simp); omega)) _ | with_reducible refine Ext.tr ?_ (by with_reducible assumption)))))) ?_); rintro e w5 ⟨rfl, hb5⟩; have hc5 := hb5.ccell))
    all_goals
      rename_i hJ hK h1 h2 hH
      clear hH
      refine h2 _ _ (Met.intro (h1 _ _ ?_))
      (repeat apply Exists.intro)
      refine ⟨?_, rfl⟩
      exact ⟨rfl, by (repeat (first | with_reducible exact Ext.rfl' _ | with_reducible assumption | with_reducible refine Ext.al ?_ _ | with_reducible refine Ext.dr ?_ | with_reducible refine Ext.st ?_ (by first | (simp; done) | ((try have s2 := Below.size hb2); (try have s3 := Below.size hb3); (try have s4 := Below.size hb4); (try simp at s2); (try simp at s3); (try simp at s4); (try simp); omega)) _ | with_reducible refine Ext.tr ?_ (by with_reducible assumption)))⟩
  case rest =>
  obtain ⟨rfl, hx⟩ := hcut
  go_wp2
  go_ret
  exact ⟨rfl, hEc.tr hx⟩
set_option maxHeartbeats 16000000 in
set_option maxRecDepth 100000 in
theorem qu_walk (q : Qu) (g : Gr) (w : World) (A : Option Addr) (c : Nat) (hl : g.L.length ≤ maxLen) (hA : Row 1 encZ w A g.L) :
    Calls Tryz.prog 3 #[.agg #[.string q.s, .int .i64 q.a.x, .int .i64 q.a.y, .int .i64 q.b.x, .int .i64 q.b.y, .int .i64 q.lev, .int .i64 q.run], .agg #[.int .i64 g.X, .int .i64 g.Y, .int .i64 g.S, .int .i64 g.C, .int .i64 g.R, .slice A g.L.length c]] w fun e w' => e = .returned (.bool true) ∧ Ext w w' := by
  by_cases h50 : q.s.size ≤ 50
  case neg =>
    have h51 : (50 : Int) < (q.s.size : Int) := by omega
    clear hl hA h50
    go_enter Tryz.func3, Tryz.ntmps3
    go_wp2_with (first | (go_at_call 4; with_reducible refine Calls.mono (awake_c _) ?_; rintro e wa ⟨rfl, hb⟩; have hc := hb.ccell; have hf := hb.frz; have hs := hb.sz; (try simp at hs); (try have t0 := hs (w.heap.size) (by first | assumption | omega)); (try have t1 := hs (w.heap.size + 1) (by first | assumption | omega)); (try have t2 := hs (w.heap.size) (by first | assumption | omega)); (try have t3 := hs (w.heap.size) (by first | assumption | omega)); (try have t4 := hs (w.heap.size) (by first | assumption | omega)); (try have t5 := hs (w.heap.size) (by first | assumption | omega))))
    go_ret
    exact ⟨rfl, by (repeat (first | with_reducible exact Ext.rfl' _ | with_reducible assumption | with_reducible refine Ext.al ?_ _ | with_reducible refine Ext.dr ?_ | with_reducible refine Ext.st ?_ (by simp) _ | with_reducible refine Ext.tr ?_ (by assumption)))⟩
  by_cases h30 : g.L.length ≤ 30
  case neg =>
    have HSM := Lib.hid (fun w' => small6_c g w' A c hl)
    rw [decide_eq_false h30] at HSM
    have h51 : ¬ (50 : Int) < (q.s.size : Int) := by omega
    clear hl hA h30 h50
    go_enter Tryz.func3, Tryz.ntmps3
    go_wp2_with (first | (go_at_call 4; with_reducible refine Calls.mono (awake_c _) ?_; rintro e wa ⟨rfl, hb⟩; have hc := hb.ccell; have hf := hb.frz; have hs := hb.sz; (try simp at hs); (try have t0 := hs (w.heap.size) (by first | assumption | omega)); (try have t1 := hs (w.heap.size + 1) (by first | assumption | omega)); (try have t2 := hs (w.heap.size) (by first | assumption | omega)); (try have t3 := hs (w.heap.size) (by first | assumption | omega)); (try have t4 := hs (w.heap.size) (by first | assumption | omega)); (try have t5 := hs (w.heap.size) (by first | assumption | omega))) | (go_at_call 5; with_reducible refine Calls.mono (HSM.out _) ?_; rintro e wm ⟨rfl, hb⟩; have hc := hb.ccell; have hf := hb.frz; have hs := hb.sz; (try simp at hs); (try have t0 := hs (w.heap.size) (by first | assumption | omega)); (try have t1 := hs (w.heap.size + 1) (by first | assumption | omega)); (try have t2 := hs (w.heap.size) (by first | assumption | omega)); (try have t3 := hs (w.heap.size) (by first | assumption | omega)); (try have t4 := hs (w.heap.size) (by first | assumption | omega)); (try have t5 := hs (w.heap.size) (by first | assumption | omega))))
    go_ret
    exact ⟨rfl, by (repeat (first | with_reducible exact Ext.rfl' _ | with_reducible assumption | with_reducible refine Ext.al ?_ _ | with_reducible refine Ext.dr ?_ | with_reducible refine Ext.st ?_ (by simp) _ | with_reducible refine Ext.tr ?_ (by assumption)))⟩
  by_cases h0 : frE q g = 0
  · exact qu_ok q g w A c h50 h30 hl hA h0
  · exact qu_err q g w A c h50 h30 hl hA h0
end Go.Proofs.YtgbkjioajmnjbaaGreat
