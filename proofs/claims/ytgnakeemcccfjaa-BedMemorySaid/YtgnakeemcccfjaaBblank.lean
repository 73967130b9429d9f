/- The contract of Blank. -/
import Derived.Test.YtgnakeemcccfjaaBwith1
namespace Go.Proofs.Ytgnakeemcccfjaa
open Go Go.RowKit Go.IntWalk

/-- A grid whose levels the call has made, without an error. -/
def OutGE (base : Nat) (g : Gr) (e : Ending) (w' : World) : Prop := ∃ A c, e = .returned (.tuple #[.agg #[.int .i64 g.X, .int .i64 g.Y, .int .i64 g.S, .int .i64 g.C, .int .i64 g.R, .slice A g.L.length c], .int .i64 0]) ∧ NewZ base w' A c g.L
theorem OutGE.re {base : Nat} {g : Gr} {f : Nat → Int} {e : Ending} {w' : World} (h : OutGE base (reL g f) e w') : ∃ A c, e = .returned (.tuple #[.agg #[.int .i64 g.X, .int .i64 g.Y, .int .i64 g.S, .int .i64 g.C, .int .i64 g.R, .slice A g.L.length c], .int .i64 0]) ∧ NewZ base w' A c (mkL f g.L.length) := by
  obtain ⟨A, c, he, hN⟩ := h
  refine ⟨A, c, ?_, hN⟩
  have e1 : (reL g f).L.length = g.L.length := mkL_len _ _
  rw [e1] at he
  exact he
theorem blank1_c (k : Int) (w : World) : Calls Try.prog 70 #[.int .i64 k] w fun e w' => e = .returned (.int .i64 30000) ∧ Ext w w' := by
  go_enter Try.func70, Try.ntmps70
  go_wp2
  go_ret
  exact ⟨rfl, by (repeat (first | with_reducible exact Ext.rfl' _ | with_reducible assumption | with_reducible refine Ext.al ?_ _ | with_reducible refine Ext.dr ?_ | with_reducible refine Ext.st ?_ (by simp) _ | with_reducible refine Ext.tr ?_ (by assumption)))⟩
set_option maxHeartbeats 4000000 in
theorem blank_err_c (g : Gr) (w : World) (A : Option Addr) (c : Nat) (hl : g.L.length ≤ maxLen) (hA : Row 1 encZ w A g.L) (h0 : chkG g ≠ 0) :
    Calls Try.prog 18 #[.agg #[.int .i64 g.X, .int .i64 g.Y, .int .i64 g.S, .int .i64 g.C, .int .i64 g.R, .slice A g.L.length c]] w fun e w' => e = .returned (.tuple #[.agg #[.int .i64 0, .int .i64 0, .int .i64 0, .int .i64 0, .int .i64 0, .slice none 0 0], .int .i64 (chkG g)]) ∧ Ext w w' := by
  have HC := Lib.hid (fun w' (hw : Ext w w') => check_c g w' A c hl (hA.ext hw))
  have h0' : (chkG g != 0) = true := by rw [bne_iff_ne]; exact h0
  generalize chkG g = E at *
  clear h0
  go_enter Try.func18, Try.ntmps18
  go_wp2_with (first | (go_at_call 21; with_reducible refine Calls.mono (HC.out _ (by (repeat (first | with_reducible exact Ext.rfl' _ | with_reducible assumption | with_reducible refine Ext.al ?_ _ | with_reducible refine Ext.dr ?_ | with_reducible refine Ext.st ?_ (by simp) _ | with_reducible refine Ext.tr ?_ (by assumption))))) ?_; rintro e w1 ⟨rfl, hb⟩; have hc := hb.ccell; have hf := hb.frz; have hs := hb.sz; (try simp at hs); (try have t0 := hs (w.heap.size) (by first | assumption | omega)); (try have t1 := hs (w.heap.size + 1) (by first | assumption | omega)); (try have t2 := hs (w.heap.size) (by first | assumption | omega)); (try have t3 := hs (w.heap.size) (by first | assumption | omega)); (try have t4 := hs (w.heap.size) (by first | assumption | omega)); (try have t5 := hs (w.heap.size) (by first | assumption | omega))))
  have hE2 : Ext w w1 := by (repeat (first | with_reducible exact Ext.rfl' _ | with_reducible assumption | with_reducible refine Ext.al ?_ _ | with_reducible refine Ext.dr ?_ | with_reducible refine Ext.st ?_ (by simp) _ | with_reducible refine Ext.tr ?_ (by assumption)))
  have kz : CellsAt w1 (w.heap.size + 1) 0 [.int .i64 0, .int .i64 0, .int .i64 0, .int .i64 0, .int .i64 0, .slice none 0 0] := by refine cells_six ⟨?_, ?_, ?_, ?_, ?_, ?_⟩ <;> simp [*, go_sem]
  have hSL := stL_at (w.heap.size + 1) [.int .i64 0, .int .i64 0, .int .i64 0, .int .i64 0, .int .i64 0, .slice none 0 0] _ 0 _ kz rfl
  have hXL := stL_ext (w.heap.size + 1) (by first | omega | (simp; done) | (simp; omega)) [.int .i64 0, .int .i64 0, .int .i64 0, .int .i64 0, .int .i64 0, .slice none 0 0] 0 _ hE2
  show bodyPost _ _ _ _ _ (stL (w1) (w.heap.size + 1) 0 [.int .i64 0, .int .i64 0, .int .i64 0, .int .i64 0, .int .i64 0, .slice none 0 0])
  generalize stL (w1) (w.heap.size + 1) 0 [.int .i64 0, .int .i64 0, .int .i64 0, .int .i64 0, .int .i64 0, .slice none 0 0] = WL at *
  obtain ⟨s0, s1, s2, s3, s4, s5⟩ := hSL.six
  refine bodyPost_ret (v := .tuple #[.agg #[.int .i64 0, .int .i64 0, .int .i64 0, .int .i64 0, .int .i64 0, .slice none 0 0], .int .i64 E]) (by simp [results, Try.results18, go_sem, s0, s1, s2, s3, s4, s5]) rfl ⟨rfl, hXL⟩
set_option maxHeartbeats 4000000 in
theorem blank_ok_c (g : Gr) (w : World) (A : Option Addr) (c : Nat) (hA : Row 1 encZ w A g.L) (h0 : chkG g = 0) :
    Calls Try.prog 18 #[.agg #[.int .i64 g.X, .int .i64 g.Y, .int .i64 g.S, .int .i64 g.C, .int .i64 g.R, .slice A g.L.length c]] w fun e w' => OutGE w.heap.size (reL g fun _ => 30000) e w' ∧ Ext w w' := by
  have v := chkG_ok h0
  have hn : g.L.length ≤ 1024 := by have h1 := v.len; have h2 := v.hn; omega
  have HC := Lib.hid (fun w' (hw : Ext w w') => by have h := check_c g w' A c (by unfold maxLen; omega) (hA.ext hw); rw [h0] at h; exact h)
  have HW := Lib.hid (fun w' => withBlank_c g (fun _ => 30000) w' A c (by omega) (fun k _ w'' _ => blank1_c k w''))
  clear v h0
  go_enter Try.func18, Try.ntmps18
  go_wp2_with (first | (go_at_call 21; with_reducible refine Calls.mono (HC.out _ (by (repeat (first | with_reducible exact Ext.rfl' _ | with_reducible assumption | with_reducible refine Ext.al ?_ _ | with_reducible refine Ext.dr ?_ | with_reducible refine Ext.st ?_ (by simp) _ | with_reducible refine Ext.tr ?_ (by assumption))))) ?_; rintro e w1 ⟨rfl, hb⟩; have hc := hb.ccell; have hf := hb.frz; have hs := hb.sz; (try simp at hs); (try have t0 := hs (w.heap.size) (by first | assumption | omega)); (try have t1 := hs (w.heap.size + 1) (by first | assumption | omega)); (try have t2 := hs (w.heap.size) (by first | assumption | omega)); (try have t3 := hs (w.heap.size) (by first | assumption | omega)); (try have t4 := hs (w.heap.size) (by first | assumption | omega)); (try have t5 := hs (w.heap.size) (by first | assumption | omega))) | (go_at_call 69; (with_reducible refine Calls.mono (HW.out _) ?_); rintro e w2 ⟨⟨A2, c2, rfl, hN⟩, hb⟩; have hc := hb.ccell; have hf := hb.frz; have hs := hb.sz; (try simp at hs); (try have t0 := hs (w.heap.size) (by first | assumption | omega)); (try have t1 := hs (w.heap.size + 1) (by first | assumption | omega)); (try have t2 := hs (w.heap.size) (by first | assumption | omega)); (try have t3 := hs (w.heap.size) (by first | assumption | omega)); (try have t4 := hs (w.heap.size) (by first | assumption | omega)); (try have t5 := hs (w.heap.size) (by first | assumption | omega))))
  have hE2 : Ext w w2 := by (repeat (first | with_reducible exact Ext.rfl' _ | with_reducible assumption | with_reducible refine Ext.al ?_ _ | with_reducible refine Ext.dr ?_ | with_reducible refine Ext.st ?_ (by simp) _ | with_reducible refine Ext.tr ?_ (by assumption)))
  have kz : CellsAt w2 (w.heap.size + 1) 0 [.int .i64 0, .int .i64 0, .int .i64 0, .int .i64 0, .int .i64 0, .slice none 0 0] := by refine cells_six ⟨?_, ?_, ?_, ?_, ?_, ?_⟩ <;> simp [*, go_sem]
  have hz1 : w.heap.size + 1 < w1.heap.size := by assumption
  have hN2 := (hN.stL (b := w.heap.size + 1) hz1 0 [.int .i64 (reL g fun _ => 30000).X, .int .i64 (reL g fun _ => 30000).Y, .int .i64 (reL g fun _ => 30000).S, .int .i64 (reL g fun _ => 30000).C, .int .i64 (reL g fun _ => 30000).R, .slice A2 (reL g fun _ => 30000).L.length c2]).mono (base' := w.heap.size) (by omega)
  clear hN hc hf hs hb
  have hSL := stL_at (w.heap.size + 1) [.int .i64 (reL g fun _ => 30000).X, .int .i64 (reL g fun _ => 30000).Y, .int .i64 (reL g fun _ => 30000).S, .int .i64 (reL g fun _ => 30000).C, .int .i64 (reL g fun _ => 30000).R, .slice A2 (reL g fun _ => 30000).L.length c2] _ 0 _ kz rfl
  have hXL := stL_ext (w.heap.size + 1) (by first | omega | (simp; done) | (simp; omega)) [.int .i64 (reL g fun _ => 30000).X, .int .i64 (reL g fun _ => 30000).Y, .int .i64 (reL g fun _ => 30000).S, .int .i64 (reL g fun _ => 30000).C, .int .i64 (reL g fun _ => 30000).R, .slice A2 (reL g fun _ => 30000).L.length c2] 0 _ hE2
  show bodyPost _ _ _ _ _ (stL (w2) (w.heap.size + 1) 0 [.int .i64 (reL g fun _ => 30000).X, .int .i64 (reL g fun _ => 30000).Y, .int .i64 (reL g fun _ => 30000).S, .int .i64 (reL g fun _ => 30000).C, .int .i64 (reL g fun _ => 30000).R, .slice A2 (reL g fun _ => 30000).L.length c2])
  generalize stL (w2) (w.heap.size + 1) 0 [.int .i64 (reL g fun _ => 30000).X, .int .i64 (reL g fun _ => 30000).Y, .int .i64 (reL g fun _ => 30000).S, .int .i64 (reL g fun _ => 30000).C, .int .i64 (reL g fun _ => 30000).R, .slice A2 (reL g fun _ => 30000).L.length c2] = WL at *
  obtain ⟨s0, s1, s2, s3, s4, s5⟩ := hSL.six
  refine bodyPost_ret (v := .tuple #[.agg #[.int .i64 (reL g fun _ => 30000).X, .int .i64 (reL g fun _ => 30000).Y, .int .i64 (reL g fun _ => 30000).S, .int .i64 (reL g fun _ => 30000).C, .int .i64 (reL g fun _ => 30000).R, .slice A2 (reL g fun _ => 30000).L.length c2], .int .i64 0]) (by simp [results, Try.results18, go_sem, s0, s1, s2, s3, s4, s5]) rfl ⟨⟨A2, c2, rfl, hN2⟩, hXL⟩
end Go.Proofs.Ytgnakeemcccfjaa
