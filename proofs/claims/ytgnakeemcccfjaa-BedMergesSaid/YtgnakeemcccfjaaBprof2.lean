/- The contracts of Profile and of the reference's. -/
import Derived.Test.YtgnakeemcccfjaaBprof
import Derived.Deep.RegionHeld3
namespace Go.Proofs.Ytgnakeemcccfjaa
open Go Go.RowKit Go.IntWalk

theorem keepP2 {W w' : World} {b c : Nat} (h : Ext W w') (hb : b < W.heap.size) (hc : c < W.heap.size) : (∀ j : Nat, w'.cell? ⟨b, j, none⟩ = W.cell? ⟨b, j, none⟩) ∧ (∀ j : Nat, w'.cell? ⟨c, j, none⟩ = W.cell? ⟨c, j, none⟩) ∧ Ext W w' := ⟨fun _ => h.ccell _ _ hb, fun _ => h.ccell _ _ hc, h⟩
theorem mkL_flat (f : Nat → Int) (n : Nat) : (mkL f (n + 1)).flatMap encZ = (mkL f n).flatMap encZ ++ [.int .i64 (f n)] := by simp [mkL, List.range_succ, encZ]
/-- What is wrong with the arguments of a profile, behind the grid. -/
def prB (ax ay bx b_y n : Int) : Bool := plB ax ay && (plB bx b_y && withinB n 1 200)
set_option maxHeartbeats 4000000 in
theorem profile_err_c (g : Gr) (ax ay bx b_y n : Int) (w : World) (A : Option Addr) (c : Nat) (hl : g.L.length ≤ maxLen) (hA : Row 1 encZ w A g.L) (h0 : chkG g ≠ 0) :
    Calls Try.prog 33 #[.agg #[.int .i64 g.X, .int .i64 g.Y, .int .i64 g.S, .int .i64 g.C, .int .i64 g.R, .slice A g.L.length c], .agg #[.int .i64 ax, .int .i64 ay], .agg #[.int .i64 bx, .int .i64 b_y], .int .i64 n] w fun e w' => e = .returned (.tuple #[.slice none 0 0, .int .i64 (chkG g)]) ∧ Ext w w' := by
  have HC := Lib.hid (fun w' (hw : Ext w w') => check_c g w' A c hl (hA.ext hw))
  have h0' : (chkG g != 0) = true := by simp [h0]
  clear h0
  generalize chkG g = E at *
  go_enter Try.func33, Try.ntmps33
  go_wp2_with (first | (go_at_call 21; with_reducible refine Calls.mono (HC.out _ (by (repeat (first | with_reducible exact Ext.rfl' _ | with_reducible assumption | with_reducible refine Ext.al ?_ _ | with_reducible refine Ext.dr ?_ | with_reducible refine Ext.st ?_ (by simp) _ | with_reducible refine Ext.tr ?_ (by assumption))))) ?_; rintro e w1 ⟨rfl, hb⟩; have hc := hb.ccell; have hf := hb.frz; have hs := hb.sz; (try simp at hs); (try have hs0 := hs w.heap.size (by omega)); (try have hs1 := hs (w.heap.size + 1) (by omega)); (try have hs2 := hs (w.heap.size + 1 + 1) (by omega)); (try have hs3 := hs (w.heap.size + 1 + 1 + 1) (by omega))))
  exact bodyPost_ret (v := .tuple #[.slice none 0 0, .int .i64 E]) (by simp [results, Try.results33, go_sem]) rfl ⟨rfl, by (repeat (first | with_reducible exact Ext.rfl' _ | with_reducible assumption | with_reducible refine Ext.al ?_ _ | with_reducible refine Ext.dr ?_ | with_reducible refine Ext.st ?_ (by simp) _ | with_reducible refine Ext.tr ?_ (by assumption)))⟩
set_option maxHeartbeats 4000000 in
theorem profile_out_c (g : Gr) (ax ay bx b_y n : Int) (w : World) (A : Option Addr) (c : Nat) (hl : g.L.length ≤ maxLen) (hA : Row 1 encZ w A g.L) (h0 : chkG g = 0) (hb : prB ax ay bx b_y n = false) :
    Calls Try.prog 33 #[.agg #[.int .i64 g.X, .int .i64 g.Y, .int .i64 g.S, .int .i64 g.C, .int .i64 g.R, .slice A g.L.length c], .agg #[.int .i64 ax, .int .i64 ay], .agg #[.int .i64 bx, .int .i64 b_y], .int .i64 n] w fun e w' => e = .returned (.tuple #[.slice none 0 0, .int .i64 2]) ∧ Ext w w' := by
  have HC := Lib.hid (fun w' (hw : Ext w w') => by have h := check_c g w' A c hl (hA.ext hw); rw [h0] at h; exact h)
  have H1 := Lib.hid (fun w => isPlace_c ax ay w)
  have H2 := Lib.hid (fun w => isPlace_c bx b_y w)
  have H3 := Lib.hid (fun w => bwithin_c n 1 200 w)
  unfold prB at hb
  have main : ∀ p1 p2 p3 : Bool, plB ax ay = p1 → plB bx b_y = p2 → withinB n 1 200 = p3 → (p1 && (p2 && p3)) = false →
      Calls Try.prog 33 #[.agg #[.int .i64 g.X, .int .i64 g.Y, .int .i64 g.S, .int .i64 g.C, .int .i64 g.R, .slice A g.L.length c], .agg #[.int .i64 ax, .int .i64 ay], .agg #[.int .i64 bx, .int .i64 b_y], .int .i64 n] w fun e w' => e = .returned (.tuple #[.slice none 0 0, .int .i64 2]) ∧ Ext w w' := by
    intro p1 p2 p3 e1 e2 e3 hp
    rw [e1] at H1
    rw [e2] at H2
    rw [e3] at H3
    clear e1 e2 e3 hb h0 hA hl
    cases p1 with
    | false =>
      go_enter Try.func33, Try.ntmps33
      go_wp2_with (first | (go_at_call 21; with_reducible refine Calls.mono (HC.out _ (by (repeat (first | with_reducible exact Ext.rfl' _ | with_reducible assumption | with_reducible refine Ext.al ?_ _ | with_reducible refine Ext.dr ?_ | with_reducible refine Ext.st ?_ (by simp) _ | with_reducible refine Ext.tr ?_ (by assumption))))) ?_; rintro e w1 ⟨rfl, hb⟩; have hc := hb.ccell; have hf := hb.frz; have hs := hb.sz; (try simp at hs); (try have t0 := hs (w.heap.size) (by first | assumption | omega)); (try have t1 := hs (w.heap.size + 1) (by first | assumption | omega)); (try have t2 := hs (w.heap.size + 1 + 1) (by first | assumption | omega)); (try have t3 := hs (w.heap.size) (by first | assumption | omega)); (try have t4 := hs (w.heap.size) (by first | assumption | omega)); (try have t5 := hs (w.heap.size) (by first | assumption | omega))) | (go_at_call 72; with_reducible refine Calls.mono (H1.out _) ?_; rintro e w' ⟨rfl, rfl⟩))
      exact bodyPost_ret (v := .tuple #[.slice none 0 0, .int .i64 2]) (by simp [results, Try.results33, go_sem]) rfl ⟨rfl, by (repeat (first | with_reducible exact Ext.rfl' _ | with_reducible assumption | with_reducible refine Ext.al ?_ _ | with_reducible refine Ext.dr ?_ | with_reducible refine Ext.st ?_ (by simp) _ | with_reducible refine Ext.tr ?_ (by assumption)))⟩
    | true =>
      cases p2 with
      | false =>
        go_enter Try.func33, Try.ntmps33
        go_wp2_with (first | (go_at_call 21; with_reducible refine Calls.mono (HC.out _ (by (repeat (first | with_reducible exact Ext.rfl' _ | with_reducible assumption | with_reducible refine Ext.al ?_ _ | with_reducible refine Ext.dr ?_ | with_reducible refine Ext.st ?_ (by simp) _ | with_reducible refine Ext.tr ?_ (by assumption))))) ?_; rintro e w1 ⟨rfl, hb⟩; have hc := hb.ccell; have hf := hb.frz; have hs := hb.sz; (try simp at hs); (try have t0 := hs (w.heap.size) (by first | assumption | omega)); (try have t1 := hs (w.heap.size + 1) (by first | assumption | omega)); (try have t2 := hs (w.heap.size + 1 + 1) (by first | assumption | omega)); (try have t3 := hs (w.heap.size) (by first | assumption | omega)); (try have t4 := hs (w.heap.size) (by first | assumption | omega)); (try have t5 := hs (w.heap.size) (by first | assumption | omega))) | (go_at_call 72; with_reducible refine Calls.mono (H1.out _) ?_; rintro e w' ⟨rfl, rfl⟩) | (go_at_call 72; with_reducible refine Calls.mono (H2.out _) ?_; rintro e w' ⟨rfl, rfl⟩))
        exact bodyPost_ret (v := .tuple #[.slice none 0 0, .int .i64 2]) (by simp [results, Try.results33, go_sem]) rfl ⟨rfl, by (repeat (first | with_reducible exact Ext.rfl' _ | with_reducible assumption | with_reducible refine Ext.al ?_ _ | with_reducible refine Ext.dr ?_ | with_reducible refine Ext.st ?_ (by simp) _ | with_reducible refine Ext.tr ?_ (by assumption)))⟩
      | true =>
        have hp3 : p3 = false := by simpa using hp
        subst hp3
        go_enter Try.func33, Try.ntmps33
        go_wp2_with (first | (go_at_call 21; with_reducible refine Calls.mono (HC.out _ (by (repeat (first | with_reducible exact Ext.rfl' _ | with_reducible assumption | with_reducible refine Ext.al ?_ _ | with_reducible refine Ext.dr ?_ | with_reducible refine Ext.st ?_ (by simp) _ | with_reducible refine Ext.tr ?_ (by assumption))))) ?_; rintro e w1 ⟨rfl, hb⟩; have hc := hb.ccell; have hf := hb.frz; have hs := hb.sz; (try simp at hs); (try have t0 := hs (w.heap.size) (by first | assumption | omega)); (try have t1 := hs (w.heap.size + 1) (by first | assumption | omega)); (try have t2 := hs (w.heap.size + 1 + 1) (by first | assumption | omega)); (try have t3 := hs (w.heap.size) (by first | assumption | omega)); (try have t4 := hs (w.heap.size) (by first | assumption | omega)); (try have t5 := hs (w.heap.size) (by first | assumption | omega))) | (go_at_call 72; with_reducible refine Calls.mono (H1.out _) ?_; rintro e w' ⟨rfl, rfl⟩) | (go_at_call 72; with_reducible refine Calls.mono (H2.out _) ?_; rintro e w' ⟨rfl, rfl⟩) | (go_at_call 73; with_reducible refine Calls.mono (H3.out _) ?_; rintro e w' ⟨rfl, rfl⟩))
        exact bodyPost_ret (v := .tuple #[.slice none 0 0, .int .i64 2]) (by simp [results, Try.results33, go_sem]) rfl ⟨rfl, by (repeat (first | with_reducible exact Ext.rfl' _ | with_reducible assumption | with_reducible refine Ext.al ?_ _ | with_reducible refine Ext.dr ?_ | with_reducible refine Ext.st ?_ (by simp) _ | with_reducible refine Ext.tr ?_ (by assumption)))⟩
  exact main _ _ _ rfl rfl rfl hb
def OutZE (l : List Int) (n : Nat) (e : Ending) (w' : World) : Prop := ∃ A c, e = .returned (.tuple #[.slice A n c, .int .i64 0]) ∧ Row 1 encZ w' A l
set_option maxHeartbeats 8000000 in
set_option maxRecDepth 100000 in
theorem profile_ok_c (g : Gr) (ax ay bx b_y : Int) (n M : Nat) (w : World) (A : Option Addr) (c : Nat) (hA : Row 1 encZ w A g.L) (h0 : chkG g = 0) (hb : prB ax ay bx b_y n = true) (hM : M = n + 1) :
    Calls Try.prog 33 #[.agg #[.int .i64 g.X, .int .i64 g.Y, .int .i64 g.S, .int .i64 g.C, .int .i64 g.R, .slice A g.L.length c], .agg #[.int .i64 ax, .int .i64 ay], .agg #[.int .i64 bx, .int .i64 b_y], .int .i64 n] w fun e w' => OutZE (mkL (prF g ax ay bx b_y n) M) M e w' ∧ Ext w w' := by
  have v := chkG_ok h0
  have hl : g.L.length ≤ maxLen := by have h1 := v.len; have h2 := v.hn; unfold maxLen; omega
  have HC := Lib.hid (fun w' (hw : Ext w w') => by have h := check_c g w' A c hl (hA.ext hw); rw [h0] at h; exact h)
  unfold prB at hb
  simp only [Bool.and_eq_true] at hb
  obtain ⟨b1, b2, b3⟩ := hb
  have H1 := Lib.hid (fun w => by have h := isPlace_c ax ay w; rw [b1] at h; exact h)
  have H2 := Lib.hid (fun w => by have h := isPlace_c bx b_y w; rw [b2] at h; exact h)
  have H3 := Lib.hid (fun w => by have h := bwithin_c n 1 200 w; rw [b3] at h; exact h)
  unfold plB withinB at b1 b2
  unfold withinB at b3
  simp only [Bool.and_eq_true, decide_eq_true_eq] at b1 b2 b3
  have HP1 := Lib.hid (fun (k : Nat) (hk : k ≤ n) w' => partWay_c ax bx k n w' (by omega) (by omega) hk (by omega) (by omega))
  have HP2 := Lib.hid (fun (k : Nat) (hk : k ≤ n) w' => partWay_c ay b_y k n w' (by omega) (by omega) hk (by omega) (by omega))
  have HLA := Lib.hid (fun x y w' (hw : Ext w w') => levelAt_c g x y w' A c v (hA.ext hw))
  have hML : ((n : Int) + 1) = (M : Int) := by omega
  have HML := Lib.hid hML
  have HMM := Lib.hid hM
  have hM2 : M ≤ 201 := by omega
  have wn : IntKind.i64.wrap ((n : Int) + 1) = (n : Int) + 1 := IntWalk.i64_in _ (by omega)
  obtain ⟨i0, hi, hz0, hz1, hz2⟩ := info_parts infoZ
  clear v hl h0 hA hML hM b1 b2 b3
  go_enter Try.func33, Try.ntmps33
  go_upto_region 6 with (first | (go_at_call 21; with_reducible refine Calls.mono (HC.out _ (by (repeat (first | with_reducible exact Ext.rfl' _ | with_reducible assumption | with_reducible refine Ext.al ?_ _ | with_reducible refine Ext.dr ?_ | with_reducible refine Ext.st ?_ (by simp) _ | with_reducible refine Ext.tr ?_ (by assumption))))) ?_; rintro e w1 ⟨rfl, hb⟩; have hc := hb.ccell; have hf := hb.frz; have hs := hb.sz; (try simp at hs); (try have t0 := hs (w.heap.size) (by first | assumption | omega)); (try have t1 := hs (w.heap.size + 1) (by first | assumption | omega)); (try have t2 := hs (w.heap.size + 1 + 1) (by first | assumption | omega)); (try have t3 := hs (w.heap.size) (by first | assumption | omega)); (try have t4 := hs (w.heap.size) (by first | assumption | omega)); (try have t5 := hs (w.heap.size) (by first | assumption | omega))) | (go_at_call 72; with_reducible refine Calls.mono (H1.out _) ?_; rintro e w' ⟨rfl, rfl⟩) | (go_at_call 72; with_reducible refine Calls.mono (H2.out _) ?_; rintro e w' ⟨rfl, rfl⟩) | (go_at_call 73; with_reducible refine Calls.mono (H3.out _) ?_; rintro e w' ⟨rfl, rfl⟩))
  have hE1 : Ext w w1 := by (repeat (first | with_reducible exact Ext.rfl' _ | with_reducible assumption | with_reducible refine Ext.al ?_ _ | with_reducible refine Ext.dr ?_ | with_reducible refine Ext.st ?_ (by simp) _ | with_reducible refine Ext.tr ?_ (by assumption)))
  have kg : CellsAt w1 w.heap.size 0 [.int .i64 g.X, .int .i64 g.Y, .int .i64 g.S, .int .i64 g.C, .int .i64 g.R, .slice A g.L.length c] := by refine cells_six ⟨?_, ?_, ?_, ?_, ?_, ?_⟩ <;> simp [*, go_sem]
  have ka : w1.cell? ⟨w.heap.size + 1, 0, none⟩ = some (.int .i64 ax) ∧ w1.cell? ⟨w.heap.size + 1, 1, none⟩ = some (.int .i64 ay) := by constructor <;> simp [*, go_sem]
  have kb : w1.cell? ⟨w.heap.size + 1 + 1, 0, none⟩ = some (.int .i64 bx) ∧ w1.cell? ⟨w.heap.size + 1 + 1, 1, none⟩ = some (.int .i64 b_y) := by constructor <;> simp [*, go_sem]
  have zg : w.heap.size < w1.heap.size := by assumption
  have za : w.heap.size + 1 < w1.heap.size := by assumption
  have zb : w.heap.size + 1 + 1 < w1.heap.size := by assumption
  clear hb hc hf hs t0 t1 t2 t3 t4 t5
  generalize w.heap.size + 1 + 1 = nb at *
  generalize w.heap.size + 1 = na at *
  go_wp2_with (first | (at_make; refine wpList_make_full _ rfl _ _ 22 rfl w1.heap.size 3 i0 _ 1 Try.underlying22 hi hz0 hz1 .i64 .i64 _ _ M rfl rfl HML.out HML.out (by rw [hz2]; omega) (by unfold maxLen; omega) (Nat.le_refl _) ?_; intro wm hown hgr))
  have hEm : Ext w1 wm := Below.grown (Ext.rfl' w1) hgr (Nat.le_refl _) (by intro q hq; cases hq)
  have hS := Lib.hid (show wm.rowIs w1.heap.size 3 M (fun _ => .int .i64 0) from rowIs_of_make (by have h := hown; simp only [Nat.mul_one] at h; exact h))
  clear hown hgr hi hz0 hz1 hz2
  go_loopw [12, 13, 43] (fun _ _ i wr => Ext w1 wr ∧ ∃ k : Nat, k ≤ M ∧ i = .int .i64 k ∧ Hid (wr.rowIs w1.heap.size 3 M (fun i => .int .i64 (if i < k then prF g ax ay bx b_y n i else 0)))) (fun _ _ i _ => M - (intOf i).toNat)
  case atStart => exact ⟨hEm, 0, Nat.zero_le _, rfl, Lib.hid (hS.out.congr fun i _ => by rw [if_neg (by omega)])⟩
  case round =>
    clear hS hEm
    obtain ⟨hr, k, hk, rfl, hT⟩ := hrel
    have hE := hE1.tr hr
    have a0 := (hr.ccell _ _ za).trans ka.1
    have a1 := (hr.ccell _ _ za).trans ka.2
    have b0 := (hr.ccell _ _ zb).trans kb.1
    have b1 := (hr.ccell _ _ zb).trans kb.2
    have zg2 := hr.sz _ zg
    have za2 := hr.sz _ za
    have zb2 := hr.sz _ zb
    have hlq := hT.out.lt
    by_cases hlt : k < M
    · have hkn : k ≤ n := by have := HMM.out; omega
      have P1 := Lib.hid (fun w' => HP1.out k hkn w')
      have P2 := Lib.hid (fun w' => HP2.out k hkn w')
      obtain ⟨px, hpx⟩ : ∃ px, pwI ax bx k n = px := ⟨_, rfl⟩
      obtain ⟨py, hpy⟩ : ∃ py, pwI ay b_y k n = py := ⟨_, rfl⟩
      have HLV : Hid (lvX g px py = prF g ax ay bx b_y n k) := Lib.hid (by rw [← hpx, ← hpy]; rfl)
      rw [hpx] at P1
      rw [hpy] at P2
      clear hpx hpy hkn
      obtain ⟨w4, hw4⟩ : ∃ w4, w4 = wr := ⟨_, rfl⟩
      subst hw4
      go_upto_region 10 with fail
      go_cut [13] (fun s13 wx => ∃ b : Nat, s13 = .pointer (some ⟨b, 0, none⟩) ∧ Ext w4 wx ∧ b < wx.heap.size ∧ wx.cell? ⟨b, 0, none⟩ = some (.int .i64 px) ∧ wx.cell? ⟨b, 1, none⟩ = some (.int .i64 py))
      case first =>
        clear HLA hT HP1 HP2
        go_region_held3 (fun w' => (∀ j : Nat, w'.cell? ⟨na, j, none⟩ = w4.cell? ⟨na, j, none⟩) ∧ (∀ j : Nat, w'.cell? ⟨nb, j, none⟩ = w4.cell? ⟨nb, j, none⟩) ∧ Ext w4 w') ((refine keepP2 ?_ za2 zb2; (repeat (first | with_reducible exact Ext.rfl' _ | with_reducible assumption | (exact (by assumption : _ ∧ _ ∧ Ext w4 _).2.2) | with_reducible refine Ext.al ?_ _ | with_reducible refine Ext.dr ?_ | with_reducible refine Ext.st ?_ (by first | (simp; done) | (have h9 := Below.size hb5; have h8 := Below.size hb6; simp at h9 h8 ⊢; omega)) _ | with_reducible refine Ext.tr ?_ (by assumption))))) (first | (go_at_call 81; (with_reducible refine Calls.mono (P1.out _) ?_); rintro e w5 ⟨rfl, hb5⟩; have hc5 := hb5.ccell; have hf5 := hb5.frz; have hs5 := hb5.sz; (try have t5 := hs5 w4.heap.size (by first | assumption | (simp; done) | (simp; omega)))) | (go_at_call 81; (with_reducible refine Calls.mono (P2.out _) ?_); rintro e w6 ⟨rfl, hb6⟩; have hc6 := hb6.ccell; have hf6 := hb6.frz; have hs6 := hb6.sz; (try have t6 := hs6 w4.heap.size (by first | assumption | (simp; done) | (simp; omega))); (try have t6' := hs6 w5.heap.size (by first | assumption | (simp; done) | (simp; omega)))))
        all_goals
          rename_i hJ hK h1 h2 hH
          clear hH
          refine h2 _ _ (Met.intro (h1 _ _ ?_))
          (repeat apply Exists.intro)
          refine ⟨?_, rfl⟩
          refine ⟨_, rfl, ?_, ?_, ?_, ?_⟩
          · (repeat (first | with_reducible exact Ext.rfl' _ | with_reducible assumption | with_reducible refine Ext.al ?_ _ | with_reducible refine Ext.dr ?_ | with_reducible refine Ext.st ?_ (by first | (simp; done) | (have h9 := Below.size hb5; have h8 := Below.size hb6; simp at h9 h8 ⊢; omega)) _ | with_reducible refine Ext.tr ?_ (by assumption)))
          · first
              | (simp; done)
              | (have h9 := Below.size hb5; have h8 := Below.size hb6; (try simp at h9); (try simp at h8); (try simp); omega)
          · first | (simp [go_sem]; done) | (simp [*, go_sem]; done)
          · first | (simp [go_sem]; done) | (simp [*, go_sem]; done)
      case rest =>
        obtain ⟨bp, rfl, hx, hzp, p0, p1⟩ := hcut
        have hrx := hr.tr hx
        have hEx := hE.tr hx
        obtain ⟨g0, g1, g2, g3, g4, g5⟩ := (kg.ext hrx zg).six
        have zg3 := hrx.sz _ zg
        have hTx := Lib.hid (hT.out.of_block (hx.block _ hlq))
        have hlq2 := hx.sz _ hlq
        have fq := hTx.out.frozen
        have cq := hTx.out.cell hlt
        have L1 := Lib.hid (fun w' (hw : Ext w w') => HLA.out px py w' hw)
        rw [HLV.out] at L1
        generalize (if k < k then prF g ax ay bx b_y n k else 0) = old at cq
        clear hT a0 a1 b0 b1 hx
        go_wp2_with (first | (go_at_call 82; with_reducible refine Calls.mono (L1.out _ (by (repeat (first | with_reducible exact Ext.rfl' _ | with_reducible assumption | with_reducible refine Ext.al ?_ _ | with_reducible refine Ext.dr ?_ | with_reducible refine Ext.st ?_ (by simp) _ | with_reducible refine Ext.tr ?_ (by assumption))))) ?_; rintro e w7 ⟨rfl, hb⟩; have hc := hb.ccell; have hf := hb.frz; have hs := hb.sz; (try simp at hs); (try have t0 := hs (w1.heap.size) (by first | assumption | omega)); (try have t1 := hs (w.heap.size) (by first | assumption | omega)); (try have t2 := hs (bp) (by first | assumption | omega)); (try have t3 := hs (w.heap.size) (by first | assumption | omega)); (try have t4 := hs (w.heap.size) (by first | assumption | omega)); (try have t5 := hs (w.heap.size) (by first | assumption | omega))))
        have hb7 : Ext wc w7 := by assumption
        refine ⟨⟨Ext.st (hrx.tr hb7) (by simp) _, k + 1, by omega, by go_num, Lib.hid ?_⟩, by simp [intOf]; omega⟩
        refine ((hTx.out.of_block (hb7.block _ hlq2)).set k _).congr fun i _ => ?_
        by_cases hik : i = k
        · subst hik; simp
        · rw [if_neg hik]
          by_cases h2 : i < k
          · rw [if_pos h2, if_pos (by omega)]
          · rw [if_neg h2, if_neg (by omega)]
    · have hkM : k = M := by omega
      have hrow := Lib.hid (OwnK.row encZ_len (own_of_row (hT.out.congr (g := fun i => .int .i64 (prF g ax ay bx b_y n i)) fun i hi => by rw [if_pos (by omega)]) (by unfold maxLen; omega)))
      clear hkM
      go_wp2
      exact bodyPost_ret (v := .tuple #[.slice (some ⟨w1.heap.size, 0, none⟩) M M, .int .i64 0]) (by simp [results, Try.results33, go_sem]) rfl ⟨⟨_, M, rfl, hrow.out⟩, by (repeat (first | with_reducible exact Ext.rfl' _ | with_reducible assumption | with_reducible refine Ext.al ?_ _ | with_reducible refine Ext.dr ?_ | with_reducible refine Ext.st ?_ (by simp) _ | with_reducible refine Ext.tr ?_ (by assumption)))⟩
def OutRZ (l : List Int) (n : Nat) (e : Ending) (w' : World) : Prop := ∃ A c, e = .returned (.slice A n c) ∧ Row 1 encZ w' A l
set_option maxHeartbeats 8000000 in
set_option maxRecDepth 100000 in
theorem rprofile_c (g : Gr) (ax ay bx b_y : Int) (n M : Nat) (w : World) (A : Option Addr) (c : Nat) (hA : Row 1 encZ w A g.L) (h0 : chkG g = 0) (hb : prB ax ay bx b_y n = true) (hM : M = n + 1) :
    Calls Try.prog 35 #[.agg #[.int .i64 g.X, .int .i64 g.Y, .int .i64 g.S, .int .i64 g.C, .int .i64 g.R, .slice A g.L.length c], .agg #[.int .i64 ax, .int .i64 ay], .agg #[.int .i64 bx, .int .i64 b_y], .int .i64 n] w fun e w' => OutRZ (mkL (prF g ax ay bx b_y n) M) M e w' ∧ Ext w w' := by
  have v := chkG_ok h0
  unfold prB plB withinB at hb
  simp only [Bool.and_eq_true, decide_eq_true_eq] at hb
  obtain ⟨b1, b2, b3⟩ := hb
  have HRC := Lib.hid (fun x y w' => rcell_c g x y w' A c v)
  have HF1 := Lib.hid (fun (k : Nat) (hk : k ≤ n) (w' : World) => by
    obtain ⟨⟨h1, h2⟩, h3, h4⟩ := pw_bd (a := ax) (b := bx) (k := k) (n := n) (by omega) (by omega) hk (by omega) (by omega)
    exact floor_c ((bx - ax) * k) n w' (by omega) (by omega) (by omega) (by omega))
  have HF2 := Lib.hid (fun (k : Nat) (hk : k ≤ n) (w' : World) => by
    obtain ⟨⟨h1, h2⟩, h3, h4⟩ := pw_bd (a := ay) (b := b_y) (k := k) (n := n) (by omega) (by omega) hk (by omega) (by omega)
    exact floor_c ((b_y - ay) * k) n w' (by omega) (by omega) (by omega) (by omega))
  have HBD := Lib.hid (fun (k : Nat) (hk : k ≤ n) => And.intro (pw_bd (a := ax) (b := bx) (k := k) (n := n) (by omega) (by omega) hk (by omega) (by omega)) (pw_bd (a := ay) (b := b_y) (k := k) (n := n) (by omega) (by omega) hk (by omega) (by omega)))
  have HIN : Hid (∀ x y, inB g x y = true → ∃ k : Nat, cIdx g x y = k ∧ k < g.L.length) := Lib.hid fun x y h => by
    obtain ⟨cn, rn, e1, e2, e3, e4, e5, e6, e7, e8⟩ := v.nat
    obtain ⟨_, _, k, hk, hck⟩ := cIdx_cell e1 e2 e3 (show 0 < g.S by have := v.hs; omega) h
    exact ⟨k, hck, by omega⟩
  have HA := Lib.hid hA
  have HMM := Lib.hid hM
  have hM2 : M ≤ 201 := by omega
  obtain ⟨i0, hi0, hzi0, hzi1, hzi2⟩ := info_parts infoZ
  have HI := Lib.hid (And.intro hi0 (And.intro hzi0 (And.intro hzi1 hzi2)))
  have hax : (-1000000 ≤ ax ∧ ax ≤ 1000000) ∧ (-1000000 ≤ ay ∧ ay ≤ 1000000) := by omega
  have hbx : (-1000000 ≤ bx ∧ bx ≤ 1000000) ∧ (-1000000 ≤ b_y ∧ b_y ≤ 1000000) := by omega
  clear hi0 hzi0 hzi1 hzi2 hA hM v h0 b1 b2 b3
  go_enter Try.func35, Try.ntmps35
  go_wp2
  have hE1 : Ext w (((w.alloc (.cells #[.int .i64 g.X, .int .i64 g.Y, .int .i64 g.S, .int .i64 g.C, .int .i64 g.R, .slice A g.L.length c] 24)).alloc (.cells #[.int .i64 ax, .int .i64 ay] 35)).alloc (.cells #[.int .i64 bx, .int .i64 b_y] 35)) := by (repeat (first | with_reducible exact Ext.rfl' _ | with_reducible assumption | with_reducible refine Ext.al ?_ _ | with_reducible refine Ext.dr ?_ | with_reducible refine Ext.st ?_ (by simp) _ | with_reducible refine Ext.tr ?_ (by assumption)))
  generalize hwp : (((w.alloc (.cells #[.int .i64 g.X, .int .i64 g.Y, .int .i64 g.S, .int .i64 g.C, .int .i64 g.R, .slice A g.L.length c] 24)).alloc (.cells #[.int .i64 ax, .int .i64 ay] 35)).alloc (.cells #[.int .i64 bx, .int .i64 b_y] 35)) = W1 at *
  have kg : CellsAt W1 w.heap.size 0 [.int .i64 g.X, .int .i64 g.Y, .int .i64 g.S, .int .i64 g.C, .int .i64 g.R, .slice A g.L.length c] := by
    rw [← hwp]
    refine cells_six ⟨?_, ?_, ?_, ?_, ?_, ?_⟩ <;> simp [World.cell?_alloc_past, World.cell?_alloc_new, go_sem]
  have ka : W1.cell? ⟨w.heap.size + 1, 0, none⟩ = some (.int .i64 ax) ∧ W1.cell? ⟨w.heap.size + 1, 1, none⟩ = some (.int .i64 ay) := by rw [← hwp]; constructor <;> simp [World.cell?_alloc_past, go_sem]
  have kb : W1.cell? ⟨w.heap.size + 1 + 1, 0, none⟩ = some (.int .i64 bx) ∧ W1.cell? ⟨w.heap.size + 1 + 1, 1, none⟩ = some (.int .i64 b_y) := by rw [← hwp]; constructor <;> simp [go_sem]
  have zg : w.heap.size < W1.heap.size := by rw [← hwp]; simp; omega
  have za : w.heap.size + 1 < W1.heap.size := by rw [← hwp]; simp
  have zb : w.heap.size + 1 + 1 < W1.heap.size := by rw [← hwp]; simp
  clear hwp
  generalize w.heap.size + 1 + 1 = nb at *
  generalize w.heap.size + 1 = na at *
  go_loopw [9, 10, 11, 12] (fun v i _ _ wr => Ext W1 wr ∧ ∃ k : Nat, k ≤ M ∧ i = .int .i64 k ∧ Hid (wr.ownsRow W1.heap.size 3 1 v k ((mkL (prF g ax ay bx b_y n) k).flatMap encZ))) (fun _ i _ _ _ => M - (intOf i).toNat)
  case atStart => exact ⟨Ext.rfl' _, 0, Nat.zero_le _, rfl, Lib.hid (World.ownsRow_nil _ _ _ _)⟩
  case round =>
    obtain ⟨hr, k, hk, rfl, hO⟩ := hrel
    have hE := hE1.tr hr
    have a0 := (hr.ccell _ _ za).trans ka.1
    have a1 := (hr.ccell _ _ za).trans ka.2
    have b0 := (hr.ccell _ _ zb).trans kb.1
    have b1 := (hr.ccell _ _ zb).trans kb.2
    obtain ⟨g0, g1, g2, g3, g4, g5⟩ := (kg.ext hr zg).six
    have zg2 := hr.sz _ zg
    have za2 := hr.sz _ za
    have zb2 := hr.sz _ zb
    by_cases hlt : k < M
    · have hkn : k ≤ n := by have := HMM.out; omega
      have hkn' : (k : Int) ≤ n := by omega
      have P1 := Lib.hid (fun w' => HF1.out k hkn w')
      have P2 := Lib.hid (fun w' => HF2.out k hkn w')
      obtain ⟨⟨⟨d1, d2⟩, d3, d4⟩, ⟨d5, d6⟩, d7, d8⟩ := HBD.out k hkn
      have e1 : pwI ax bx k n = ax + (bx - ax) * k / n := rfl
      have e2 : pwI ay b_y k n = ay + (b_y - ay) * k / n := rfl
      obtain ⟨px, hpx⟩ : ∃ px, pwI ax bx k n = px := ⟨_, rfl⟩
      obtain ⟨py, hpy⟩ : ∃ py, pwI ay b_y k n = py := ⟨_, rfl⟩
      have HLV : Hid (lvX g px py = prF g ax ay bx b_y n k) := Lib.hid (by rw [← hpx, ← hpy]; rfl)
      rw [hpx] at e1
      rw [hpy] at e2
      obtain ⟨n1, hn1⟩ : ∃ n1, (bx - ax) * (k : Int) = n1 := ⟨_, rfl⟩
      obtain ⟨n2, hn2⟩ : ∃ n2, (b_y - ay) * (k : Int) = n2 := ⟨_, rfl⟩
      rw [hn1] at P1 d1 d2 d3 d4 e1
      rw [hn2] at P2 d5 d6 d7 d8 e2
      have w7 : IntKind.i64.wrap ((bx - ax) * (k : Int)) = n1 := by rw [hn1]; exact IntWalk.i64_in _ (by omega)
      have w8 : IntKind.i64.wrap ((b_y - ay) * (k : Int)) = n2 := by rw [hn2]; exact IntWalk.i64_in _ (by omega)
      obtain ⟨q1, hq1⟩ : ∃ q1, n1 / (n : Int) = q1 := ⟨_, rfl⟩
      obtain ⟨q2, hq2⟩ : ∃ q2, n2 / (n : Int) = q2 := ⟨_, rfl⟩
      rw [hq1] at P1 d3 d4 e1
      rw [hq2] at P2 d7 d8 e2
      have w9 : IntKind.i64.wrap (ax + q1) = px := by rw [e1]; exact IntWalk.i64_in _ (by omega)
      have w10 : IntKind.i64.wrap (ay + q2) = py := by rw [e2]; exact IntWalk.i64_in _ (by omega)
      have R1 := Lib.hid (fun w' => HRC.out px py w')
      obtain ⟨Z, hZ⟩ : ∃ Z, (if inB g px py = true then cIdx g px py else -1) = Z := ⟨_, rfl⟩
      rw [hZ] at R1
      have HZ := Lib.hid hZ
      clear hpx hpy hn1 hn2 hq1 hq2 e1 e2 hZ
      go_upto_region 5 with fail
      refine region_grow (by kernel_rfl) (by kernel_rfl) ?_
      repeat (first | go_big_quiet_step (first | (go_at_call 83; with_reducible exact callsStay (P1.out _)) | (go_at_call 83; with_reducible exact callsStay (P2.out _)) | (go_at_call 28; with_reducible exact callsGrow (R1.out _)) | fail) | quiet_step (first | (go_at_call 83; with_reducible exact callsStay (P1.out _)) | (go_at_call 83; with_reducible exact callsStay (P2.out _)) | (go_at_call 28; with_reducible exact callsGrow (R1.out _)) | fail))
      refine wpQuiet_nil ?_
      intro w1 hb
      have hc := hb.ccell
      have hf := hb.frz
      have hs := hb.sz
      (try simp at hs); (try have hs0 := hs w.heap.size (by omega)); (try have hs1 := hs (w.heap.size + 1) (by omega)); (try have hs2 := hs (w.heap.size + 1 + 1) (by omega)); (try have hs3 := hs (w.heap.size + 1 + 1 + 1) (by omega))
      (try simp only [IntWalk.i64_left])
      have hx : Ext wr w1 := hb
      have hO1 := Lib.hid (ownsRow_ext hO.out hx)
      have HN : Hid ((mkL (prF g ax ay bx b_y n) (k + 1)).flatMap encZ = (mkL (prF g ax ay bx b_y n) k).flatMap encZ ++ [.int .i64 (lvX g px py)]) := Lib.hid (by rw [HLV.out]; exact mkL_flat _ _)
      generalize (mkL (prF g ax ay bx b_y n) k).flatMap encZ = M0 at *
      have hrx := hr.tr hx
      have hEx := hE.tr hx
      have zg3 := hx.sz _ zg2
      obtain ⟨u0, u1, u2, u3, u4, u5⟩ := (kg.ext hrx zg).six
      have hq1 : ∃ q, W1.heap.size < q := ⟨_, Nat.lt_succ_self _⟩
      (try clear hs0); (try clear hs1); (try clear hs2); (try clear hs3); clear hc hf hs g0 g1 g2 g3 g4 g5 a0 a1 b0 b1 w7 w8 w9 w10 d1 d2 d3 d4 d5 d6 d7 d8 zg2 za2 zb2 hq1
      obtain ⟨hi0, hzi0, hzi1, hzi2⟩ := HI.out
      cases hin : inB g px py
      · have hz : Z = -1 := by have h := HZ.out; rw [hin] at h; exact h.symm.trans rfl
        have HV : Hid (lvX g px py = 30000) := Lib.hid (by unfold lvX; rw [hin]; rfl)
        rw [HV.out] at HN
        subst hz
        clear hin
        go_wp2_with (first | (at_builtin; refine wpList_append_own _ rfl _ _ 22 rfl (W1.heap.size) 3 i0 _ 1 8 Try.underlying22 hi0 hzi0 hzi1 hzi2 rfl (by decide) _ _ _ rfl (World.ownsRow.alloc (ownsRow_ext (hO1.out) (Ext.rfl' _)) _) ⟨_, 0, none⟩ 1 1 [.int .i64 ((30000 : Int))] rfl rfl ?_ ?_ ?_ ?_ ?_ ?_))
        · exact one_newZ _ _ _
        · intro u hu; simp at hu; subst hu; rfl
        · unfold maxLen; omega
        · omega
        · have := hrx.size
          simp; omega
        intro v' w4 hown hgrow _
        have hE4 : Ext W1 w4 := grown_ext (Ext.al hrx _) (World.ownsRow.alloc hO1.out _) (Nat.le_refl _) hgrow
        have hown2 := Lib.hid hown
        clear hown hgrow hi0 hzi0 hzi1 hzi2
        go_wp2
        refine ⟨⟨hE4, k + 1, by omega, by go_num, Lib.hid ?_⟩, by simp [intOf]; omega⟩
        rw [HN.out]
        exact hown2.out
      · obtain ⟨k', hk', hkl⟩ := HIN.out _ _ hin
        have hz : Z = k' := by have h := HZ.out; rw [hin, if_pos rfl, hk'] at h; exact h.symm
        obtain ⟨bl, ol, hAe, hbl, hcell⟩ := HA.out.p1 hkl
        have HV : Hid (lvX g px py = gi g.L k') := Lib.hid (by unfold lvX; rw [hin, if_pos rfl, hk']; rfl)
        rw [HV.out] at HN
        have ck := hcell _ hEx
        rw [← gi_lt] at ck
        generalize gi g.L k' = V at *
        subst hz
        subst hAe
        clear hin hk' hcell
        go_wp2_with (first | (at_builtin; refine wpList_append_own _ rfl _ _ 22 rfl (W1.heap.size) 3 i0 _ 1 8 Try.underlying22 hi0 hzi0 hzi1 hzi2 rfl (by decide) _ _ _ rfl (World.ownsRow.alloc (ownsRow_ext (hO1.out) (Ext.rfl' _)) _) ⟨_, 0, none⟩ 1 1 [.int .i64 (V)] rfl rfl ?_ ?_ ?_ ?_ ?_ ?_))
        · exact one_newZ _ _ _
        · intro u hu; simp at hu; subst hu; rfl
        · unfold maxLen; omega
        · omega
        · have := hrx.size
          simp; omega
        intro v' w4 hown hgrow _
        have hE4 : Ext W1 w4 := grown_ext (Ext.al hrx _) (World.ownsRow.alloc hO1.out _) (Nat.le_refl _) hgrow
        have hown2 := Lib.hid hown
        clear hown hgrow hi0 hzi0 hzi1 hzi2
        go_wp2
        refine ⟨⟨hE4, k + 1, by omega, by go_num, Lib.hid ?_⟩, by simp [intOf]; omega⟩
        rw [HN.out]
        exact hown2.out
    · have hkM : k = M := by omega
      have hkn' : ¬ (k : Int) ≤ n := by have := HMM.out; omega
      obtain ⟨A', c', hv, hN⟩ := NewZ.of (l := mkL (prF g ax ay bx b_y n) k) rfl (mkL_len _ _).symm hO.out
      rw [mkL_len] at hv
      subst hv
      have HN := Lib.hid hN.row
      clear hO hN
      subst hkM
      go_wp2
      go_ret
      exact ⟨⟨A', c', rfl, HN.out⟩, hE⟩
end Go.Proofs.Ytgnakeemcccfjaa
