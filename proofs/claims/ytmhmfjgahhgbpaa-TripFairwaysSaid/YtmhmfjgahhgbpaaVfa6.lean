/- The contracts of reachOf and Clearance. -/
import Derived.Test.YtmhmfjgahhgbpaaVfa5
import Derived.Test.YtmhmfjgahhgbpaaTreflev
namespace Go.Proofs.Ytmhmfjgahhgbpaa
open Go Go.RowKit Go.IntWalk

theorem sum_bd {a b v u x m M : Int} (h1 : a ≤ x) (h2 : x ≤ b) (v1 : m ≤ v) (v2 : v ≤ M) (u1 : m ≤ u) (u2 : u ≤ M) : m * (b - a) ≤ sumZ a v b u x ∧ sumZ a v b u x ≤ M * (b - a) := by
  unfold sumZ
  have p1 := Int.mul_le_mul_of_nonneg_right v1 (show 0 ≤ b - x by omega)
  have p2 := Int.mul_le_mul_of_nonneg_right v2 (show 0 ≤ b - x by omega)
  have p3 := Int.mul_le_mul_of_nonneg_right u1 (show 0 ≤ x - a by omega)
  have p4 := Int.mul_le_mul_of_nonneg_right u2 (show 0 ≤ x - a by omega)
  have e1 : m * (b - a) = m * (b - x) + m * (x - a) := by grind
  have e2 : M * (b - a) = M * (b - x) + M * (x - a) := by grind
  omega
theorem quo_bd {S d : Int} (hd : 0 < d) (h1 : -21000 * d ≤ S) (h2 : S ≤ 21000 * d) : -21000 ≤ S / d ∧ S / d ≤ 21000 := by
  have h4 := Int.le_ediv_of_mul_le hd h1
  have h5 := Int.ediv_lt_of_lt_mul (b := 21001) hd (show S < 21001 * d by omega)
  omega
theorem plLo_bd {gs : List Ga} {x t : Int} {P : Nat → Nat} {i : Nat} (hG : GoodL gs) (hp : PosG gs x i) (hP : ∀ k, k < gs.length → PosAt (gg gs k).l t (P k)) : -21000 ≤ (plV gs x t P i).1 ∧ (plV gs x t P i).1 ≤ 21000 := by
  have one : ∀ k, k < gs.length → -21000 ≤ (oneV (gg gs k) t (P k)).1 ∧ (oneV (gg gs k) t (P k)).1 ≤ 21000 := by
    intro k hk
    have g := hG.ok k hk
    have := (lo_hi_small g.m g.er (hP k hk)).1
    unfold oneV
    dsimp only
    omega
  unfold plV
  by_cases h0 : gs.length = 0
  · rw [if_pos h0]; simp
  rw [if_neg h0]
  by_cases h1 : (foundG gs x i || decide (i = 0)) = true
  · rw [if_pos h1]
    have hil : i < gs.length := by
      rw [Bool.or_eq_true] at h1
      rcases h1 with h1 | h1
      · unfold foundG at h1; rw [Bool.and_eq_true] at h1; exact of_decide_eq_true h1.1
      · have := of_decide_eq_true h1; omega
    exact one i hil
  rw [if_neg h1]
  have hi0 : i ≠ 0 := by intro h; subst h; simp at h1
  have hile := hp.1
  by_cases h2 : i = gs.length
  · rw [if_pos h2]; exact one _ (by omega)
  rw [if_neg h2]
  have hil : i < gs.length := by omega
  have ga := hG.ok (i - 1) (by omega)
  have gb := hG.ok i hil
  have la := (lo_hi_small ga.m ga.er (hP (i - 1) (by omega))).1
  have lb := (lo_hi_small gb.m gb.er (hP i hil)).1
  have hax := hp.2.1 (i - 1) (by omega)
  have hxb := hp.2.2 i (Nat.le_refl _) hil
  unfold twoV btLo
  dsimp only
  split
  · have hd : 0 < (gg gs i).x - (gg gs (i - 1)).x := by omega
    have h3 := sum_bd (a := (gg gs (i - 1)).x) (b := (gg gs i).x) (v := gLo (gg gs (i - 1)).er (gg gs (i - 1)).l t (P (i - 1))) (u := gLo (gg gs i).er (gg gs i).l t (P i)) (x := x) (m := -21000) (M := 21000) (by omega) hxb la.1 (by omega) lb.1 (by omega)
    exact quo_bd hd h3.1 h3.2
  · omega

/-- The error of the fairway, or that it has no such reach. -/
def roE (gs : List Ga) (rs : List Re) (ts : List Tk) (i : Nat) : Int := if fairE gs rs ts ≠ 0 then fairE gs rs ts else if i < rs.length then 0 else 6
set_option maxHeartbeats 8000000 in
theorem vreachOf_c (gs : List Ga) (rs : List Re) (ts : List Tk) (s : ByteArray) (i : Nat) (w : World) (Ag Ar At : Option Addr) (cg cr ct : Nat) (hF : FairW w gs rs ts Ag Ar At cg cr ct) (hi : FstR rs s i) :
    Calls Try.prog 37 #[.agg #[.slice Ag gs.length cg, .slice Ar rs.length cr, .slice At ts.length ct], .string s] w fun e w' => e = .returned (.tuple #[reV (el rs i) (decide (roE gs rs ts i = 0)), .int .i64 (roE gs rs ts i)]) ∧ Ext w w' := by
  have HC := Lib.hid (fun w' (hw : Ext w w') => checkFairway_c gs rs ts w' Ag Ar At cg cr ct (hF.ext hw))
  have HFR := Lib.hid (fun w' (hw : Ext w w') => findReach_c rs s i w' Ar cr hF.rl (hF.rR.ext hw) hi)
  unfold roE
  clear hF hi
  by_cases h0 : fairE gs rs ts = 0
  case neg =>
    rw [if_pos h0, decide_eq_false h0]
    unfold reV
    rw [if_neg (by decide)]
    have h1 : (fairE gs rs ts != 0) = true := by simp [h0]
    have h2 : (fairE gs rs ts == 0) = false := by simp [h0]
    generalize fairE gs rs ts = E at *
    go_enter Try.func37, Try.ntmps37
    go_upto_region 1 with fail
    refine wp_name (fun W hW => ?_)
    have hEW : Ext w W := by rw [hW]; (repeat (first | with_reducible exact Ext.rfl' _ | with_reducible assumption | with_reducible refine Ext.al ?_ _ | with_reducible refine Ext.dr ?_ | with_reducible refine Ext.st ?_ (by simp) _ | with_reducible refine Ext.tr ?_ (by assumption)))
    have s0 : W.cell? ⟨w.heap.size, 0, none⟩ = some (.slice Ag gs.length cg) := by rw [hW]; simp [go_sem]
    have s1 : W.cell? ⟨w.heap.size, 1, none⟩ = some (.slice Ar rs.length cr) := by rw [hW]; simp [go_sem]
    have s2 : W.cell? ⟨w.heap.size, 2, none⟩ = some (.slice At ts.length ct) := by rw [hW]; simp [go_sem]
    have kz : CellsAt W (w.heap.size + 1) 0 [.string ⟨#[]⟩, .int .i64 0, .int .i64 0, .int .i64 0, .int .i64 0, .bool false, .bool false] := by rw [hW]; refine cells_seven ⟨?_, ?_, ?_, ?_, ?_, ?_, ?_⟩ <;> simp [go_sem]
    have fz : ∀ o, W.frozen? ⟨w.heap.size + 1, o, none⟩ = false := by intro o; rw [hW]; simp [go_sem]
    have hz0 : w.heap.size < W.heap.size := by rw [hW]; simp; omega
    have hz1 : w.heap.size + 1 < W.heap.size := by rw [hW]; simp
    clear hW
    go_upto_region 2 with (first | (go_at_call 16; with_reducible refine Calls.mono (HC.out _ hEW) ?_; rintro e w1 ⟨rfl, hb⟩))
    have kz1 : CellsAt w1 (w.heap.size + 1) 0 [.string ⟨#[]⟩, .int .i64 0, .int .i64 0, .int .i64 0, .int .i64 0, .bool false, .bool false] := by intro j v hj; rw [hb.ccell _ _ hz1]; exact kz j v hj
    have hf : ∀ o, w1.frozen? ⟨w.heap.size + 1, o, none⟩ = false := fun o => (hb.frz _ o hz1).trans (fz o)
    have hE1 : Ext w w1 := hEW.tr hb
    have t0 := (hb.ccell _ 0 hz0).trans s0
    have t1 := (hb.ccell _ 1 hz0).trans s1
    have t2 := (hb.ccell _ 2 hz0).trans s2
    have hz2 := hb.sz _ hz1
    have hz3 := hb.sz _ hz0
    clear s0 s1 s2 kz fz hb hEW hz0 hz1
    obtain ⟨z0, z1, z2, z3, z4, z5, z6⟩ := kz1.seven
    go_wp2
    have hSL := stL_at (w.heap.size + 1) [.string ⟨#[]⟩, .int .i64 0, .int .i64 0, .int .i64 0, .int .i64 0, .bool false, .bool false] _ 0 _ kz1 rfl
    have hXL := stL_ext (w.heap.size + 1) (by first | omega | (simp; done) | (simp; omega)) [.string ⟨#[]⟩, .int .i64 0, .int .i64 0, .int .i64 0, .int .i64 0, .bool false, .bool false] 0 _ hE1
    show bodyPost _ _ _ _ _ (stL (w1) (w.heap.size + 1) 0 [.string ⟨#[]⟩, .int .i64 0, .int .i64 0, .int .i64 0, .int .i64 0, .bool false, .bool false])
    generalize stL (w1) (w.heap.size + 1) 0 [.string ⟨#[]⟩, .int .i64 0, .int .i64 0, .int .i64 0, .int .i64 0, .bool false, .bool false] = WL at hSL hXL ⊢
    obtain ⟨s0, s1, s2, s3, s4, s5, s6⟩ := hSL.seven
    refine bodyPost_ret (v := .tuple #[.agg #[.string ⟨#[]⟩, .int .i64 0, .int .i64 0, .int .i64 0, .int .i64 0, .bool false, .bool false], .int .i64 E]) (by simp [results, Try.results37, go_sem, s0, s1, s2, s3, s4, s5, s6]) rfl ⟨rfl, hXL⟩
  rw [h0] at HC ⊢
  rw [if_neg (by decide)]
  clear h0
  by_cases hil : i < rs.length
  · rw [if_pos hil, decide_eq_true rfl]
    rw [decide_eq_true hil] at HFR
    unfold reV at *
    rw [if_pos rfl] at *
    generalize el rs i = r at *
    go_enter Try.func37, Try.ntmps37
    go_upto_region 1 with fail
    refine wp_name (fun W hW => ?_)
    have hEW : Ext w W := by rw [hW]; (repeat (first | with_reducible exact Ext.rfl' _ | with_reducible assumption | with_reducible refine Ext.al ?_ _ | with_reducible refine Ext.dr ?_ | with_reducible refine Ext.st ?_ (by simp) _ | with_reducible refine Ext.tr ?_ (by assumption)))
    have s0 : W.cell? ⟨w.heap.size, 0, none⟩ = some (.slice Ag gs.length cg) := by rw [hW]; simp [go_sem]
    have s1 : W.cell? ⟨w.heap.size, 1, none⟩ = some (.slice Ar rs.length cr) := by rw [hW]; simp [go_sem]
    have s2 : W.cell? ⟨w.heap.size, 2, none⟩ = some (.slice At ts.length ct) := by rw [hW]; simp [go_sem]
    have kz : CellsAt W (w.heap.size + 1) 0 [.string ⟨#[]⟩, .int .i64 0, .int .i64 0, .int .i64 0, .int .i64 0, .bool false, .bool false] := by rw [hW]; refine cells_seven ⟨?_, ?_, ?_, ?_, ?_, ?_, ?_⟩ <;> simp [go_sem]
    have fz : ∀ o, W.frozen? ⟨w.heap.size + 1, o, none⟩ = false := by intro o; rw [hW]; simp [go_sem]
    have hz0 : w.heap.size < W.heap.size := by rw [hW]; simp; omega
    have hz1 : w.heap.size + 1 < W.heap.size := by rw [hW]; simp
    clear hW
    go_upto_region 2 with (first | (go_at_call 16; with_reducible refine Calls.mono (HC.out _ hEW) ?_; rintro e w1 ⟨rfl, hb⟩))
    have kz1 : CellsAt w1 (w.heap.size + 1) 0 [.string ⟨#[]⟩, .int .i64 0, .int .i64 0, .int .i64 0, .int .i64 0, .bool false, .bool false] := by intro j v hj; rw [hb.ccell _ _ hz1]; exact kz j v hj
    have hf : ∀ o, w1.frozen? ⟨w.heap.size + 1, o, none⟩ = false := fun o => (hb.frz _ o hz1).trans (fz o)
    have hE1 : Ext w w1 := hEW.tr hb
    have t0 := (hb.ccell _ 0 hz0).trans s0
    have t1 := (hb.ccell _ 1 hz0).trans s1
    have t2 := (hb.ccell _ 2 hz0).trans s2
    have hz2 := hb.sz _ hz1
    have hz3 := hb.sz _ hz0
    clear s0 s1 s2 kz fz hb hEW hz0 hz1
    go_upto_region 5 with (first | (go_at_call 57; with_reducible refine Calls.mono (HFR.out _ hE1) ?_; rintro e w2 ⟨rfl, hb⟩; have hc2 := hb.ccell))
    refine wp_name (fun W hW => ?_)
    have hx : Ext w1 W := by rw [hW]; (repeat (first | with_reducible exact Ext.rfl' _ | with_reducible assumption | with_reducible refine Ext.al ?_ _ | with_reducible refine Ext.dr ?_ | with_reducible refine Ext.st ?_ (by simp) _ | with_reducible refine Ext.tr ?_ (by assumption)))
    have kz2 : CellsAt W (w.heap.size + 1) 0 [.string ⟨#[]⟩, .int .i64 0, .int .i64 0, .int .i64 0, .int .i64 0, .bool false, .bool false] := by intro j v hj; rw [hx.ccell _ _ hz2]; exact kz1 j v hj
    have hf2 : ∀ o, W.frozen? ⟨w.heap.size + 1, o, none⟩ = false := fun o => (hx.frz _ o hz2).trans (hf o)
    have q0 : W.cell? ⟨w2.heap.size, 0, none⟩ = some (.string r.s) := by rw [hW]; simp [go_sem]
    have q1 : W.cell? ⟨w2.heap.size, 1, none⟩ = some (.int .i64 r.x) := by rw [hW]; simp [go_sem]
    have q2 : W.cell? ⟨w2.heap.size, 2, none⟩ = some (.int .i64 r.lev) := by rw [hW]; simp [go_sem]
    have q3 : W.cell? ⟨w2.heap.size, 3, none⟩ = some (.int .i64 r.mi) := by rw [hW]; simp [go_sem]
    have q4 : W.cell? ⟨w2.heap.size, 4, none⟩ = some (.int .i64 r.cl) := by rw [hW]; simp [go_sem]
    have q5 : W.cell? ⟨w2.heap.size, 5, none⟩ = some (.bool r.wt) := by rw [hW]; simp [go_sem]
    have q6 : W.cell? ⟨w2.heap.size, 6, none⟩ = some (.bool r.one) := by rw [hW]; simp [go_sem]
    have zq : w2.heap.size < W.heap.size := by rw [hW]; simp
    have hE2 : Ext w W := hE1.tr hx
    have hzz := hx.sz _ hz2
    clear hW kz1 hf hb hc2 t0 t1 t2 hz3
    obtain ⟨z0, z1, z2, z3, z4, z5, z6⟩ := kz2.seven
    go_wp2
    have hSL := stL_at (w.heap.size + 1) [.string r.s, .int .i64 r.x, .int .i64 r.lev, .int .i64 r.mi, .int .i64 r.cl, .bool r.wt, .bool r.one] _ 0 _ kz2 rfl
    have hXL := stL_ext (w.heap.size + 1) (by first | omega | (simp; done) | (simp; omega)) [.string r.s, .int .i64 r.x, .int .i64 r.lev, .int .i64 r.mi, .int .i64 r.cl, .bool r.wt, .bool r.one] 0 _ hE2
    show bodyPost _ _ _ _ _ (stL (W) (w.heap.size + 1) 0 [.string r.s, .int .i64 r.x, .int .i64 r.lev, .int .i64 r.mi, .int .i64 r.cl, .bool r.wt, .bool r.one])
    generalize stL (W) (w.heap.size + 1) 0 [.string r.s, .int .i64 r.x, .int .i64 r.lev, .int .i64 r.mi, .int .i64 r.cl, .bool r.wt, .bool r.one] = WL at hSL hXL ⊢
    obtain ⟨s0, s1, s2, s3, s4, s5, s6⟩ := hSL.seven
    refine bodyPost_ret (v := .tuple #[.agg #[.string r.s, .int .i64 r.x, .int .i64 r.lev, .int .i64 r.mi, .int .i64 r.cl, .bool r.wt, .bool r.one], .int .i64 0]) (by simp [results, Try.results37, go_sem, s0, s1, s2, s3, s4, s5, s6]) rfl ⟨rfl, hXL⟩
  · rw [if_neg hil, decide_eq_false (by decide)]
    rw [decide_eq_false hil] at HFR
    unfold reV at *
    rw [if_neg (by decide)] at *
    go_enter Try.func37, Try.ntmps37
    go_upto_region 1 with fail
    refine wp_name (fun W hW => ?_)
    have hEW : Ext w W := by rw [hW]; (repeat (first | with_reducible exact Ext.rfl' _ | with_reducible assumption | with_reducible refine Ext.al ?_ _ | with_reducible refine Ext.dr ?_ | with_reducible refine Ext.st ?_ (by simp) _ | with_reducible refine Ext.tr ?_ (by assumption)))
    have s0 : W.cell? ⟨w.heap.size, 0, none⟩ = some (.slice Ag gs.length cg) := by rw [hW]; simp [go_sem]
    have s1 : W.cell? ⟨w.heap.size, 1, none⟩ = some (.slice Ar rs.length cr) := by rw [hW]; simp [go_sem]
    have s2 : W.cell? ⟨w.heap.size, 2, none⟩ = some (.slice At ts.length ct) := by rw [hW]; simp [go_sem]
    have kz : CellsAt W (w.heap.size + 1) 0 [.string ⟨#[]⟩, .int .i64 0, .int .i64 0, .int .i64 0, .int .i64 0, .bool false, .bool false] := by rw [hW]; refine cells_seven ⟨?_, ?_, ?_, ?_, ?_, ?_, ?_⟩ <;> simp [go_sem]
    have fz : ∀ o, W.frozen? ⟨w.heap.size + 1, o, none⟩ = false := by intro o; rw [hW]; simp [go_sem]
    have hz0 : w.heap.size < W.heap.size := by rw [hW]; simp; omega
    have hz1 : w.heap.size + 1 < W.heap.size := by rw [hW]; simp
    clear hW
    go_upto_region 2 with (first | (go_at_call 16; with_reducible refine Calls.mono (HC.out _ hEW) ?_; rintro e w1 ⟨rfl, hb⟩))
    have kz1 : CellsAt w1 (w.heap.size + 1) 0 [.string ⟨#[]⟩, .int .i64 0, .int .i64 0, .int .i64 0, .int .i64 0, .bool false, .bool false] := by intro j v hj; rw [hb.ccell _ _ hz1]; exact kz j v hj
    have hf : ∀ o, w1.frozen? ⟨w.heap.size + 1, o, none⟩ = false := fun o => (hb.frz _ o hz1).trans (fz o)
    have hE1 : Ext w w1 := hEW.tr hb
    have t0 := (hb.ccell _ 0 hz0).trans s0
    have t1 := (hb.ccell _ 1 hz0).trans s1
    have t2 := (hb.ccell _ 2 hz0).trans s2
    have hz2 := hb.sz _ hz1
    have hz3 := hb.sz _ hz0
    clear s0 s1 s2 kz fz hb hEW hz0 hz1
    go_upto_region 5 with (first | (go_at_call 57; with_reducible refine Calls.mono (HFR.out _ hE1) ?_; rintro e w2 ⟨rfl, hb⟩; have hc2 := hb.ccell))
    refine wp_name (fun W hW => ?_)
    have hx : Ext w1 W := by rw [hW]; (repeat (first | with_reducible exact Ext.rfl' _ | with_reducible assumption | with_reducible refine Ext.al ?_ _ | with_reducible refine Ext.dr ?_ | with_reducible refine Ext.st ?_ (by simp) _ | with_reducible refine Ext.tr ?_ (by assumption)))
    have kz2 : CellsAt W (w.heap.size + 1) 0 [.string ⟨#[]⟩, .int .i64 0, .int .i64 0, .int .i64 0, .int .i64 0, .bool false, .bool false] := by intro j v hj; rw [hx.ccell _ _ hz2]; exact kz1 j v hj
    have hf2 : ∀ o, W.frozen? ⟨w.heap.size + 1, o, none⟩ = false := fun o => (hx.frz _ o hz2).trans (hf o)
    have hE2 : Ext w W := hE1.tr hx
    have hzz := hx.sz _ hz2
    clear hW kz1 hf hb hc2 t0 t1 t2 hz3
    obtain ⟨z0, z1, z2, z3, z4, z5, z6⟩ := kz2.seven
    go_wp2
    have hSL := stL_at (w.heap.size + 1) [.string ⟨#[]⟩, .int .i64 0, .int .i64 0, .int .i64 0, .int .i64 0, .bool false, .bool false] _ 0 _ kz2 rfl
    have hXL := stL_ext (w.heap.size + 1) (by first | omega | (simp; done) | (simp; omega)) [.string ⟨#[]⟩, .int .i64 0, .int .i64 0, .int .i64 0, .int .i64 0, .bool false, .bool false] 0 _ hE2
    show bodyPost _ _ _ _ _ (stL (W) (w.heap.size + 1) 0 [.string ⟨#[]⟩, .int .i64 0, .int .i64 0, .int .i64 0, .int .i64 0, .bool false, .bool false])
    generalize stL (W) (w.heap.size + 1) 0 [.string ⟨#[]⟩, .int .i64 0, .int .i64 0, .int .i64 0, .int .i64 0, .bool false, .bool false] = WL at hSL hXL ⊢
    obtain ⟨s0, s1, s2, s3, s4, s5, s6⟩ := hSL.seven
    refine bodyPost_ret (v := .tuple #[.agg #[.string ⟨#[]⟩, .int .i64 0, .int .i64 0, .int .i64 0, .int .i64 0, .bool false, .bool false], .int .i64 6]) (by simp [results, Try.results37, go_sem, s0, s1, s2, s3, s4, s5, s6]) rfl ⟨rfl, hXL⟩
end Go.Proofs.Ytmhmfjgahhgbpaa
