/- The chapter's examples. -/
import Derived.Test.YtgnakeemcccfjaaGreatBcc
import Derived.Test.YtgnakeemcccfjaaGreatBover
import Derived.Test.YtgnakeemcccfjaaGreatBpright
namespace Go.Proofs.YtgnakeemcccfjaaGreat
open Go Go.RowKit Go.IntWalk

def smG : Gr := ⟨0, 0, 100, 3, 2, [-500, -300, -400, -600, 30000, -450]⟩
def afG : Gr := ⟨0, 0, 100, 3, 2, [-500, -500, -350, -600, -700, -450]⟩
def OutSm (w : World) (e : Ending) (w' : World) : Prop := ∃ q, w.heap.size ≤ q ∧ e = .returned (.agg #[.int .i64 0, .int .i64 0, .int .i64 100, .int .i64 3, .int .i64 2, .slice (some ⟨q, 0, none⟩) 6 6]) ∧ Row 1 encZ w' (some ⟨q, 0, none⟩) smG.L
theorem small_c (w : World) :
    Calls Tryz.prog 24 #[] w fun e w' => OutSm w e w' ∧ Ext w w' := by
  go_enter Tryz.func24, Tryz.ntmps24
  go_wp2
  refine bodyPost_ret (v := .agg #[.int .i64 0, .int .i64 0, .int .i64 100, .int .i64 3, .int .i64 2, .slice (some ⟨w.heap.size + 1, 0, none⟩) 6 6]) (by simp [results, Tryz.results24, go_sem]) rfl ⟨⟨_, by omega, rfl, ?_⟩, ?_⟩
  · exact Row.new' encZ_len _ _ _ smG.L _ (by simp) rfl
  · (repeat (first | with_reducible exact Ext.rfl' _ | with_reducible assumption | with_reducible refine Ext.al ?_ _ | with_reducible refine Ext.dr ?_ | with_reducible refine Ext.st ?_ (by simp) _ | with_reducible refine Ext.tr ?_ (by assumption)))
theorem smE : EndsOk smG 3 2 [3] [5] := ⟨rfl, rfl, by omega, by omega, by omega, by omega, rfl, by decide, by decide, by decide, by decide⟩
theorem smV : VG smG := chkG_ok (by kernel_rfl)
theorem sm_way : wayA smG 3 2 [3] [5] (-300) := by
  refine ⟨[3, 0, 1, 2, 5], by decide, by decide, by decide, ?_, ?_⟩
  · have : ∀ k, k < 5 → gn [3, 0, 1, 2, 5] k < 3 * 2 ∧ naP smG (-300) (gn [3, 0, 1, 2, 5] k) = true := by decide
    exact this
  · have : ∀ k, k < 4 → gn [3, 0, 1, 2, 5] (k + 1) ∈ nbr 3 2 (gn [3, 0, 1, 2, 5] k) := by decide
    intro k hk
    exact this k (by simp at hk; omega)
theorem sm_no {x : Int} (hx : x < -300) : ¬ wayA smG 3 2 [3] [5] x := by
  rintro ⟨p, h1, h2, h3, h4, h5⟩
  have key : ∀ k, k < p.length → gn p k = 0 ∨ gn p k = 3 := by
    intro k
    induction k with
    | zero => intro _; right; simpa using h2
    | succ k ih =>
      intro hk
      have h6 := h5 k hk
      have h7 := (naP_iff.1 (h4 (k + 1) hk).2)
      have h8 : ∀ d, d ∈ nbr 3 2 0 ∨ d ∈ nbr 3 2 3 → d = 0 ∨ d = 3 ∨ d = 1 ∨ d = 4 := by
        intro d hd
        have e1 : nbr 3 2 0 = [1, 3] := by decide
        have e2 : nbr 3 2 3 = [0, 4] := by decide
        rw [e1, e2] at hd
        simp at hd; omega
      unfold adjN at h6
      have h9 := h8 (gn p (k + 1)) (by rcases ih (by omega) with h | h <;> rw [h] at h6; exact .inl h6; exact .inr h6)
      rcases h9 with h | h | h | h
      · exact .inl h
      · exact .inr h
      · rw [h] at h7
        have h10 : gi smG.L 1 = -300 := rfl
        rw [h10] at h7
        exfalso; omega
      · rw [h] at h7
        exact absurd (show gi smG.L 4 = 30000 from rfl) h7.1
  have h11 := key (p.length - 1) (by omega)
  have h12 : gn p (p.length - 1) = 5 := by simpa using h3
  omega
/-- What Clear gives from cell 3 to cell 5. -/
def OutSmC (_w : World) (e : Ending) (w' : World) : Prop :=
  ∃ (p q : List Int) (Ap Aq : Option Addr) (cp cq : Nat), e = .returned (.tuple #[.agg #[.int .i64 (-300), .slice Ap p.length cp, .slice Aq q.length cq], .int .i64 0]) ∧ p.length ≤ 50000 ∧ q.length ≤ 50000 ∧ Row 1 encZ w' Ap p ∧ Row 1 encZ w' Aq q ∧ Right smG 3 2 [3] [5] (-300) p q
theorem clear_sm_c (w : World) (A B D : Option Addr) (c cB cD : Nat) (hA : Row 1 encZ w A smG.L) (hB : Row 1 encZ w B (zl [3])) (hD : Row 1 encZ w D (zl [5])) :
    Calls Tryz.prog 26 #[.agg #[.int .i64 0, .int .i64 0, .int .i64 100, .int .i64 3, .int .i64 2, .slice A 6 c], .slice B 1 cB, .slice D 1 cD] w fun e w' => OutSmC w e w' ∧ Ext w w' := by
  refine (clear_ok_c smE w A B D c cB cD hA hB hD (by kernel_rfl)).mono ?_
  rintro e w' ⟨h, hE⟩
  refine ⟨?_, hE⟩
  rcases h with ⟨_, h⟩ | ⟨lev, p, Ap, cp, Ab, cb, he, h1, h2, h3, h4, h5, h6⟩
  · exact absurd sm_way (h (-300) (by decide) (by decide))
  · have h7 : ¬ lev < -300 := fun h => sm_no h ⟨p, h2⟩
    have h8 : ¬ -300 < lev := fun h => h4 (-300) (by decide) (by decide) h sm_way
    have h9 : lev = -300 := by omega
    subst h9
    have h10 := chs_len (nbP smG (-300)) smG.L.length
    have h11 : smG.L.length = 6 := rfl
    refine ⟨zl p, zl (chs (nbP smG (-300)) smG.L.length), Ap, Ab, cp, cb, ?_, by rw [zl_len]; omega, by rw [zl_len]; omega, h5.row, h6.row, right_of_clear smE smV h2 h4⟩
    rw [zl_len, zl_len]; exact he
theorem checkClear_sm_c (w : World) (A B D Ap Aq : Option Addr) (c cB cD cp cq : Nat) (p q : List Int) (hp : p.length ≤ 50000) (hq : q.length ≤ 50000) (hA : Row 1 encZ w A smG.L) (hB : Row 1 encZ w B (zl [3])) (hD : Row 1 encZ w D (zl [5])) (hP : Row 1 encZ w Ap p) (hQ : Row 1 encZ w Aq q) (hR : Right smG 3 2 [3] [5] (-300) p q) :
    Calls Tryz.prog 27 #[.agg #[.int .i64 0, .int .i64 0, .int .i64 100, .int .i64 3, .int .i64 2, .slice A 6 c], .agg #[.slice B 1 cB, .slice D 1 cD, .int .i64 (-300), .slice Ap p.length cp, .slice Aq q.length cq]] w fun e w' => e = .returned (.int .i64 0) ∧ Ext w w' := by
  refine (checkClear_c smE p q (-300) w A B D Ap Aq c cB cD cp cq hp hq hA hB hD hP hQ (by kernel_rfl)).mono ?_
  rintro e w' ⟨h, hE⟩
  rcases h with ⟨h, _⟩ | ⟨_, h⟩
  · exact ⟨h, hE⟩
  · exact absurd hR h
theorem compare_sm_c (w : World) (A B : Option Addr) (c d : Nat) (hA : Row 1 encZ w A smG.L) (hB : Row 1 encZ w B afG.L) :
    Calls Tryz.prog 25 #[.agg #[.int .i64 0, .int .i64 0, .int .i64 100, .int .i64 3, .int .i64 2, .slice A 6 c], .agg #[.int .i64 0, .int .i64 0, .int .i64 100, .int .i64 3, .int .i64 2, .slice B 6 d]] w
      fun e w' => e = .returned (.tuple #[.agg #[.int .i64 2000000, .int .i64 500000, .int .i64 1], .int .i64 0]) ∧ Ext w w' := by
  have h := compare_c smG afG w A B c d (by unfold maxLen; decide) (by unfold maxLen; decide) hA hB
  have e1 : twoE smG afG = 0 := by kernel_rfl
  have e2 : chV 0 smG afG = .agg #[.int .i64 2000000, .int .i64 500000, .int .i64 1] := by kernel_rfl
  rw [e1, e2] at h
  exact h
theorem keepB1 {W w' : World} {b : Nat} (h : Ext W w') (hb : b < W.heap.size) : (∀ j : Nat, w'.cell? ⟨b, j, none⟩ = W.cell? ⟨b, j, none⟩) ∧ Ext W w' := ⟨fun _j => h.ccell _ _ hb, h⟩
theorem keepB2 {W w' : World} {b c : Nat} (h : Ext W w') (hb : b < W.heap.size) (hc : c < W.heap.size) : (∀ j : Nat, w'.cell? ⟨b, j, none⟩ = W.cell? ⟨b, j, none⟩) ∧ (∀ j : Nat, w'.cell? ⟨c, j, none⟩ = W.cell? ⟨c, j, none⟩) ∧ Ext W w' := ⟨fun _j => h.ccell _ _ hb, fun _j => h.ccell _ _ hc, h⟩
theorem row_one {w : World} {b : Nat} {x : Int} (hb : b < w.heap.size) (h : w.cell? ⟨b, 0, none⟩ = some (.int .i64 x)) : Row 1 encZ w (some ⟨b, 0, none⟩) [x] := by
  refine .inr ⟨b, 0, rfl, hb, fun i hi j v hv => ?_⟩
  have h0 : i = 0 := by simpa using hi
  subst h0
  cases j with
  | zero =>
    have : v = .int .i64 x := by simpa [encZ] using hv.symm
    rw [this]; exact h
  | succ j => simp [encZ] at hv
set_option maxHeartbeats 16000000 in
theorem awake_c (w : World) :
    Calls Tryz.prog 5 #[] w fun e w' => e = .returned (.bool true) ∧ Ext w w' := by
  have HS := Lib.hid small_c
  have HC := Lib.hid compare_sm_c
  have HK := Lib.hid clear_sm_c
  have HKC := Lib.hid checkClear_sm_c
  go_enter Tryz.func5, Tryz.ntmps5
  go_upto_region 3 with (first | (go_at_call 24; (with_reducible refine Calls.mono (HS.out _) ?_); rintro e w1 ⟨⟨q1, hq1, rfl, hR1⟩, hb⟩; have hc := hb.ccell; have hf := hb.frz; have hs := hb.sz; (try simp at hs); (try have t0 := hs (w.heap.size) (by first | assumption | omega)); (try have t1 := hs (w.heap.size) (by first | assumption | omega)); (try have t2 := hs (w.heap.size) (by first | assumption | omega)); (try have t3 := hs (w.heap.size) (by first | assumption | omega)); (try have t4 := hs (w.heap.size) (by first | assumption | omega)); (try have t5 := hs (w.heap.size) (by first | assumption | omega))))
  have hRA : Row 1 encZ ((w1.alloc (.cells #[.int .i64 0, .int .i64 0, .int .i64 100, .int .i64 3, .int .i64 2, .slice (some ⟨w1.heap.size + 1, 0, none⟩) 6 6] 24)).alloc (.cells #[.int .i64 (-500), .int .i64 (-500), .int .i64 (-350), .int .i64 (-600), .int .i64 (-700), .int .i64 (-450)] 3)) (some ⟨w1.heap.size + 1, 0, none⟩) afG.L := Row.new' encZ_len _ _ _ _ _ (by simp) rfl
  have kaf : CellsAt ((w1.alloc (.cells #[.int .i64 0, .int .i64 0, .int .i64 100, .int .i64 3, .int .i64 2, .slice (some ⟨w1.heap.size + 1, 0, none⟩) 6 6] 24)).alloc (.cells #[.int .i64 (-500), .int .i64 (-500), .int .i64 (-350), .int .i64 (-600), .int .i64 (-700), .int .i64 (-450)] 3)) w1.heap.size 0 [.int .i64 0, .int .i64 0, .int .i64 100, .int .i64 3, .int .i64 2, .slice (some ⟨w1.heap.size + 1, 0, none⟩) 6 6] := by
    refine cells_six ⟨?_, ?_, ?_, ?_, ?_, ?_⟩ <;> simp [World.cell?_alloc_past, World.cell?_alloc_new, go_sem]
  have hEW : Ext w ((w1.alloc (.cells #[.int .i64 0, .int .i64 0, .int .i64 100, .int .i64 3, .int .i64 2, .slice (some ⟨w1.heap.size + 1, 0, none⟩) 6 6] 24)).alloc (.cells #[.int .i64 (-500), .int .i64 (-500), .int .i64 (-350), .int .i64 (-600), .int .i64 (-700), .int .i64 (-450)] 3)) := by (repeat (first | with_reducible exact Ext.rfl' _ | with_reducible assumption | with_reducible refine Ext.al ?_ _ | with_reducible refine Ext.dr ?_ | with_reducible refine Ext.st ?_ (by simp) _ | with_reducible refine Ext.tr ?_ (by assumption)))
  have hz1 : w1.heap.size < ((w1.alloc (.cells #[.int .i64 0, .int .i64 0, .int .i64 100, .int .i64 3, .int .i64 2, .slice (some ⟨w1.heap.size + 1, 0, none⟩) 6 6] 24)).alloc (.cells #[.int .i64 (-500), .int .i64 (-500), .int .i64 (-350), .int .i64 (-600), .int .i64 (-700), .int .i64 (-450)] 3)).heap.size := by simp; omega
  generalize (w1.alloc (.cells #[.int .i64 0, .int .i64 0, .int .i64 100, .int .i64 3, .int .i64 2, .slice (some ⟨w1.heap.size + 1, 0, none⟩) 6 6] 24)).alloc (.cells #[.int .i64 (-500), .int .i64 (-500), .int .i64 (-350), .int .i64 (-600), .int .i64 (-700), .int .i64 (-450)] 3) = W at *
  generalize w1.heap.size = ba at *
  clear hb hc hf hs hR1 hq1
  go_cut [2, 3] (fun s2 s3 wx => ∃ b2 : Nat, s2 = .pointer (some ⟨b2, 0, none⟩) ∧ s3 = .int .i64 0 ∧ Ext W wx ∧ b2 < wx.heap.size ∧ CellsAt wx b2 0 [.int .i64 2000000, .int .i64 500000, .int .i64 1])
  case first =>
    clear HK HKC
    obtain ⟨a0, a1, a2, a3, a4, a5⟩ := kaf.six
    clear kaf
    go_region_held3 (fun w' => (∀ j : Nat, w'.cell? ⟨ba, j, none⟩ = W.cell? ⟨ba, j, none⟩) ∧ Ext W w') ((refine keepB1 ?_ hz1; (repeat (first | with_reducible exact Ext.rfl' _ | with_reducible assumption | with_reducible refine Ext.al ?_ _ | with_reducible refine Ext.dr ?_ | with_reducible refine Ext.st ?_ (by first | (simp; done) | (have h9 := Below.size hb; have h8 := Below.size hb2; simp at h9 h8 ⊢; omega)) _ | with_reducible refine Ext.tr ?_ (by assumption))))) (first | (go_at_call 24; (with_reducible refine Calls.mono (HS.out _) ?_); rintro e w2 ⟨⟨q2, hq2, rfl, hR2⟩, hb⟩; have hc := hb.ccell; have hf := hb.frz; have hs := hb.sz) | (go_at_call 25; (with_reducible refine Calls.mono (HC.out _ _ _ _ _ (hR2.ext (by (repeat (first | with_reducible exact Ext.rfl' _ | with_reducible assumption | with_reducible refine Ext.al ?_ _ | with_reducible refine Ext.dr ?_ | with_reducible refine Ext.st ?_ (by simp) _ | with_reducible refine Ext.tr ?_ (by assumption))))) (hRA.ext (by (repeat (first | with_reducible exact Ext.rfl' _ | with_reducible assumption | with_reducible refine Ext.al ?_ _ | with_reducible refine Ext.dr ?_ | with_reducible refine Ext.st ?_ (by simp) _ | with_reducible refine Ext.tr ?_ (by assumption)))))) ?_); rintro e w3 ⟨rfl, hb2⟩; have hc2 := hb2.ccell; have hf2 := hb2.frz; have hs2 := hb2.sz))
    all_goals
      rename_i hJ hK h1 h2 hH
      clear hH
      refine h2 _ _ (Met.intro (h1 _ _ ?_))
      (repeat apply Exists.intro)
      refine ⟨?_, rfl⟩
      refine ⟨_, rfl, rfl, ?_, ?_, ?_⟩
      · (repeat (first | with_reducible exact Ext.rfl' _ | with_reducible assumption | with_reducible refine Ext.al ?_ _ | with_reducible refine Ext.dr ?_ | with_reducible refine Ext.st ?_ (by first | (simp; done) | (have h9 := Below.size hb; have h8 := Below.size hb2; simp at h9 h8 ⊢; omega)) _ | with_reducible refine Ext.tr ?_ (by assumption)))
      · first
          | (simp; done)
          | (have h9 := Below.size hb; have h8 := Below.size hb2; (try simp at h9); (try simp at h8); (try simp); omega)
      · first
          | (refine cells_three ⟨?_, ?_, ?_⟩ <;> first | (simp; done) | (simp [go_sem]; done))
          | (have k9 : CellsAt (W.alloc (.cells #[.int .i64 0, .int .i64 0, .int .i64 0] 60)) W.heap.size 0 [.int .i64 0, .int .i64 0, .int .i64 0] := by refine cells_three ⟨?_, ?_, ?_⟩ <;> simp [go_sem]
             exact stL_at _ [.int .i64 2000000, .int .i64 500000, .int .i64 1] _ 0 _ ((k9.ext (Ext.tr (Ext.dr (Ext.rfl' _)) hb) (by simp)).ext hb2 (by have h9 := Below.size hb; simp at h9; omega)) rfl)
          | (have k9 : CellsAt (w2.alloc (.cells #[.int .i64 0, .int .i64 0, .int .i64 0] 60)) w2.heap.size 0 [.int .i64 0, .int .i64 0, .int .i64 0] := by refine cells_three ⟨?_, ?_, ?_⟩ <;> simp [go_sem]
             exact stL_at _ [.int .i64 2000000, .int .i64 500000, .int .i64 1] _ 0 _ (k9.ext hb2 (by simp)) rfl)
  case rest =>
    obtain ⟨b2, rfl, rfl, hx, hzb2, k2⟩ := hcut
    have hEx := hEW.tr hx
    clear hRA kaf hz1 hx hEW
    go_upto_region 5 with (first | (go_at_call 24; (with_reducible refine Calls.mono (HS.out _) ?_); rintro e w2 ⟨⟨q2, hq2, rfl, hR2⟩, hb⟩; have hc := hb.ccell; have hf := hb.frz; have hs := hb.sz; (try simp at hs); (try have t0 := hs (b2) (by first | assumption | omega)); (try have t1 := hs (b2) (by first | assumption | omega)); (try have t2 := hs (b2) (by first | assumption | omega)); (try have t3 := hs (b2) (by first | assumption | omega)); (try have t4 := hs (b2) (by first | assumption | omega)); (try have t5 := hs (b2) (by first | assumption | omega))) | (go_at_call 26; (with_reducible refine Calls.mono (HK.out _ _ _ _ _ _ _ (hR2.ext (by (repeat (first | with_reducible exact Ext.rfl' _ | with_reducible assumption | with_reducible refine Ext.al ?_ _ | with_reducible refine Ext.dr ?_ | with_reducible refine Ext.st ?_ (by simp) _ | with_reducible refine Ext.tr ?_ (by assumption))))) (Row.ext (Row.new' encZ_len _ _ _ _ _ (by simp) rfl) (Ext.al (Ext.rfl' _) _)) (Row.new' encZ_len _ _ _ _ _ (by simp) rfl)) ?_); rintro e w3 ⟨⟨p, q, Ap, Aq, cp, cq, rfl, hpl, hql, hrp, hrq, hri⟩, hb⟩; have hc := hb.ccell; have hf := hb.frz; have hs := hb.sz; (try simp at hs); (try have t0 := hs (b2) (by first | assumption | omega)); (try have t1 := hs (b2) (by first | assumption | omega)); (try have t2 := hs (b2) (by first | assumption | omega)); (try have t3 := hs (b2) (by first | assumption | omega)); (try have t4 := hs (b2) (by first | assumption | omega)); (try have t5 := hs (b2) (by first | assumption | omega))))
    have hx3 : Ext wc w3 := by (repeat (first | with_reducible exact Ext.rfl' _ | with_reducible assumption | with_reducible refine Ext.al ?_ _ | with_reducible refine Ext.dr ?_ | with_reducible refine Ext.st ?_ (by simp) _ | with_reducible refine Ext.tr ?_ (by assumption)))
    have k2' : CellsAt (w3.alloc (.cells #[.int .i64 (-300), .slice Ap p.length cp, .slice Aq q.length cq] 64)) b2 0 [.int .i64 2000000, .int .i64 500000, .int .i64 1] := (k2.ext hx3 hzb2).ext (Ext.al (Ext.rfl' _) _) (hx3.sz _ hzb2)
    have k4' : CellsAt (w3.alloc (.cells #[.int .i64 (-300), .slice Ap p.length cp, .slice Aq q.length cq] 64)) w3.heap.size 0 [.int .i64 (-300), .slice Ap p.length cp, .slice Aq q.length cq] := by refine cells_three ⟨?_, ?_, ?_⟩ <;> simp [go_sem]
    have hzb2' : b2 < (w3.alloc (.cells #[.int .i64 (-300), .slice Ap p.length cp, .slice Aq q.length cq] 64)).heap.size := (Ext.al hx3 _).sz _ hzb2
    have hzb4 : w3.heap.size < (w3.alloc (.cells #[.int .i64 (-300), .slice Ap p.length cp, .slice Aq q.length cq] 64)).heap.size := by simp
    have hrp5 := hrp.ext (Ext.al (Ext.rfl' w3) (.cells #[.int .i64 (-300), .slice Ap p.length cp, .slice Aq q.length cq] 64))
    have hrq5 := hrq.ext (Ext.al (Ext.rfl' w3) (.cells #[.int .i64 (-300), .slice Ap p.length cp, .slice Aq q.length cq] 64))
    have hEx5 : Ext w (w3.alloc (.cells #[.int .i64 (-300), .slice Ap p.length cp, .slice Aq q.length cq] 64)) := Ext.al (hEx.tr hx3) _
    clear hrp hrq hx3
    generalize w3.alloc (.cells #[.int .i64 (-300), .slice Ap p.length cp, .slice Aq q.length cq] 64) = W5 at *
    generalize w3.heap.size = b4 at *
    obtain ⟨c0, c1, c2⟩ := k2'.three
    obtain ⟨d0, d1, d2⟩ := k4'.three
    have hch : chB 2000000 500000 1 2000000 500000 1 = true := by kernel_rfl
    have HRI := Lib.hid (And.intro hri (And.intro hpl hql))
    clear k2 k2' k4' hzb2 hEx HK hri hpl hql hb hc hf hs
    go_region_held3 (fun w' => (∀ j : Nat, w'.cell? ⟨b2, j, none⟩ = W5.cell? ⟨b2, j, none⟩) ∧ (∀ j : Nat, w'.cell? ⟨b4, j, none⟩ = W5.cell? ⟨b4, j, none⟩) ∧ Ext W5 w') ((refine keepB2 ?_ hzb2' hzb4; (repeat (first | with_reducible exact Ext.rfl' _ | with_reducible assumption | with_reducible refine Ext.al ?_ _ | with_reducible refine Ext.dr ?_ | with_reducible refine Ext.tr ?_ (by assumption))))) (first | (go_at_call 24; (with_reducible refine Calls.mono (HS.out _) ?_); rintro e w6 ⟨⟨q6, hq6, rfl, hR6⟩, hb6⟩; have hc6 := hb6.ccell; have hf6 := hb6.frz; have hs6 := hb6.sz) | (go_at_call 27; (refine Calls.mono (HKC.out _ _ _ _ _ _ _ _ _ _ _ p q HRI.out.2.1 HRI.out.2.2 (hR6.ext (by (repeat (first | with_reducible exact Ext.rfl' _ | with_reducible assumption | with_reducible refine Ext.al ?_ _ | with_reducible refine Ext.dr ?_ | with_reducible refine Ext.st ?_ (by simp) _ | with_reducible refine Ext.tr ?_ (by assumption))))) (row_one ?_ ?_) (row_one ?_ ?_) (hrp5.ext (by (repeat (first | with_reducible exact Ext.rfl' _ | with_reducible assumption | with_reducible refine Ext.al ?_ _ | with_reducible refine Ext.dr ?_ | with_reducible refine Ext.st ?_ (by simp) _ | with_reducible refine Ext.tr ?_ (by assumption))))) (hrq5.ext (by (repeat (first | with_reducible exact Ext.rfl' _ | with_reducible assumption | with_reducible refine Ext.al ?_ _ | with_reducible refine Ext.dr ?_ | with_reducible refine Ext.st ?_ (by simp) _ | with_reducible refine Ext.tr ?_ (by assumption))))) HRI.out.1) ?_); (focus simp [*, go_sem]); (focus simp [*, go_sem]); (focus simp [*, go_sem]); (focus simp [*, go_sem]); rintro e w7 ⟨rfl, hb7⟩; have hc7 := hb7.ccell; have hf7 := hb7.frz; have hs7 := hb7.sz))
    all_goals
      go_wp2
      go_ret
      exact ⟨rfl, by (repeat (first | with_reducible exact Ext.rfl' _ | with_reducible assumption | with_reducible refine Ext.al ?_ _ | with_reducible refine Ext.dr ?_ | with_reducible refine Ext.st ?_ (by simp) _ | with_reducible refine Ext.tr ?_ (by assumption)))⟩
end Go.Proofs.YtgnakeemcccfjaaGreat
