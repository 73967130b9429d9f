/- The contract of the reference's Strip. -/
import Derived.Test.YtgnakeemcccfjaaBrchg
namespace Go.Proofs.Ytgnakeemcccfjaa
open Go Go.RowKit Go.IntWalk

def selB (cn : Nat) (col : Int) (i : Nat) : Bool := decide (col < 0) || decide (((i % cn : Nat) : Int) = col)
def stC (s : Int) (l m : List Int) (cn : Nat) (col : Int) (k : Nat) : Int := sumN (fun i => if selB cn col i = true then cutAt s l m i else 0) k
def stU (l m : List Int) (cn : Nat) (col : Int) (k : Nat) : Int := sumN (fun i => if selB cn col i = true then unkAt l m i else 0) k
theorem cutAt_bd {g h : Gr} (vg : VG g) (vh : VG h) (hn : g.L.length = h.L.length) (i : Nat) (hi : i < g.L.length) : (0 ≤ cutAt g.S g.L h.L i ∧ cutAt g.S g.L h.L i ≤ 4000000000000) ∧ (0 ≤ cutAt g.S h.L g.L i ∧ cutAt g.S h.L g.L i ≤ 4000000000000) ∧ (0 ≤ unkAt g.L h.L i ∧ unkAt g.L h.L i ≤ 1) :=
  ⟨cutC_bd (by have := vg.hs; omega) (by have := vg.hs; omega) (vg.lev i hi) (vh.lev i (by omega)), cutC_bd (by have := vg.hs; omega) (by have := vg.hs; omega) (vh.lev i (by omega)) (vg.lev i hi), unkC_bd _ _⟩
theorem strip_bd {g h : Gr} (vg : VG g) (vh : VG h) (hn : g.L.length = h.L.length) (cn : Nat) (col : Int) (k : Nat) (hk : k ≤ g.L.length) :
    (0 ≤ stC g.S g.L h.L cn col k ∧ stC g.S g.L h.L cn col k ≤ 4000000000000 * 1024) ∧ (0 ≤ stC g.S h.L g.L cn col k ∧ stC g.S h.L g.L cn col k ≤ 4000000000000 * 1024) ∧ (0 ≤ stU g.L h.L cn col k ∧ stU g.L h.L cn col k ≤ 1024) := by
  have h1 := vg.len
  have h2 := vg.hn
  have b1 := sumN_bd (f := fun i => if selB cn col i = true then cutAt g.S g.L h.L i else 0) (M := 4000000000000) k (fun i hi => by have := cutAt_bd vg vh hn i (by omega); split <;> omega)
  have b2 := sumN_bd (f := fun i => if selB cn col i = true then cutAt g.S h.L g.L i else 0) (M := 4000000000000) k (fun i hi => by have := cutAt_bd vg vh hn i (by omega); split <;> omega)
  have b3 := sumN_bd (f := fun i => if selB cn col i = true then unkAt g.L h.L i else 0) (M := 1) k (fun i hi => by have := cutAt_bd vg vh hn i (by omega); split <;> omega)
  unfold stC stU
  omega
set_option maxHeartbeats 8000000 in
set_option maxRecDepth 100000 in
theorem rstrip_c (g h : Gr) (cn : Nat) (col : Int) (w : World) (A B : Option Addr) (c d : Nat) (vg : VG g) (vh : VG h) (hC : g.C = cn) (h0 : 0 < cn) (hn : g.L.length = h.L.length) (hA : Row 1 encZ w A g.L) (hB : Row 1 encZ w B h.L) :
    Calls Try.prog 44 #[.agg #[.int .i64 g.X, .int .i64 g.Y, .int .i64 g.S, .int .i64 g.C, .int .i64 g.R, .slice A g.L.length c], .agg #[.int .i64 h.X, .int .i64 h.Y, .int .i64 h.S, .int .i64 h.C, .int .i64 h.R, .slice B h.L.length d], .int .i64 col] w
      fun e w' => e = .returned (.agg #[.int .i64 (stC g.S g.L h.L cn col g.L.length), .int .i64 (stC g.S h.L g.L cn col g.L.length), .int .i64 (stU g.L h.L cn col g.L.length)]) ∧ Ext w w' := by
  have hl : g.L.length ≤ 1024 := by have h1 := vg.len; have h2 := vg.hn; omega
  have hss := vg.hs
  have HCH := Lib.hid (fun k (hk : k < g.L.length) w' (hw : Ext w w') => by
    have h9 := rchange_c g h k (-20000) 20000 w' A B c d (by omega) (by omega) hk (by omega) (vg.lev k hk) (vh.lev k (by omega)) (by omega) (by omega) (hA.ext hw) (hB.ext hw)
    rw [rcut_whole (vg.lev k hk) (vh.lev k (by omega)), rcut_whole (vh.lev k (by omega)) (vg.lev k hk)] at h9
    exact h9)
  have HBD := Lib.hid (fun k (hk : k ≤ g.L.length) => strip_bd vg vh hn cn col k hk)
  have HB1 := Lib.hid (fun k (hk : k < g.L.length) => cutAt_bd vg vh hn k hk)
  have HCC := Lib.hid hC
  have hcn : cn ≤ 1024 := by have := vg.hc; omega
  have hC0 : 0 < g.C := by omega
  have hC1 : g.C ≤ 1024 := by omega
  clear hA hB vg vh hn hss hC
  go_enter Try.func44, Try.ntmps44
  go_wp2
  refine wp_name (fun W hW => ?_)
  have hE : Ext w W := by rw [hW]; (repeat (first | with_reducible exact Ext.rfl' _ | with_reducible assumption | with_reducible refine Ext.al ?_ _ | with_reducible refine Ext.dr ?_ | with_reducible refine Ext.st ?_ (by simp) _ | with_reducible refine Ext.tr ?_ (by assumption)))
  have HW := Lib.hid hW
  clear hW
  have hW : ChW w W g h A B c d 0 0 0 := by
    rw [HW.out]
    refine ⟨by (repeat (first | with_reducible exact Ext.rfl' _ | with_reducible assumption | with_reducible refine Ext.al ?_ _ | with_reducible refine Ext.dr ?_ | with_reducible refine Ext.st ?_ (by simp) _ | with_reducible refine Ext.tr ?_ (by assumption))), cells_six ?_, cells_six ?_, cells_three ?_, cells_three ?_, fun o => by simp [go_sem], fun o => by simp [go_sem], by simp⟩
    · refine ⟨?_, ?_, ?_, ?_, ?_, ?_⟩ <;> simp [World.cell?_alloc_past, World.cell?_alloc_new, go_sem]
    · refine ⟨?_, ?_, ?_, ?_, ?_, ?_⟩ <;> simp [World.cell?_alloc_past, go_sem]
    · refine ⟨?_, ?_, ?_⟩ <;> simp [World.cell?_alloc_past, go_sem]
    · refine ⟨?_, ?_, ?_⟩ <;> simp [go_sem]
  clear HW hE
  go_loopw [8] (fun i wr => ∃ k : Nat, k ≤ g.L.length ∧ i = .int .i64 k ∧ ChW w wr g h A B c d (stC g.S g.L h.L cn col k) (stC g.S h.L g.L cn col k) (stU g.L h.L cn col k)) (fun i _ => g.L.length - (intOf i).toNat)
  case atStart => exact ⟨0, Nat.zero_le _, rfl, hW⟩
  case round =>
    clear hW
    obtain ⟨k, hk, rfl, hW⟩ := hrel
    have hE := hW.ext
    have hz3 := hW.sz
    have hz2 : w.heap.size + 2 < wr.heap.size := by omega
    have hz1 : w.heap.size + 1 < wr.heap.size := by omega
    have hz0 : w.heap.size < wr.heap.size := by omega
    obtain ⟨g0, g1, g2, g3, g4, g5⟩ := hW.kg.six
    obtain ⟨h0, h1, h2, h3, h4, h5⟩ := hW.kh.six
    obtain ⟨o0, o1, o2⟩ := hW.ko.three
    have fo := hW.fo
    by_cases hlt : k < g.L.length
    · obtain ⟨⟨b1, b2⟩, ⟨b3, b4⟩, b5, b6⟩ := HBD.out k hk
      obtain ⟨⟨d1, d2⟩, ⟨d3, d4⟩, d5, d6⟩ := HB1.out k hlt
      have em : (k : Int) % g.C = ((k % cn : Nat) : Int) := by rw [HCC.out]; simp
      have s1 : Hid (stC g.S g.L h.L cn col (k + 1) = stC g.S g.L h.L cn col k + (if selB cn col k = true then cutAt g.S g.L h.L k else 0)) := Lib.hid rfl
      have s2 : Hid (stC g.S h.L g.L cn col (k + 1) = stC g.S h.L g.L cn col k + (if selB cn col k = true then cutAt g.S h.L g.L k else 0)) := Lib.hid rfl
      have s3 : Hid (stU g.L h.L cn col (k + 1) = stU g.L h.L cn col k + (if selB cn col k = true then unkAt g.L h.L k else 0)) := Lib.hid rfl
      have C1 := Lib.hid (fun w' (hw : Ext w w') => HCH.out k hlt w' hw)
      have e1 : cutAt g.S g.L h.L k = cutC g.S (gi g.L k) (gi h.L k) := rfl
      have e2 : cutAt g.S h.L g.L k = cutC g.S (gi h.L k) (gi g.L k) := rfl
      have e3 : unkAt g.L h.L k = unkC (gi g.L k) (gi h.L k) := rfl
      rw [← e1, ← e2, ← e3] at C1
      have HW := Lib.hid hW
      clear e1 e2 e3 hW
      generalize stC g.S g.L h.L cn col k = x at *
      generalize stC g.S h.L g.L cn col k = y at *
      generalize stU g.L h.L cn col k = z at *
      generalize cutAt g.S g.L h.L k = u0 at *
      generalize cutAt g.S h.L g.L k = u1 at *
      generalize unkAt g.L h.L k = u2 at *
      have P1 := Lib.hid (fun w' => plus_c x y z u0 u1 u2 w' (by omega) (by omega) (by omega) (by omega) (by omega) (by omega))
      obtain ⟨md, hmd⟩ : ∃ md, k % cn = md := ⟨_, rfl⟩
      rw [hmd] at em
      have HMD := Lib.hid hmd
      clear hmd
      have take : selB cn col k = true → Hid (∀ w1, Ext wr w1 → ChW w ((((w1.setCell ⟨w.heap.size + 3, 0, none⟩ (.int .i64 (x + u0))).setCell ⟨w.heap.size + 3, 1, none⟩ (.int .i64 (y + u1)))).setCell ⟨w.heap.size + 3, 2, none⟩ (.int .i64 (z + u2))) g h A B c d (stC g.S g.L h.L cn col (k + 1)) (stC g.S h.L g.L cn col (k + 1)) (stU g.L h.L cn col (k + 1))) := fun hs => Lib.hid fun w1 hx => by
        rw [s1.out, s2.out, s3.out, if_pos hs, if_pos hs, if_pos hs]
        exact (((HW.out.next hx).store 0 _ _ _ _ (.inl ⟨rfl, rfl, rfl, rfl⟩)).store 1 _ _ _ _ (.inr (.inl ⟨rfl, rfl, rfl, rfl⟩))).store 2 _ _ _ _ (.inr (.inr ⟨rfl, rfl, rfl, rfl⟩))
      by_cases hneg : col < 0
      · have HT := take (by unfold selB; rw [decide_eq_true hneg]; rfl)
        clear take
        go_wp2
        refine region_grow_tail 6 (by kernel_rfl) (by kernel_rfl) ?_
        simp only [List.take_succ_cons, List.take_zero, List.drop_succ_cons, List.drop_zero]
        repeat (first | go_big_quiet_step (first | (go_at_call 89; with_reducible exact callsGrow (C1.out _ (hE.tr (Grow.ok _)))) | (go_at_call 50; with_reducible exact callsGrow (P1.out _)) | fail) | quiet_step (first | (go_at_call 89; with_reducible exact callsGrow (C1.out _ (hE.tr (Grow.ok _)))) | (go_at_call 50; with_reducible exact callsGrow (P1.out _)) | fail))
        refine wpQuiet_nil ?_
        intro w1 hb
        have hc := hb.ccell
        have hf := hb.frz
        have hs := hb.sz
        (try simp at hs); (try have hs0 := hs w.heap.size (by omega)); (try have hs1 := hs (w.heap.size + 1) (by omega)); (try have hs2 := hs (w.heap.size + 1 + 1) (by omega)); (try have hs3 := hs (w.heap.size + 1 + 1 + 1) (by omega))
        go_wp2
        exact ⟨⟨k + 1, by omega, by go_num, HT.out _ hb⟩, by simp [intOf]; omega⟩
      · have hneg' : decide (col < 0) = false := decide_eq_false hneg
        by_cases hmc : (md : Int) = col
        · have HT := take (by unfold selB; rw [HMD.out, decide_eq_true hmc]; simp)
          have hmc' : ((md : Int) == col) = true := by rw [beq_iff_eq]; exact hmc
          clear take hmc hneg
          go_wp2
          refine region_grow_tail 6 (by kernel_rfl) (by kernel_rfl) ?_
          simp only [List.take_succ_cons, List.take_zero, List.drop_succ_cons, List.drop_zero]
          repeat (first | go_big_quiet_step (first | (go_at_call 89; with_reducible exact callsGrow (C1.out _ (hE.tr (Grow.ok _)))) | (go_at_call 50; with_reducible exact callsGrow (P1.out _)) | fail) | quiet_step (first | (go_at_call 89; with_reducible exact callsGrow (C1.out _ (hE.tr (Grow.ok _)))) | (go_at_call 50; with_reducible exact callsGrow (P1.out _)) | fail))
          refine wpQuiet_nil ?_
          intro w1 hb
          have hc := hb.ccell
          have hf := hb.frz
          have hs := hb.sz
          (try simp at hs); (try have hs0 := hs w.heap.size (by omega)); (try have hs1 := hs (w.heap.size + 1) (by omega)); (try have hs2 := hs (w.heap.size + 1 + 1) (by omega)); (try have hs3 := hs (w.heap.size + 1 + 1 + 1) (by omega))
          go_wp2
          exact ⟨⟨k + 1, by omega, by go_num, HT.out _ hb⟩, by simp [intOf]; omega⟩
        · have hmc' : ((md : Int) == col) = false := by rw [beq_eq_false_iff_ne]; exact hmc
          have HT : Hid (ChW w wr g h A B c d (stC g.S g.L h.L cn col (k + 1)) (stC g.S h.L g.L cn col (k + 1)) (stU g.L h.L cn col (k + 1))) := Lib.hid (by
            have hs : ¬ selB cn col k = true := by unfold selB; rw [HMD.out, decide_eq_false hmc, hneg']; simp
            rw [s1.out, s2.out, s3.out, if_neg hs, if_neg hs, if_neg hs, Int.add_zero, Int.add_zero, Int.add_zero]
            exact HW.out)
          clear take hmc hneg
          go_wp2
          exact ⟨⟨k + 1, by omega, by go_num, HT.out⟩, by simp [intOf]; omega⟩
    · have hks : k = g.L.length := by omega
      subst hks
      have hkr := hW.kr
      have fr := hW.fr
      obtain ⟨r0, r1, r2⟩ := hkr.three
      clear hW
      go_wp2
      have hSL := stL_at (w.heap.size + 2) [.int .i64 (stC g.S g.L h.L cn col g.L.length), .int .i64 (stC g.S h.L g.L cn col g.L.length), .int .i64 (stU g.L h.L cn col g.L.length)] _ 0 _ hkr rfl
      have hXL := stL_ext (w.heap.size + 2) (by first | omega | (simp; done) | (simp; omega)) [.int .i64 (stC g.S g.L h.L cn col g.L.length), .int .i64 (stC g.S h.L g.L cn col g.L.length), .int .i64 (stU g.L h.L cn col g.L.length)] 0 _ hE
      show bodyPost _ _ _ _ _ (stL (wr) (w.heap.size + 2) 0 [.int .i64 (stC g.S g.L h.L cn col g.L.length), .int .i64 (stC g.S h.L g.L cn col g.L.length), .int .i64 (stU g.L h.L cn col g.L.length)])
      generalize stL (wr) (w.heap.size + 2) 0 [.int .i64 (stC g.S g.L h.L cn col g.L.length), .int .i64 (stC g.S h.L g.L cn col g.L.length), .int .i64 (stU g.L h.L cn col g.L.length)] = WL at hSL hXL ⊢
      obtain ⟨s0, s1, s2⟩ := hSL.three
      refine bodyPost_ret (v := .agg #[.int .i64 (stC g.S g.L h.L cn col g.L.length), .int .i64 (stC g.S h.L g.L cn col g.L.length), .int .i64 (stU g.L h.L cn col g.L.length)]) (by simp [results, Try.results44, go_sem, s0, s1, s2]) rfl ⟨rfl, hXL⟩
end Go.Proofs.Ytgnakeemcccfjaa
