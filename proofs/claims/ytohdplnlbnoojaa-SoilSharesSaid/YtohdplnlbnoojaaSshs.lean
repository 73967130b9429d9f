/- The contract of soil.Shares. -/
import Derived.Test.YtohdplnlbnoojaaSmiss
namespace Go.Proofs.Ytohdplnlbnoojaa
open Go Go.RowKit Go.IntWalk

structure Sr where
  s : ByteArray
  v : Int
instance : Inhabited Sr := ⟨⟨⟨#[]⟩, 0⟩⟩
def encSr (x : Sr) : List Value := [.string x.s, .int .i64 x.v]
theorem encSr_len (x : Sr) : (encSr x).length = 2 := rfl
theorem infoSr : (Try.prog.info? 125).map (fun i => (i.zero, i.size, i.bytes)) = some (some (.agg #[.string ⟨#[]⟩, .int .i64 0]), 2, 24) := by kernel_rfl
def evS (F : Nat → Sr) (i : Nat) : Value := if i % 2 = 0 then .string (F (i / 2)).s else .int .i64 (F (i / 2)).v
def mkS (F : Nat → Sr) (n : Nat) : List Sr := (List.range n).map F
theorem mkS_len (F : Nat → Sr) (n : Nat) : (mkS F n).length = n := by simp [mkS]
theorem mkS_get (F : Nat → Sr) (n i : Nat) (h : i < (mkS F n).length) : (mkS F n)[i] = F i := by simp [mkS]
/-- The first k shares are laid in block q. -/
def ShTo (F : Nat → Sr) (n q k : Nat) (w : World) : Prop := ∃ f, w.rowIs q 125 (n * 2) f ∧ ∀ i, i < k * 2 → f i = evS F i
theorem ShTo.row {F : Nat → Sr} {n q : Nat} {w : World} (h : ShTo F n q n w) : Row 2 encSr w (some ⟨q, 0, none⟩) (mkS F n) := by
  obtain ⟨f, hf, hv⟩ := h
  refine .inr ⟨q, 0, rfl, hf.lt, fun i hi j v hv' => ?_⟩
  rw [mkS_len] at hi
  have hj : j < 2 := (List.getElem?_eq_some_iff.1 hv').1
  rw [Nat.zero_add, hf.cell (show i * 2 + j < n * 2 by omega), hv _ (by omega), ← hv']
  rw [mkS_get]
  unfold evS encSr
  rw [show (i * 2 + j) / 2 = i by omega, show (i * 2 + j) % 2 = j by omega]
  rcases (by omega : j = 0 ∨ j = 1) with rfl | rfl <;> rfl
theorem ShTo.step {F : Nat → Sr} {n q k : Nat} {w : World} (h : ShTo F n q k w) :
    ShTo F n q (k + 1) ((w.setCell ⟨q, k * 2, none⟩ (.string (F k).s)).setCell ⟨q, k * 2 + 1, none⟩ (.int .i64 (F k).v)) := by
  obtain ⟨f, hf, hv⟩ := h
  refine ⟨_, (hf.set _ _).set _ _, fun i hi => ?_⟩
  unfold evS
  by_cases h1 : i = k * 2 + 1
  · subst h1; simp [show (k * 2 + 1) / 2 = k by omega]
  · by_cases h0 : i = k * 2
    · subst h0; simp [show k * 2 / 2 = k by omega]
    · simp only [h0, h1, if_false]; exact hv i (by omega)
theorem ShTo.ext {F : Nat → Sr} {n q k : Nat} {w w' : World} (h : ShTo F n q k w) (hw : Ext w w') : ShTo F n q k w' := by
  obtain ⟨f, hf, hv⟩ := h
  exact ⟨f, hf.of_block (hw.block q hf.lt), hv⟩
theorem ShTo.start {F : Nat → Sr} {n q base : Nat} {w : World} {xs : List Value} (h : w.ownsRow base 125 2 (.slice (some ⟨q, 0, none⟩) n n) n xs) : ShTo F n q 0 w := by
  rcases h.2 with ⟨h', _⟩ | ⟨g', cap', cur, h', hb, hg, hnc, hcm, hcs, htake⟩
  · simp at h'
  · simp only [Value.slice.injEq, Option.some.injEq, Addr.mk.injEq, and_true, true_and] at h'
    obtain ⟨rfl, rfl⟩ := h'
    exact ⟨fun i => cur.toList.getD i (.bool false), ⟨cur, hg, hcs, fun i hi => by simp [List.getD_eq_getElem?_getD, show i < cur.size by omega]⟩, fun i hi => by omega⟩
/-- The share of a soil. -/
def srF (soils : List So) (bos : List Bo) (g h : Gr) (cn k : Nat) : Sr := ⟨(el soils k).s, htN (knP g h) (coC bos g h cn) (el soils k).s g.L.length * (g.S * g.S)⟩
def OutSr (l : List Sr) (e : Ending) (w' : World) : Prop := ∃ A c, e = .returned (.tuple #[.slice A l.length c, .int .i64 0]) ∧ Row 2 encSr w' A l
theorem cb2E_ok {soils : List So} {bos : List Bo} {g h : Gr} (k : cb2E soils bos g h = 0) : VGd soils bos ∧ chkG g = 0 ∧ chkG h = 0 ∧ h.L.length = g.L.length := by
  unfold cb2E at k
  by_cases h0 : chkGr soils bos = 0
  · rw [if_neg (by omega)] at k
    obtain ⟨_, _, _, h1⟩ := twoE_ok k
    unfold twoE at k
    by_cases h2 : chkG g = 0
    · rw [if_neg (by omega)] at k
      by_cases h3 : chkG h = 0
      · exact ⟨chkGr_ok h0, h2, h3, h1.symm⟩
      · rw [if_pos h3] at k; exact absurd k h3
    · rw [if_pos h2] at k; exact absurd k h2
  · rw [if_pos h0] at k; exact absurd k h0
theorem soil_small {soils : List So} {bos : List Bo} (v : VGd soils bos) {k : Nat} (hk : k < soils.length) : (el soils k).s.size ≤ maxLen := by
  have h4 := v.s.nm k hk
  unfold nameB at h4
  unfold maxLen
  by_cases h5 : (el soils k).s.size = 0
  · omega
  · by_cases h6 : 12 < (el soils k).s.size
    · exfalso
      rw [if_neg h5, if_pos h6] at h4
      cases h4
    · omega
set_option maxHeartbeats 4000000 in
theorem sshares_err (soils : List So) (bos : List Bo) (g h : Gr) (w : World) (AS AB A B : Option Addr) (cS cB c d : Nat) (gw : GrW w soils AS bos AB) (hl : g.L.length ≤ maxLen) (hm : h.L.length ≤ maxLen) (hA : Row 1 encZ w A g.L) (hB : Row 1 encZ w B h.L) (hE : cb2E soils bos g h ≠ 0) :
    Calls Try.prog 31 #[.agg #[.slice AS soils.length cS, .slice AB bos.length cB], .agg #[.int .i64 g.X, .int .i64 g.Y, .int .i64 g.S, .int .i64 g.C, .int .i64 g.R, .slice A g.L.length c], .agg #[.int .i64 h.X, .int .i64 h.Y, .int .i64 h.S, .int .i64 h.C, .int .i64 h.R, .slice B h.L.length d]] w fun e w' => e = .returned (.tuple #[.slice none 0 0, .int .i64 (cb2E soils bos g h)]) ∧ Ext w w' := by
  have HC := Lib.hid (fun w' (hw : Ext w w') => checkBeds_c soils bos g h w' AS AB A B cS cB c d (gw.ext hw) hl hm (hA.ext hw) (hB.ext hw))
  have hE' : (cb2E soils bos g h != 0) = true := by simp [hE]
  generalize cb2E soils bos g h = E at *
  clear gw hl hm hA hB
  go_enter Try.func31, Try.ntmps31
  go_wp2_with (first | (go_at_call 73; with_reducible refine Calls.mono (HC.out _ (by (repeat (first | with_reducible exact Ext.rfl' _ | with_reducible assumption | with_reducible refine Ext.al ?_ _ | with_reducible refine Ext.dr ?_ | with_reducible refine Ext.st ?_ (by simp) _ | with_reducible refine Ext.tr ?_ (by assumption))))) ?_; rintro e w1 ⟨rfl, hb⟩; have hc := hb.ccell; have hf := hb.frz; have hs := hb.sz; (try simp at hs); (try have t0 := hs (w.heap.size) (by first | assumption | omega)); (try have t1 := hs (w.heap.size + 1) (by first | assumption | omega)); (try have t2 := hs (w.heap.size + 1 + 1) (by first | assumption | omega)); (try have t3 := hs (w.heap.size) (by first | assumption | omega)); (try have t4 := hs (w.heap.size) (by first | assumption | omega)); (try have t5 := hs (w.heap.size) (by first | assumption | omega))))
  go_ret2
  exact ⟨rfl, by (repeat (first | with_reducible exact Ext.rfl' _ | with_reducible assumption | with_reducible refine Ext.al ?_ _ | with_reducible refine Ext.dr ?_ | with_reducible refine Ext.st ?_ (by simp) _ | with_reducible refine Ext.tr ?_ (by assumption)))⟩
set_option maxHeartbeats 16000000 in
set_option maxRecDepth 100000 in
theorem sshares_ok (soils : List So) (bos : List Bo) (g h : Gr) (cn : Nat) (w : World) (AS AB A B : Option Addr) (cS cB c d : Nat) (gw : GrW w soils AS bos AB) (hl : g.L.length ≤ maxLen) (hm : h.L.length ≤ maxLen) (hA : Row 1 encZ w A g.L) (hB : Row 1 encZ w B h.L) (hE : cb2E soils bos g h = 0) (hC : g.C = cn) :
    Calls Try.prog 31 #[.agg #[.slice AS soils.length cS, .slice AB bos.length cB], .agg #[.int .i64 g.X, .int .i64 g.Y, .int .i64 g.S, .int .i64 g.C, .int .i64 g.R, .slice A g.L.length c], .agg #[.int .i64 h.X, .int .i64 h.Y, .int .i64 h.S, .int .i64 h.C, .int .i64 h.R, .slice B h.L.length d]] w fun e w' => OutSr (mkS (srF soils bos g h cn) soils.length) e w' ∧ Ext w w' := by
  have HC := Lib.hid (fun w' (hw : Ext w w') => checkBeds_c soils bos g h w' AS AB A B cS cB c d (gw.ext hw) hl hm (hA.ext hw) (hB.ext hw))
  rw [hE] at HC
  obtain ⟨v, h0, h1, hlen⟩ := cb2E_ok hE
  have HM := Lib.hid (fun w' (hw : Ext w w') => missing_c soils bos g h cn w' AS AB A B cS cB c d (gw.ext hw) v h0 h1 hlen hC (hA.ext hw) (hB.ext hw))
  have vg := chkG_ok h0
  have hs := vg.hs
  have HAR := Lib.hid (fun w' => sarea_c g g.L.length w' A c (by omega))
  have hnn := vg.nat
  have HBD := Lib.hid (fun x => htN_bound (P := knP g h) (C := coC bos g h cn) x g.L.length (fun i hi hp => coC_lv v vg (chkG_ok h1) (cn := cn) (by omega) (by omega) hp))
  have HSM := Lib.hid (fun k (hk : k < soils.length) => soil_small v hk)
  have HSO := Lib.hid (fun w' (hw : Ext w w') => (gw.ext hw).so)
  have hn : g.L.length ≤ 1024 := by obtain ⟨_, _, e1, e2, e3, e4, e5, e6, e7, e8⟩ := hnn; omega
  have hls := gw.ls
  have hS2 : 0 ≤ g.S * g.S ∧ g.S * g.S ≤ 10000 * 10000 := ⟨Int.mul_nonneg (by omega) (by omega), Int.mul_le_mul (by omega) (by omega) (by omega) (by omega)⟩
  have HF : Hid (∀ k, (srF soils bos g h cn k).s = (el soils k).s ∧ (srF soils bos g h cn k).v = htN (knP g h) (coC bos g h cn) (el soils k).s g.L.length * (g.S * g.S)) := Lib.hid (fun k => ⟨rfl, rfl⟩)
  generalize srF soils bos g h cn = F at *
  generalize htN (knP g h) (coC bos g h cn) = G at *
  obtain ⟨i0, hi, hz0, hz1, hz2⟩ := info_parts infoSr
  clear hnn vg v h0 h1 hlen gw hA hB hE hl hm hC
  go_enter Try.func31, Try.ntmps31
  go_upto_region 5 with (first | (go_at_call 73; with_reducible refine Calls.mono (HC.out _ (by (repeat (first | with_reducible exact Ext.rfl' _ | with_reducible assumption | with_reducible refine Ext.al ?_ _ | with_reducible refine Ext.dr ?_ | with_reducible refine Ext.st ?_ (by simp) _ | with_reducible refine Ext.tr ?_ (by assumption))))) ?_; rintro e w1 ⟨rfl, hb⟩; have hc := hb.ccell; have hf := hb.frz; have hs := hb.sz; (try simp at hs); (try have t0 := hs (w.heap.size) (by first | assumption | omega)); (try have t1 := hs (w.heap.size + 1) (by first | assumption | omega)); (try have t2 := hs (w.heap.size + 1 + 1) (by first | assumption | omega)); (try have t3 := hs (w.heap.size) (by first | assumption | omega)); (try have t4 := hs (w.heap.size) (by first | assumption | omega)); (try have t5 := hs (w.heap.size) (by first | assumption | omega))) | (go_at_call 74; (with_reducible refine Calls.mono (HM.out _ (by (repeat (first | with_reducible exact Ext.rfl' _ | with_reducible assumption | with_reducible refine Ext.al ?_ _ | with_reducible refine Ext.dr ?_ | with_reducible refine Ext.st ?_ (by simp) _ | with_reducible refine Ext.tr ?_ (by assumption))))) ?_); rintro e w2 ⟨⟨mb, n, rfl, hMS⟩, hb⟩; have hc := hb.ccell; have hf := hb.frz; have hs := hb.sz; (try simp at hs); (try have t0 := hs (w.heap.size) (by first | assumption | omega)); (try have t1 := hs (w.heap.size + 1) (by first | assumption | omega)); (try have t2 := hs (w.heap.size + 1 + 1) (by first | assumption | omega)); (try have t3 := hs (w.heap.size) (by first | assumption | omega)); (try have t4 := hs (w.heap.size) (by first | assumption | omega)); (try have t5 := hs (w.heap.size) (by first | assumption | omega))))
  refine wp_name (fun W hW => ?_)
  have hEW : Ext w W := by rw [hW]; (repeat (first | with_reducible exact Ext.rfl' _ | with_reducible assumption | with_reducible refine Ext.al ?_ _ | with_reducible refine Ext.dr ?_ | with_reducible refine Ext.st ?_ (by simp) _ | with_reducible refine Ext.tr ?_ (by assumption)))
  have hMW : Hid (MapS W mb n (fun x => G x g.L.length)) := by rw [hW]; exact Lib.hid hMS
  have r0 : W.cell? ⟨w.heap.size, 0, none⟩ = some (.slice AS soils.length cS) := by rw [hW]; simp [*, go_sem]
  have km : CellsAt W (w.heap.size + 1) 0 [.int .i64 g.X, .int .i64 g.Y, .int .i64 g.S, .int .i64 g.C, .int .i64 g.R, .slice A g.L.length c] := by rw [hW]; refine cells_six ⟨?_, ?_, ?_, ?_, ?_, ?_⟩ <;> simp [*, go_sem]
  have zg : w.heap.size < W.heap.size := by rw [hW]; assumption
  have zm : w.heap.size + 1 < W.heap.size := by rw [hW]; assumption
  clear hW hMS hb hc hf hs t0 t1 t2 t3 t4 t5 HC HM
  go_wp2_with (first | (at_make; refine wpList_make_full _ rfl _ _ 59 rfl W.heap.size 125 i0 _ 2 Try.underlying59 hi hz0 hz1 .i64 .i64 _ _ soils.length rfl rfl rfl rfl (by rw [hz2]; omega) (by unfold maxLen; omega) (Nat.le_refl _) ?_; intro wm hown hgr; have hEm : Ext W wm := Below.grown (Ext.rfl' W) hgr (Nat.le_refl _) (by intro q hq; cases hq); have r0m := (hEm.ccell _ 0 zg).trans r0))
  have hS := Lib.hid (ShTo.start (F := F) hown)
  clear hown hgr hi hz0 hz1 hz2 r0m
  go_loopw [31] (fun i wr => Ext W wr ∧ ∃ k : Nat, k ≤ soils.length ∧ i = .int .i64 k ∧ Hid (ShTo F soils.length W.heap.size k wr)) (fun i _ => soils.length - (intOf i).toNat)
  case atStart => exact ⟨hEm, 0, Nat.zero_le _, rfl, hS⟩
  case round =>
    clear hS hEm
    obtain ⟨hr, k, hk, rfl, hT⟩ := hrel
    have hE := hEW.tr hr
    obtain ⟨f, hf, _⟩ := hT.out
    have hlq := hf.lt
    by_cases hlt : k < soils.length
    · obtain ⟨bs, os, rfl, hbs, hcs⟩ := (HSO.out _ hE).so hlt
      obtain ⟨c0, c1, c2, c3, c4⟩ := hcs _ (Ext.rfl' _)
      have hki : (k : Int) < (soils.length : Int) := by omega
      have hsz := HSM.out k hlt
      have hbd := HBD.out (el soils k).s
      have HFK := Lib.hid (HF.out k)
      generalize el soils k = x at *
      go_upto_region 9 with fail
      refine wp_name (fun W9 hW => ?_)
      have hE9 : Ext wr W9 := by rw [hW]; (repeat (first | with_reducible exact Ext.rfl' _ | with_reducible assumption | with_reducible refine Ext.al ?_ _ | with_reducible refine Ext.dr ?_ | with_reducible refine Ext.st ?_ (by simp) _ | with_reducible refine Ext.tr ?_ (by assumption)))
      have p0 : W9.cell? ⟨wr.heap.size, 0, none⟩ = some (.string x.s) := by rw [hW]; simp [go_sem]
      have zp : wr.heap.size < W9.heap.size := by rw [hW]; simp
      clear hW c0 c1 c2 c3 c4 hcs hf
      have hT9 := Lib.hid (hT.out.ext hE9)
      have hr9 := hr.tr hE9
      have zm9 := hr9.sz _ zm
      have hlq9 := hE9.sz _ hlq
      obtain ⟨m0, m1, m2, m3, m4, m5⟩ := (km.ext hr9 zm).six
      have hlk : ∀ y : Grow W9, (Instr.lookup 122 (.map (some mb)) (.string x.s) false).run Try.prog y.wd = .ok (.int .i64 (G x.s g.L.length)) y.wd := fun y => (hMW.out.ext (hr9.tr y.ok)).look x.s hsz
      obtain ⟨f, hf, _⟩ := hT9.out
      have fr := hf.frozen
      have q0 := hf.cell (i := k * 2) (by omega)
      have q1 := hf.cell (i := k * 2 + 1) (by omega)
      generalize f (k * 2) = v0 at q0
      generalize f (k * 2 + 1) = v1 at q1
      clear hf
      generalize G x.s g.L.length = F1 at *
      have hb2 : 0 ≤ F1 * (g.S * g.S) ∧ F1 * (g.S * g.S) ≤ 500000000 * 100000000 := ⟨Int.mul_nonneg (by omega) (by omega), Int.mul_le_mul (by omega) (by omega) (by omega) (by omega)⟩
      generalize g.S * g.S = S2 at *
      refine region_grow_tail 13 (by kernel_rfl) (by kernel_rfl) ?_
      simp only [List.take_succ_cons, List.take_zero, List.drop_succ_cons, List.drop_zero]
      repeat (first | go_big_quiet_step (first | (go_at_call 75; with_reducible exact callsGrow (HAR.out _)) | fail) | quiet_step (first | (go_at_call 75; with_reducible exact callsGrow (HAR.out _)) | fail))
      refine wpQuiet_nil ?_
      intro w1 hb
      have hc := hb.ccell
      have hf := hb.frz
      have hs := hb.sz
      (try simp at hs); (try have hs0 := hs w.heap.size (by omega)); (try have hs1 := hs (w.heap.size + 1) (by omega)); (try have hs2 := hs (w.heap.size + 1 + 1) (by omega)); (try have hs3 := hs (w.heap.size + 1 + 1 + 1) (by omega))
      have hE1 : Ext W9 w1 := by assumption
      have hT1 := Lib.hid ((hT9.out.ext hE1).step)
      rw [HFK.out.1, HFK.out.2] at hT1
      go_wp2
      exact ⟨⟨Ext.st (Ext.st (hr9.tr hE1) (by simp) _) (by simp) _, k + 1, by omega, by go_num, hT1⟩, by simp [intOf]; omega⟩
    · have hks : k = soils.length := by omega
      subst hks
      have hrow := Lib.hid hT.out.row
      clear hf
      go_wp2
      go_ret2
      exact ⟨⟨_, _, by rw [mkS_len]; rfl, hrow.out⟩, hE⟩
end Go.Proofs.Ytohdplnlbnoojaa
