/- The contracts of isKnown, bothKnown, centres, softestRun, allowed. -/
import Derived.Test.YtgbkjioajmnjbaaGreatSbed
import Derived.Test.YtgbkjioajmnjbaaGreatSplace
import Derived.Deep.Cut
import Derived.Deep.OwnRows
namespace Go.Proofs.YtgbkjioajmnjbaaGreat
open Go Go.RowKit Go.IntWalk

theorem sKnown_c (g : Gr) (k : Nat) (w : World) (A : Option Addr) (c : Nat) (hk : k < g.L.length) (_hl : g.L.length ≤ 2000) (hA : Row 1 encZ w A g.L) :
    Calls Tryz.prog 23 #[.agg #[.int .i64 g.X, .int .i64 g.Y, .int .i64 g.S, .int .i64 g.C, .int .i64 g.R, .slice A g.L.length c], .int .i64 k] w fun e w' => e = .returned (.bool (knB g.L k)) ∧ Ext w w' := by
  unfold knB
  rw [gi_lt g.L k hk]
  obtain ⟨b, off, rfl, hb0, hcell⟩ := hA.p1 hk
  have e0 := hcell _ (Ext.rfl' w)
  clear hcell
  generalize g.L[k] = v at *
  go_enter Tryz.func23, Tryz.ntmps23
  go_wp2
  go_ret
  exact ⟨ret_bool (by rw [Bool.eq_iff_iff]; simp), by (repeat (first | with_reducible exact Ext.rfl' _ | with_reducible assumption | with_reducible refine Ext.al ?_ _ | with_reducible refine Ext.dr ?_ | with_reducible refine Ext.st ?_ (by simp) _ | with_reducible refine Ext.tr ?_ (by assumption)))⟩
set_option maxHeartbeats 2000000 in
theorem bothKnown_c (g : Gr) (r : List Int) (a b : Nat) (w : World) (A B : Option Addr) (c d : Nat) (ha : a < g.L.length) (hb : b < g.L.length) (hl : g.L.length ≤ 2000) (hA : Row 1 encZ w A g.L) :
    Calls Tryz.prog 80 #[.agg #[.int .i64 g.X, .int .i64 g.Y, .int .i64 g.S, .int .i64 g.C, .int .i64 g.R, .slice A g.L.length c, .slice B r.length d], .int .i64 a, .int .i64 b] w fun e w' => e = .returned (.bool (knB g.L a && knB g.L b)) ∧ Ext w w' := by
  have HA := Lib.hid (fun w' (hw : Ext w w') => sKnown_c g a w' A c ha hl (hA.ext hw))
  have HB := Lib.hid (fun w' (hw : Ext w w') => sKnown_c g b w' A c hb hl (hA.ext hw))
  cases h1 : knB g.L a
  · rw [h1] at HA
    clear h1
    go_enter Tryz.func80, Tryz.ntmps80
    go_wp2_with (first | (go_at_call 23; with_reducible refine Calls.mono (HA.out _ (by (repeat (first | with_reducible exact Ext.rfl' _ | with_reducible assumption | with_reducible refine Ext.al ?_ _ | with_reducible refine Ext.dr ?_ | with_reducible refine Ext.st ?_ (by simp) _ | with_reducible refine Ext.tr ?_ (by assumption))))) ?_; rintro e w1 ⟨rfl, hb⟩; have hc := hb.ccell; have hf := hb.frz; have hs := hb.sz; (try simp at hs); (try have hs0 := hs w.heap.size (by omega)); (try have hs1 := hs (w.heap.size + 1) (by omega)); (try have hs2 := hs (w.heap.size + 1 + 1) (by omega)); (try have hs3 := hs (w.heap.size + 1 + 1 + 1) (by omega))) | (go_at_call 23; with_reducible refine Calls.mono (HB.out _ (by (repeat (first | with_reducible exact Ext.rfl' _ | with_reducible assumption | with_reducible refine Ext.al ?_ _ | with_reducible refine Ext.dr ?_ | with_reducible refine Ext.st ?_ (by simp) _ | with_reducible refine Ext.tr ?_ (by assumption))))) ?_; rintro e w1 ⟨rfl, hb⟩; have hc := hb.ccell; have hf := hb.frz; have hs := hb.sz; (try simp at hs); (try have hs0 := hs w.heap.size (by omega)); (try have hs1 := hs (w.heap.size + 1) (by omega)); (try have hs2 := hs (w.heap.size + 1 + 1) (by omega)); (try have hs3 := hs (w.heap.size + 1 + 1 + 1) (by omega))))
    go_ret
    exact ⟨rfl, by (repeat (first | with_reducible exact Ext.rfl' _ | with_reducible assumption | with_reducible refine Ext.al ?_ _ | with_reducible refine Ext.dr ?_ | with_reducible refine Ext.st ?_ (by simp) _ | with_reducible refine Ext.tr ?_ (by assumption)))⟩
  · rw [h1] at HA
    clear h1
    go_enter Tryz.func80, Tryz.ntmps80
    go_wp2_with (first | (go_at_call 23; with_reducible refine Calls.mono (HA.out _ (by (repeat (first | with_reducible exact Ext.rfl' _ | with_reducible assumption | with_reducible refine Ext.al ?_ _ | with_reducible refine Ext.dr ?_ | with_reducible refine Ext.st ?_ (by simp) _ | with_reducible refine Ext.tr ?_ (by assumption))))) ?_; rintro e w1 ⟨rfl, hb⟩; have hc := hb.ccell; have hf := hb.frz; have hs := hb.sz; (try simp at hs); (try have t0 := hs (w.heap.size) (by first | assumption | omega)); (try have t1 := hs (w.heap.size) (by first | assumption | omega)); (try have t2 := hs (w.heap.size) (by first | assumption | omega)); (try have t3 := hs (w.heap.size) (by first | assumption | omega)); (try have t4 := hs (w.heap.size) (by first | assumption | omega)); (try have t5 := hs (w.heap.size) (by first | assumption | omega))) | (go_at_call 23; with_reducible refine Calls.mono (HB.out _ (by (repeat (first | with_reducible exact Ext.rfl' _ | with_reducible assumption | with_reducible refine Ext.al ?_ _ | with_reducible refine Ext.dr ?_ | with_reducible refine Ext.st ?_ (by simp) _ | with_reducible refine Ext.tr ?_ (by assumption))))) ?_; rintro e w1 ⟨rfl, hb⟩; have hc := hb.ccell; have hf := hb.frz; have hs := hb.sz; (try simp at hs); (try have hs0 := hs w.heap.size (by omega)); (try have hs1 := hs (w.heap.size + 1) (by omega)); (try have hs2 := hs (w.heap.size + 1 + 1) (by omega)); (try have hs3 := hs (w.heap.size + 1 + 1 + 1) (by omega))))
    go_ret
    exact ⟨rfl, by (repeat (first | with_reducible exact Ext.rfl' _ | with_reducible assumption | with_reducible refine Ext.al ?_ _ | with_reducible refine Ext.dr ?_ | with_reducible refine Ext.st ?_ (by simp) _ | with_reducible refine Ext.tr ?_ (by assumption)))⟩

/-! ### Centres -/
theorem infoP : (Tryz.prog.info? 23).map (fun i => (i.zero, i.size, i.bytes)) = some (some (.agg #[.int .i64 0, .int .i64 0]), 2, 16) := by kernel_rfl
def evP (F : Nat → Pt) (i : Nat) : Value := if i % 2 = 0 then .int .i64 (F (i / 2)).x else .int .i64 (F (i / 2)).y
def mkP (F : Nat → Pt) (n : Nat) : List Pt := (List.range n).map F
theorem mkP_len (F : Nat → Pt) (n : Nat) : (mkP F n).length = n := by simp [mkP]
theorem mkP_get (F : Nat → Pt) (n i : Nat) (h : i < (mkP F n).length) : (mkP F n)[i] = F i := by simp [mkP]
/-- The first k points are laid in block q. -/
def PtTo (F : Nat → Pt) (n q k : Nat) (w : World) : Prop := ∃ f, w.rowIs q 23 (n * 2) f ∧ ∀ i, i < k * 2 → f i = evP F i
theorem PtTo.row {F : Nat → Pt} {n q : Nat} {w : World} (h : PtTo F n q n w) : Row 2 encP w (some ⟨q, 0, none⟩) (mkP F n) := by
  obtain ⟨f, hf, hv⟩ := h
  refine .inr ⟨q, 0, rfl, hf.lt, fun i hi j v hv' => ?_⟩
  rw [mkP_len] at hi
  have hj : j < 2 := (List.getElem?_eq_some_iff.1 hv').1
  rw [Nat.zero_add, hf.cell (show i * 2 + j < n * 2 by omega), hv _ (by omega), ← hv']
  rw [mkP_get]
  unfold evP encP
  rw [show (i * 2 + j) / 2 = i by omega, show (i * 2 + j) % 2 = j by omega]
  rcases (by omega : j = 0 ∨ j = 1) with rfl | rfl <;> rfl
theorem PtTo.step {F : Nat → Pt} {n q k : Nat} {w : World} (h : PtTo F n q k w) :
    PtTo F n q (k + 1) ((w.setCell ⟨q, k * 2, none⟩ (.int .i64 (F k).x)).setCell ⟨q, k * 2 + 1, none⟩ (.int .i64 (F k).y)) := by
  obtain ⟨f, hf, hv⟩ := h
  refine ⟨_, (hf.set _ _).set _ _, fun i hi => ?_⟩
  unfold evP
  by_cases h1 : i = k * 2 + 1
  · subst h1; simp [show (k * 2 + 1) / 2 = k by omega]
  · by_cases h0 : i = k * 2
    · subst h0; simp [show k * 2 / 2 = k by omega]
    · simp only [h0, h1, if_false]; exact hv i (by omega)
theorem PtTo.ext {F : Nat → Pt} {n q k : Nat} {w w' : World} (h : PtTo F n q k w) (hw : Ext w w') : PtTo F n q k w' := by
  obtain ⟨f, hf, hv⟩ := h
  exact ⟨f, hf.of_block (hw.block q hf.lt), hv⟩
theorem PtTo.start {F : Nat → Pt} {n q base : Nat} {w : World} {xs : List Value} (h : w.ownsRow base 23 2 (.slice (some ⟨q, 0, none⟩) n n) n xs) : PtTo F n q 0 w := by
  rcases h.2 with ⟨h', _⟩ | ⟨g', cap', cur, h', hb, hg, hnc, hcm, hcs, htake⟩
  · simp at h'
  · simp only [Value.slice.injEq, Option.some.injEq, Addr.mk.injEq, and_true, true_and] at h'
    obtain ⟨rfl, rfl⟩ := h'
    exact ⟨fun i => cur.toList.getD i (.bool false), ⟨cur, hg, hcs, fun i hi => by simp [List.getD_eq_getElem?_getD, show i < cur.size by omega]⟩, fun i hi => by omega⟩
/-- The centre of a cell. -/
def ctP (g : Gr) (cn i : Nat) : Pt := ⟨ctX g cn i, ctY g cn i⟩
def OutP (base : Nat) (l : List Pt) (e : Ending) (w' : World) : Prop := ∃ q c, e = .returned (.slice (some ⟨q, 0, none⟩) l.length c) ∧ base ≤ q ∧ Row 2 encP w' (some ⟨q, 0, none⟩) l
set_option maxHeartbeats 8000000 in
set_option maxRecDepth 100000 in
theorem centres_c (g : Gr) (cn : Nat) (w : World) (A : Option Addr) (c : Nat) (h0 : chkG g = 0) (hC : g.C = cn) (hA : Row 1 encZ w A g.L) :
    Calls Tryz.prog 43 #[.agg #[.int .i64 g.X, .int .i64 g.Y, .int .i64 g.S, .int .i64 g.C, .int .i64 g.R, .slice A g.L.length c]] w fun e w' => OutP w.heap.size (mkP (ctP g cn) g.L.length) e w' ∧ Ext w w' := by
  have v := chkG_ok h0
  obtain ⟨cn', rn, e1, e2, e3, e4, e5, e6, e7, e8⟩ := v.nat
  have hcn : cn' = cn := by omega
  subst hcn
  have hpos : 0 < g.L.length := by rw [e7]; exact Nat.mul_pos e3 e5
  have HT := Lib.hid (fun w' (hw : Ext w w') => centre_ok_c g cn' 0 w' A c e1 (hA.ext hw) (by unfold gcE; rw [if_neg (by omega), if_pos (isCell_iff.2 ⟨by omega, by omega⟩)]) h0 hpos)
  have hx := v.hx
  have hy := v.hy
  have hs := v.hs
  have hxe := v.hxe
  have hye := v.hye
  have p1 : 1 * g.S ≤ g.C * g.S := Int.mul_le_mul_of_nonneg_right (by omega) (by omega)
  have p2 : 1 * g.S ≤ g.R * g.S := Int.mul_le_mul_of_nonneg_right (by omega) (by omega)
  have hX0 : ctX g cn' 0 = g.X + g.S / 2 := by unfold ctX; simp
  have hY0 : ctY g cn' 0 = g.Y + g.S / 2 := by unfold ctY; simp
  have hFx : Hid (∀ k, (ctP g cn' k).x = g.X + g.S / 2 + ((k % cn' : Nat) : Int) * g.S ∧ (ctP g cn' k).y = g.Y + g.S / 2 + ((k / cn' : Nat) : Int) * g.S) := Lib.hid (fun k => by unfold ctP ctX ctY; constructor <;> (simp only; omega))
  rw [hX0, hY0] at HT
  have bx : -1000000 ≤ g.X + g.S / 2 ∧ g.X + g.S / 2 ≤ 1000000 := by omega
  have by_ : -1000000 ≤ g.Y + g.S / 2 ∧ g.Y + g.S / 2 ≤ 1000000 := by omega
  have hn : g.L.length ≤ 1024 := by omega
  have HN := Lib.hid e7
  have HGC := Lib.hid e1
  generalize g.X + g.S / 2 = x0 at *
  generalize g.Y + g.S / 2 = y0 at *
  generalize ctP g cn' = F at *
  obtain ⟨i0, hi, hz0, hz1, hz2⟩ := info_parts infoP
  clear hX0 hY0 p1 p2 hxe hye hx hy h0 v e2 e7 e8 hpos hA
  have hgC : 0 < g.C ∧ g.C ≤ 1024 := by omega
  have hC00 : ¬ g.C = 0 := by omega
  clear e1 hC
  go_enter Tryz.func43, Tryz.ntmps43
  go_upto_region 2 with (first | (go_at_call 64; with_reducible refine Calls.mono (HT.out _ (by (repeat (first | with_reducible exact Ext.rfl' _ | with_reducible assumption | with_reducible refine Ext.al ?_ _ | with_reducible refine Ext.dr ?_ | with_reducible refine Ext.st ?_ (by simp) _ | with_reducible refine Ext.tr ?_ (by assumption))))) ?_; rintro e w1 ⟨rfl, hb⟩; have hc := hb.ccell; have hf := hb.frz; have hs := hb.sz; (try simp at hs); (try have t0 := hs (w.heap.size) (by first | assumption | omega)); (try have t1 := hs (w.heap.size) (by first | assumption | omega)); (try have t2 := hs (w.heap.size) (by first | assumption | omega)); (try have t3 := hs (w.heap.size) (by first | assumption | omega)); (try have t4 := hs (w.heap.size) (by first | assumption | omega)); (try have t5 := hs (w.heap.size) (by first | assumption | omega))))
  refine wp_name (fun W hW => ?_)
  have hEW : Ext w W := by rw [hW]; (repeat (first | with_reducible exact Ext.rfl' _ | with_reducible assumption | with_reducible refine Ext.al ?_ _ | with_reducible refine Ext.dr ?_ | with_reducible refine Ext.st ?_ (by simp) _ | with_reducible refine Ext.tr ?_ (by assumption)))
  have kg : CellsAt W w.heap.size 0 [.int .i64 g.X, .int .i64 g.Y, .int .i64 g.S, .int .i64 g.C, .int .i64 g.R, .slice A g.L.length c] := by rw [hW]; refine cells_six ⟨?_, ?_, ?_, ?_, ?_, ?_⟩ <;> simp [*, go_sem]
  have q0 : W.cell? ⟨w1.heap.size, 0, none⟩ = some (.int .i64 x0) := by rw [hW]; simp [*, go_sem]
  have q1 : W.cell? ⟨w1.heap.size, 1, none⟩ = some (.int .i64 y0) := by rw [hW]; simp [*, go_sem]
  have zg : w.heap.size < W.heap.size := by rw [hW]; simp; omega
  have zq : w1.heap.size < W.heap.size := by rw [hW]; simp
  clear hW hb hc hf hs t0 t1 t2 t3 t4 t5
  generalize w1.heap.size = nq at *
  obtain ⟨g0, g1, g2, g3, g4, g5⟩ := kg.six
  go_wp2_with (first | (at_make; refine wpList_make_full _ rfl _ _ 80 rfl W.heap.size 23 i0 _ 2 Tryz.underlying80 hi hz0 hz1 .i64 .i64 _ _ g.L.length rfl rfl rfl rfl (by rw [hz2]; omega) (by unfold maxLen; omega) (Nat.le_refl _) ?_; intro wm hown hgr))
  have hEm : Ext W wm := Below.grown (Ext.rfl' W) hgr (Nat.le_refl _) (by intro q hq; cases hq)
  have hS := Lib.hid (PtTo.start (F := F) hown)
  clear hown hgr hi hz0 hz1 hz2 g0 g1 g2 g3 g4 g5
  go_loopw [6, 18] (fun _ i wr => Ext W wr ∧ ∃ k : Nat, k ≤ g.L.length ∧ i = .int .i64 k ∧ Hid (PtTo F g.L.length W.heap.size k wr)) (fun _ i _ => g.L.length - (intOf i).toNat)
  case atStart => exact ⟨hEm, 0, Nat.zero_le _, rfl, hS⟩
  case round =>
    clear hS hEm
    obtain ⟨hr, k, hk, rfl, hT⟩ := hrel
    have hE := hEW.tr hr
    obtain ⟨g0, g1, g2, g3, g4, g5⟩ := (kg.ext hr zg).six
    have j0 := (hr.ccell _ 0 zq).trans q0
    have j1 := (hr.ccell _ 1 zq).trans q1
    have zg2 := hr.sz _ zg
    have zq2 := hr.sz _ zq
    obtain ⟨f, hf, _⟩ := hT.out
    have hlq := hf.lt
    clear q0 q1
    by_cases hlt : k < g.L.length
    · have fr := hf.frozen
      have r0 := hf.cell (i := k * 2) (by omega)
      have r1 := hf.cell (i := k * 2 + 1) (by omega)
      generalize f (k * 2) = v0 at r0
      generalize f (k * 2 + 1) = v1 at r1
      have hd1 : k / cn' < rn := by rw [Nat.div_lt_iff_lt_mul e3, Nat.mul_comm]; have := HN.out; omega
      have hd2 := Nat.mod_lt k e3
      have ed : (k : Int) / g.C = ((k / cn' : Nat) : Int) := by rw [HGC.out]; simp
      have em : (k : Int) % g.C = ((k % cn' : Nat) : Int) := by rw [HGC.out]; simp
      have HFK := Lib.hid (hFx.out k)
      clear hf
      generalize k / cn' = dv at *
      generalize k % cn' = md at *
      have b1 : 0 ≤ (md : Int) * g.S ∧ (md : Int) * g.S ≤ 1024 * 10000 := ⟨Int.mul_nonneg (by omega) (by omega), Int.mul_le_mul (by omega) (by omega) (by omega) (by omega)⟩
      have b2 : 0 ≤ (dv : Int) * g.S ∧ (dv : Int) * g.S ≤ 1024 * 10000 := ⟨Int.mul_nonneg (by omega) (by omega), Int.mul_le_mul (by omega) (by omega) (by omega) (by omega)⟩
      go_upto_region 6 with fail
      refine region_grow_tail 24 (by kernel_rfl) (by kernel_rfl) ?_
      simp only [List.take_succ_cons, List.take_zero, List.drop_succ_cons, List.drop_zero]
      repeat (first | go_big_quiet_step (first | fail | fail) | quiet_step (first | fail | fail))
      refine wpQuiet_nil ?_
      intro w1 hb
      have hc := hb.ccell
      have hf := hb.frz
      have hs := hb.sz
      (try simp at hs); (try have hs0 := hs w.heap.size (by omega)); (try have hs1 := hs (w.heap.size + 1) (by omega)); (try have hs2 := hs (w.heap.size + 1 + 1) (by omega)); (try have hs3 := hs (w.heap.size + 1 + 1 + 1) (by omega))
      have hE1 : Ext wr w1 := by assumption
      have hT1 := Lib.hid ((hT.out.ext hE1).step)
      rw [HFK.out.1, HFK.out.2] at hT1
      go_wp2
      exact ⟨⟨Ext.st (Ext.st (hr.tr hE1) (by simp) _) (by simp) _, k + 1, by omega, by go_num, hT1⟩, by simp [intOf]; omega⟩
    · have hks : k = g.L.length := by omega
      subst hks
      have hrow := Lib.hid hT.out.row
      clear hf
      go_wp2
      go_ret
      exact ⟨⟨W.heap.size, g.L.length, by rw [mkP_len]; rfl, hEW.size, hrow.out⟩, hE⟩
end Go.Proofs.YtgbkjioajmnjbaaGreat
