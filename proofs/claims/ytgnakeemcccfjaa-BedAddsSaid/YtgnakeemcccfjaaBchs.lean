/- The contracts of changes and of Strips. -/
import Derived.Test.YtgnakeemcccfjaaBrstrip
import Derived.Test.YtgnakeemcccfjaaBwith
namespace Go.Proofs.Ytgnakeemcccfjaa
open Go Go.RowKit Go.IntWalk

structure C3 where
  x : Int
  y : Int
  z : Int

/-- A change's three cells. -/
def encC (p : C3) : List Value := [.int .i64 p.x, .int .i64 p.y, .int .i64 p.z]
theorem encC_len (p : C3) : (encC p).length = 3 := rfl
theorem Row.c3 {w : World} {A : Option Addr} {l : List C3} (h : Row 3 encC w A l) {k : Nat} (hk : k < l.length) :
    ∃ b off, A = some ⟨b, off, none⟩ ∧ b < w.heap.size ∧ ∀ w', Ext w w' → w'.cell? ⟨b, off + k * 3, none⟩ = some (.int .i64 l[k].x) ∧ w'.cell? ⟨b, off + k * 3 + 1, none⟩ = some (.int .i64 l[k].y) ∧ w'.cell? ⟨b, off + k * 3 + 2, none⟩ = some (.int .i64 l[k].z) := by
  obtain ⟨b, off, h1, h2, h3⟩ := h.addr (by omega)
  exact ⟨b, off, h1, h2, fun w' hw => ⟨h3 w' hw k hk 0 _ rfl, h3 w' hw k hk 1 _ rfl, h3 w' hw k hk 2 _ rfl⟩⟩
theorem chB_iff {a b : C3} : chB a.x a.y a.z b.x b.y b.z = true ↔ a = b := by
  unfold chB
  simp only [Bool.and_eq_true, decide_eq_true_eq]
  constructor
  · rintro ⟨h1, h2, h3⟩
    obtain ⟨ax, ay, az⟩ := a
    obtain ⟨bx, b_y, bz⟩ := b
    simp only at h1 h2 h3
    rw [h1, h2, h3]
  · rintro rfl; exact ⟨rfl, rfl, rfl⟩
set_option maxHeartbeats 4000000 in
theorem changes_c (l m : List C3) (w : World) (A B : Option Addr) (c d : Nat) (hl : l.length ≤ 100000) (hA : Row 3 encC w A l) (hB : Row 3 encC w B m) (hlm : l = m) :
    Calls Try.prog 45 #[.slice A l.length c, .slice B m.length d] w fun e w' => e = .returned (.bool true) ∧ Ext w w' := by
  subst hlm
  go_enter Try.func45, Try.ntmps45
  go_wp2
  go_loopw [5] (fun i wr => Ext w wr ∧ ∃ k : Nat, k ≤ l.length ∧ i = .int .i64 k) (fun i _ => l.length - (intOf i).toNat)
  case atStart => exact ⟨Ext.rfl' _, 0, Nat.zero_le _, rfl⟩
  case round =>
    obtain ⟨hE, k, hk, rfl⟩ := hrel
    by_cases hlt : k < l.length
    · obtain ⟨b, off, rfl, hb0, hcell⟩ := hA.c3 hlt
      obtain ⟨c1, c2, c3⟩ := hcell _ hE
      clear hcell
      obtain ⟨b2, off2, rfl, hb2, hcell⟩ := hB.c3 hlt
      obtain ⟨d1, d2, d3⟩ := hcell _ hE
      clear hcell
      have hz := hE.sz _ hb0
      have hz2 := hE.sz _ hb2
      obtain ⟨v0, hv0⟩ : ∃ v, l[k].x = v := ⟨_, rfl⟩
      obtain ⟨v1, hv1⟩ : ∃ v, l[k].y = v := ⟨_, rfl⟩
      obtain ⟨v2, hv2⟩ : ∃ v, l[k].z = v := ⟨_, rfl⟩
      rw [hv0] at c1 d1
      rw [hv1] at c2 d2
      rw [hv2] at c3 d3
      have hch : chB v0 v1 v2 v0 v1 v2 = true := by unfold chB; simp
      clear hv0 hv1 hv2
      go_wp2
      refine region_grow (by kernel_rfl) (by kernel_rfl) ?_
      repeat (first | go_big_quiet_step (first  | fail) | quiet_step (first  | fail))
      refine wpQuiet_nil ?_
      intro w1 hb
      have hc := hb.ccell
      have hf := hb.frz
      have hs := hb.sz
      (try simp at hs); (try have hs0 := hs w.heap.size (by omega)); (try have hs1 := hs (w.heap.size + 1) (by omega)); (try have hs2 := hs (w.heap.size + 1 + 1) (by omega)); (try have hs3 := hs (w.heap.size + 1 + 1 + 1) (by omega))
      (try simp only [IntWalk.i64_left])
      go_wp2
      exact ⟨⟨hE.tr hb, k + 1, by omega, by go_num⟩, by simp [intOf]; omega⟩
    · go_wp2
      go_ret
      exact ⟨rfl, hE⟩
theorem infoC : (Try.prog.info? 58).map (fun i => (i.zero, i.size, i.bytes)) = some (some (.agg #[.int .i64 0, .int .i64 0, .int .i64 0]), 3, 24) := by kernel_rfl
/-- Cell i of a row of changes. -/
def evC (F : Nat → C3) (i : Nat) : Value := if i % 3 = 0 then .int .i64 (F (i / 3)).x else if i % 3 = 1 then .int .i64 (F (i / 3)).y else .int .i64 (F (i / 3)).z
def mkC (F : Nat → C3) (n : Nat) : List C3 := (List.range n).map F
theorem mkC_len (F : Nat → C3) (n : Nat) : (mkC F n).length = n := by simp [mkC]
theorem mkC_get (F : Nat → C3) (n i : Nat) (h : i < (mkC F n).length) : (mkC F n)[i] = F i := by simp [mkC]
/-- The first k changes are laid in block q. -/
def ChTo (F : Nat → C3) (n q k : Nat) (w : World) : Prop := ∃ f, w.rowIs q 58 (n * 3) f ∧ ∀ i, i < k * 3 → f i = evC F i
theorem ChTo.row {F : Nat → C3} {n q : Nat} {w : World} (h : ChTo F n q n w) : Row 3 encC w (some ⟨q, 0, none⟩) (mkC F n) := by
  obtain ⟨f, hf, hv⟩ := h
  refine .inr ⟨q, 0, rfl, hf.lt, fun i hi j v hv' => ?_⟩
  rw [mkC_len] at hi
  have hj : j < 3 := (List.getElem?_eq_some_iff.1 hv').1
  rw [Nat.zero_add, hf.cell (show i * 3 + j < n * 3 by omega), hv _ (by omega), ← hv']
  rw [mkC_get]
  unfold evC encC
  rw [show (i * 3 + j) / 3 = i by omega, show (i * 3 + j) % 3 = j by omega]
  rcases (by omega : j = 0 ∨ j = 1 ∨ j = 2) with rfl | rfl | rfl <;> rfl
theorem ChTo.step {F : Nat → C3} {n q k : Nat} {w : World} (h : ChTo F n q k w) :
    ChTo F n q (k + 1) (((w.setCell ⟨q, k * 3, none⟩ (.int .i64 (F k).x)).setCell ⟨q, k * 3 + 1, none⟩ (.int .i64 (F k).y)).setCell ⟨q, k * 3 + 2, none⟩ (.int .i64 (F k).z)) := by
  obtain ⟨f, hf, hv⟩ := h
  refine ⟨_, ((hf.set _ _).set _ _).set _ _, fun i hi => ?_⟩
  unfold evC
  by_cases h2 : i = k * 3 + 2
  · subst h2; simp [show (k * 3 + 2) / 3 = k by omega, show (k * 3 + 2) % 3 = 2 by omega]
  · by_cases h1 : i = k * 3 + 1
    · subst h1; simp [show (k * 3 + 1) / 3 = k by omega, show (k * 3 + 1) % 3 = 1 by omega]
    · by_cases h0 : i = k * 3
      · subst h0; simp [show k * 3 / 3 = k by omega]
      · simp only [h0, h1, h2, if_false]; exact hv i (by omega)
theorem ChTo.ext {F : Nat → C3} {n q k : Nat} {w w' : World} (h : ChTo F n q k w) (hw : Ext w w') : ChTo F n q k w' := by
  obtain ⟨f, hf, hv⟩ := h
  exact ⟨f, hf.of_block (hw.block q hf.lt), hv⟩
theorem ChTo.start {F : Nat → C3} {n q base : Nat} {w : World} {xs : List Value} (h : w.ownsRow base 58 3 (.slice (some ⟨q, 0, none⟩) n n) n xs) : ChTo F n q 0 w := by
  rcases h.2 with ⟨h', _⟩ | ⟨g', cap', cur, h', hb, hg, hnc, hcm, hcs, htake⟩
  · simp at h'
  · simp only [Value.slice.injEq, Option.some.injEq, Addr.mk.injEq, and_true, true_and] at h'
    obtain ⟨rfl, rfl⟩ := h'
    exact ⟨fun i => cur.toList.getD i (.bool false), ⟨cur, hg, hcs, fun i hi => by simp [List.getD_eq_getElem?_getD, show i < cur.size by omega]⟩, fun i hi => by omega⟩
/-- The change of a column. -/
def colF (g h : Gr) (cn rn : Nat) (k : Nat) : C3 := ⟨sumC g.S g.L h.L k cn rn, sumC g.S h.L g.L k cn rn, sumU g.L h.L k cn rn⟩
set_option maxHeartbeats 4000000 in
theorem strips_err_c (g h : Gr) (w : World) (A B : Option Addr) (c d : Nat) (hl : g.L.length ≤ maxLen) (hm : h.L.length ≤ maxLen) (hA : Row 1 encZ w A g.L) (hB : Row 1 encZ w B h.L) (h0 : twoE g h ≠ 0) :
    Calls Try.prog 43 #[.agg #[.int .i64 g.X, .int .i64 g.Y, .int .i64 g.S, .int .i64 g.C, .int .i64 g.R, .slice A g.L.length c], .agg #[.int .i64 h.X, .int .i64 h.Y, .int .i64 h.S, .int .i64 h.C, .int .i64 h.R, .slice B h.L.length d]] w fun e w' => e = .returned (.tuple #[.slice none 0 0, .int .i64 (twoE g h)]) ∧ Ext w w' := by
  have HC := Lib.hid (fun w' (hw : Ext w w') => checkTwo_c g h w' A B c d hl hm (hA.ext hw) (hB.ext hw))
  have h0' : (twoE g h != 0) = true := by rw [bne_iff_ne]; exact h0
  generalize twoE g h = E at *
  clear h0
  go_enter Try.func43, Try.ntmps43
  go_wp2_with (first | (go_at_call 87; with_reducible refine Calls.mono (HC.out _ (by (repeat (first | with_reducible exact Ext.rfl' _ | with_reducible assumption | with_reducible refine Ext.al ?_ _ | with_reducible refine Ext.dr ?_ | with_reducible refine Ext.st ?_ (by simp) _ | with_reducible refine Ext.tr ?_ (by assumption))))) ?_; rintro e w1 ⟨rfl, hb⟩; have hc := hb.ccell; have hf := hb.frz; have hs := hb.sz; (try simp at hs); (try have hs0 := hs w.heap.size (by omega)); (try have hs1 := hs (w.heap.size + 1) (by omega)); (try have hs2 := hs (w.heap.size + 1 + 1) (by omega)); (try have hs3 := hs (w.heap.size + 1 + 1 + 1) (by omega))))
  exact bodyPost_ret (v := .tuple #[.slice none 0 0, .int .i64 E]) (by simp [results, Try.results43, go_sem]) rfl ⟨rfl, by (repeat (first | with_reducible exact Ext.rfl' _ | with_reducible assumption | with_reducible refine Ext.al ?_ _ | with_reducible refine Ext.dr ?_ | with_reducible refine Ext.st ?_ (by simp) _ | with_reducible refine Ext.tr ?_ (by assumption)))⟩
def OutCs (l : List C3) (e : Ending) (w' : World) : Prop := ∃ A c, e = .returned (.tuple #[.slice A l.length c, .int .i64 0]) ∧ Row 3 encC w' A l
set_option maxHeartbeats 8000000 in
set_option maxRecDepth 100000 in
theorem strips_ok_c (g h : Gr) (cn rn : Nat) (w : World) (A B : Option Addr) (c d : Nat) (hC : g.C = cn) (hR : g.R = rn) (hA : Row 1 encZ w A g.L) (hB : Row 1 encZ w B h.L) (h0 : twoE g h = 0) :
    Calls Try.prog 43 #[.agg #[.int .i64 g.X, .int .i64 g.Y, .int .i64 g.S, .int .i64 g.C, .int .i64 g.R, .slice A g.L.length c], .agg #[.int .i64 h.X, .int .i64 h.Y, .int .i64 h.S, .int .i64 h.C, .int .i64 h.R, .slice B h.L.length d]] w fun e w' => OutCs (mkC (colF g h cn rn) cn) e w' ∧ Ext w w' := by
  obtain ⟨vg, vh, hs, hn⟩ := twoE_ok h0
  obtain ⟨cn', rn', e1, e2, e3, e4, e5, e6, e7, e8⟩ := vg.nat
  have hcc : cn' = cn := by omega
  have hrr : rn' = rn := by omega
  subst hcc hrr
  have HC := Lib.hid (fun w' (hw : Ext w w') => by
    have h9 := checkTwo_c g h w' A B c d (by unfold maxLen; omega) (by unfold maxLen; omega) (hA.ext hw) (hB.ext hw)
    rw [h0] at h9
    exact h9)
  have HO := Lib.hid (fun k (hk : k < cn') w' (hw : Ext w w') => by
    have h9 := changeOver_c g h k cn' rn' w' A B c d (by have := vg.hs; omega) (by have := vg.hs; omega) vg.lev vh.lev hn (by omega) (by omega) (by omega) (by omega) (by omega)
      (fun j hj => by rw [e7]; calc k + j * cn' < (j + 1) * cn' := by rw [Nat.succ_mul]; omega
                      _ ≤ rn' * cn' := Nat.mul_le_mul_right _ hj
                      _ = cn' * rn' := Nat.mul_comm _ _)
      (by rw [e7, Nat.mul_comm]; omega) (hA.ext hw) (hB.ext hw)
    rw [← e1] at h9
    exact h9)
  have hgC : 0 ≤ g.C ∧ g.C ≤ 1024 := by omega
  obtain ⟨i0, hi, hz0, hz1, hz2⟩ := info_parts infoC
  have HE1 := Lib.hid e1
  clear h0 vg vh hs hn hA hB hR e1 e2 e5 e6 e7 e8 hC
  go_enter Try.func43, Try.ntmps43
  go_upto_region 4 with (first | (go_at_call 87; with_reducible refine Calls.mono (HC.out _ (by (repeat (first | with_reducible exact Ext.rfl' _ | with_reducible assumption | with_reducible refine Ext.al ?_ _ | with_reducible refine Ext.dr ?_ | with_reducible refine Ext.st ?_ (by simp) _ | with_reducible refine Ext.tr ?_ (by assumption))))) ?_; rintro e w1 ⟨rfl, hb⟩; have hc := hb.ccell; have hf := hb.frz; have hs := hb.sz; (try simp at hs); (try have hs0 := hs w.heap.size (by omega)); (try have hs1 := hs (w.heap.size + 1) (by omega)); (try have hs2 := hs (w.heap.size + 1 + 1) (by omega)); (try have hs3 := hs (w.heap.size + 1 + 1 + 1) (by omega))))
  have hE1 : Ext w w1 := by (repeat (first | with_reducible exact Ext.rfl' _ | with_reducible assumption | with_reducible refine Ext.al ?_ _ | with_reducible refine Ext.dr ?_ | with_reducible refine Ext.st ?_ (by simp) _ | with_reducible refine Ext.tr ?_ (by assumption)))
  have kg : CellsAt w1 w.heap.size 0 [.int .i64 g.X, .int .i64 g.Y, .int .i64 g.S, .int .i64 g.C, .int .i64 g.R, .slice A g.L.length c] := by refine cells_six ⟨?_, ?_, ?_, ?_, ?_, ?_⟩ <;> simp [*, go_sem]
  have kh : CellsAt w1 (w.heap.size + 1) 0 [.int .i64 h.X, .int .i64 h.Y, .int .i64 h.S, .int .i64 h.C, .int .i64 h.R, .slice B h.L.length d] := by refine cells_six ⟨?_, ?_, ?_, ?_, ?_, ?_⟩ <;> simp [*, go_sem]
  have zg : w.heap.size < w1.heap.size := hs0
  have zh : w.heap.size + 1 < w1.heap.size := hs1
  have z3 := (kg.six).2.2.2.1
  clear hc hf hs hb
  go_wp2_with (first | (at_make; refine wpList_make_full _ rfl _ _ 61 rfl w1.heap.size 58 i0 _ 3 Try.underlying61 hi hz0 hz1 .i64 .i64 _ _ cn' rfl rfl HE1.out HE1.out (by rw [hz2]; omega) (by unfold maxLen; omega) (Nat.le_refl _) ?_; intro wm hown hgr))
  have hEm : Ext w1 wm := Below.grown (Ext.rfl' w1) hgr (Nat.le_refl _) (by intro q hq; cases hq)
  have hS := Lib.hid (ChTo.start (F := colF g h cn' rn') hown)
  clear hown hgr hi hz0 hz1 hz2 z3
  go_loopw [8, 20] (fun _ i wr => Ext w1 wr ∧ ∃ k : Nat, k ≤ cn' ∧ i = .int .i64 k ∧ Hid (ChTo (colF g h cn' rn') cn' w1.heap.size k wr)) (fun _ i _ => cn' - (intOf i).toNat)
  case atStart => exact ⟨hEm, 0, Nat.zero_le _, rfl, hS⟩
  case round =>
    clear hS hEm
    obtain ⟨hr, k, hk, rfl, hT⟩ := hrel
    have hE := hE1.tr hr
    obtain ⟨g0, g1, g2, g3, g4, g5⟩ := (kg.ext hr zg).six
    obtain ⟨h0, h1, h2, h3, h4, h5⟩ := (kh.ext hr zh).six
    have zg2 := hr.sz _ zg
    have zh2 := hr.sz _ zh
    obtain ⟨f, hf, _⟩ := hT.out
    have hlq := hf.lt
    by_cases hlt : k < cn'
    · have fr := hf.frozen
      have q0 := hf.cell (i := k * 3) (by omega)
      have q1 := hf.cell (i := k * 3 + 1) (by omega)
      have q2 := hf.cell (i := k * 3 + 2) (by omega)
      generalize f (k * 3) = v0 at q0
      generalize f (k * 3 + 1) = v1 at q1
      generalize f (k * 3 + 2) = v2 at q2
      clear hf
      have O1 := Lib.hid (fun w' (hw : Ext w w') => HO.out k hlt w' hw)
      go_wp2_with (first | (go_at_call 88; with_reducible refine Calls.mono (O1.out _ (by (repeat (first | with_reducible exact Ext.rfl' _ | with_reducible assumption | with_reducible refine Ext.al ?_ _ | with_reducible refine Ext.dr ?_ | with_reducible refine Ext.st ?_ (by simp) _ | with_reducible refine Ext.tr ?_ (by assumption))))) ?_; rintro e w3 ⟨rfl, hb⟩; have hc := hb.ccell; have hf := hb.frz; have hs := hb.sz; (try simp at hs); (try have t0 := hs (w.heap.size) (by first | assumption | omega)); (try have t1 := hs (w.heap.size + 1) (by first | assumption | omega)); (try have t2 := hs (w1.heap.size) (by first | assumption | omega)); (try have t3 := hs (w1.heap.size) (by first | assumption | omega)); (try have t4 := hs (w1.heap.size) (by first | assumption | omega)); (try have t5 := hs (w1.heap.size) (by first | assumption | omega))))
      have hb3 : Ext wr w3 := by assumption
      exact ⟨⟨Ext.st (Ext.st (Ext.st (hr.tr hb3) (by simp) _) (by simp) _) (by simp) _, k + 1, by omega, by go_num, Lib.hid ((hT.out.ext hb3).step)⟩, by simp [intOf]; omega⟩
    · have hks : k = cn' := by omega
      subst hks
      have hrow := Lib.hid hT.out.row
      clear hf
      go_wp2
      refine bodyPost_ret (v := .tuple #[.slice (some ⟨w1.heap.size, 0, none⟩) k k, .int .i64 0]) (by simp [results, Try.results43, go_sem]) rfl ⟨⟨_, k, ?_, hrow.out⟩, by (repeat (first | with_reducible exact Ext.rfl' _ | with_reducible assumption | with_reducible refine Ext.al ?_ _ | with_reducible refine Ext.dr ?_ | with_reducible refine Ext.st ?_ (by simp) _ | with_reducible refine Ext.tr ?_ (by assumption)))⟩
      rw [mkC_len]
end Go.Proofs.Ytgnakeemcccfjaa
