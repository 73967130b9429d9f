/- The contract of missing. -/
import Derived.Test.YtohdplnlbnoojaaSckb
import Derived.Test.YtohdplnlbnoojaaSmapi
import Derived.Test.YtohdplnlbnoojaaSshp
namespace Go.Proofs.Ytohdplnlbnoojaa
open Go Go.RowKit Go.IntWalk

theorem wf_ofM {x : Int} (h0 : -9000000000000000000 ≤ x) (h1 : x ≤ 9000000000000000000) : (Lit.int .i64 x).wf = true := WalkArith.wf_i64 (by omega)
theorem MapS.nocell {w : World} {b n : Nat} {f : ByteArray → Int} (h : MapS w b n f) (o : Nat) : w.cell? ⟨b, o, none⟩ = none := by
  obtain ⟨D, ⟨es, clock, hb, _⟩, _⟩ := h
  unfold World.cell?
  simp [hb]
theorem row_ne_map {α : Type} {k : Nat} {enc : α → List Value} {w : World} {b n q off : Nat} {f : ByteArray → Int} {l : List α} (h : MapS w b n f) (hR : Row k enc w (some ⟨q, off, none⟩) l) (hl : 0 < l.length) (he : ∀ x, 0 < (enc x).length) : q ≠ b := by
  rintro rfl
  rcases hR with h0 | ⟨b', off', h1, h2, h3⟩
  · rw [h0] at hl; simp at hl
  · injection h1 with h1
    injection h1 with e1 e2
    subst e1 e2
    have h4 := h3 0 hl 0 _ (List.getElem?_eq_getElem (he _))
    rw [h.nocell] at h4
    cases h4
theorem keepM6 {W w' : World} {a b c d e f : Nat} (h : Ext W w') (ha : a < W.heap.size) (hb : b < W.heap.size) (hc : c < W.heap.size) (hd : d < W.heap.size) (he : e < W.heap.size) (hf : f < W.heap.size) :
    (∀ j : Nat, w'.cell? ⟨a, j, none⟩ = W.cell? ⟨a, j, none⟩) ∧ (∀ j : Nat, w'.cell? ⟨b, j, none⟩ = W.cell? ⟨b, j, none⟩) ∧ (∀ j : Nat, w'.cell? ⟨c, j, none⟩ = W.cell? ⟨c, j, none⟩) ∧ (∀ j : Nat, w'.cell? ⟨d, j, none⟩ = W.cell? ⟨d, j, none⟩) ∧ (∀ j : Nat, w'.cell? ⟨e, j, none⟩ = W.cell? ⟨e, j, none⟩) ∧ (∀ j : Nat, w'.cell? ⟨f, j, none⟩ = W.cell? ⟨f, j, none⟩) :=
  ⟨fun _ => h.ccell _ _ ha, fun _ => h.ccell _ _ hb, fun _ => h.ccell _ _ hc, fun _ => h.ccell _ _ hd, fun _ => h.ccell _ _ he, fun _ => h.ccell _ _ hf⟩
/-- The layers under a cell. -/
def laC (bos : List Bo) (g : Gr) (cn i : Nat) : List La := (el bos (nearB bos (ctX g cn i) (ctY g cn i))).l
/-- The column between two beds at a cell. -/
def coC (bos : List Bo) (g h : Gr) (cn i : Nat) : List Pa := colN (laC bos g cn i) (gi g.L i) (gi h.L i) (laC bos g cn i).length
def knP (g h : Gr) (i : Nat) : Bool := knB g.L i && knB h.L i
theorem colN_nm (l : List La) (f z : Int) (Q : ByteArray → Prop) (hQ : ∀ k, k < l.length → Q (el l k).s) : ∀ k, k ≤ l.length → ∀ p ∈ colN l f z k, Q p.s
  | 0, _, p, hp => by cases hp
  | k + 1, hk, p, hp => by
    rw [colN] at hp
    by_cases h : colB l z k < colT l f k
    · rw [if_pos h] at hp
      rcases List.mem_append.1 hp with hp | hp
      · exact colN_nm l f z Q hQ k (by omega) p hp
      · rw [List.mem_singleton.1 hp]
        exact hQ k (by omega)
    · rw [if_neg h] at hp
      exact colN_nm l f z Q hQ k (by omega) p hp
theorem nm_small {soils : List So} {bos : List Bo} (v : VGd soils bos) {g h : Gr} {cn i : Nat} : ∀ p ∈ coC bos g h cn i, p.s.size ≤ 12 := by
  have hn := nearB_lt v (ctX g cn i) (ctY g cn i)
  have vb := v.b _ hn
  refine colN_nm _ _ _ (fun s => s.size ≤ 12) (fun k hk => ?_) _ (Nat.le_refl _)
  have h1 := vb.has k hk
  unfold hasSoil at h1
  obtain ⟨j, hj, h2⟩ := (anyN_iff _ _).1 h1
  have h3 := (sameS_iff _ _).1 h2
  have h4 := v.s.nm j hj
  rw [h3] at h4
  unfold nameB at h4
  by_cases h5 : (el (laC bos g cn i) k).s.size = 0
  · omega
  · by_cases h6 : 12 < (el (laC bos g cn i) k).s.size
    · exfalso
      unfold laC at h5 h6
      rw [if_neg h5, if_pos h6] at h4
      cases h4
    · omega
theorem coC_lv {soils : List So} {bos : List Bo} (v : VGd soils bos) {g h : Gr} (vg : VG g) (vh : VG h) {cn i : Nat} (hi : i < g.L.length) (hi2 : i < h.L.length) (hk : knP g h i = true) : LvPa (coC bos g h cn i) ∧ (coC bos g h cn i).length ≤ 12 := by
  have hn := nearB_lt v (ctX g cn i) (ctY g cn i)
  have vb := v.b _ hn
  unfold knP knB at hk
  simp only [Bool.and_eq_true, decide_eq_true_eq] at hk
  refine ⟨fun p hp => ?_, Nat.le_trans (colN_len _ _ _ _) vb.le⟩
  have h1 := colN_in _ _ _ _ p hp
  have h2 := vg.lev i hi
  have h3 := vh.lev i hi2
  omega
theorem tch_tr {W w1 w2 : World} {b : Nat} (h : W.grownBy w1 (some b)) (hg : w1.grownBy w2 (some b)) : W.grownBy w2 (some b) :=
  ⟨hg.os.trans h.os, hg.tape.trans h.tape, hg.output.trans h.output, Nat.le_trans h.size hg.size, fun k hk hne => (hg.block k (Nat.lt_of_lt_of_le hk h.size) hne).trans (h.block k hk hne)⟩
def OutMi (F : ByteArray → Int) (e : Ending) (w' : World) : Prop := ∃ b n, e = .returned (.map (some b)) ∧ MapS w' b n F

set_option maxHeartbeats 16000000 in
set_option maxRecDepth 100000 in
theorem missing_c (soils : List So) (bos : List Bo) (g h : Gr) (cn : Nat) (w : World) (AS AB A B : Option Addr) (cS cB c d : Nat) (gw : GrW w soils AS bos AB) (v : VGd soils bos) (h0 : chkG g = 0) (h1 : chkG h = 0) (hlen : h.L.length = g.L.length) (hC : g.C = cn) (hA : Row 1 encZ w A g.L) (hB : Row 1 encZ w B h.L) :
    Calls Try.prog 74 #[.agg #[.slice AS soils.length cS, .slice AB bos.length cB], .agg #[.int .i64 g.X, .int .i64 g.Y, .int .i64 g.S, .int .i64 g.C, .int .i64 g.R, .slice A g.L.length c], .agg #[.int .i64 h.X, .int .i64 h.Y, .int .i64 h.S, .int .i64 h.C, .int .i64 h.R, .slice B h.L.length d]] w fun e w' => OutMi (fun x => htN (knP g h) (coC bos g h cn) x g.L.length) e w' ∧ Ext w w' := by
  have vg := chkG_ok h0
  have vh := chkG_ok h1
  obtain ⟨cn', rn, e1, e2, e3, e4, e5, e6, e7, e8⟩ := vg.nat
  have hcc : cn' = cn := by omega
  subst hcc
  have hn : g.L.length ≤ 1024 := by omega
  have HCE := Lib.hid (fun w' (hw : Ext w w') => by have h := centres_c g cn' w' A c h0 hC (hA.ext hw); unfold OutP at h; rw [mkP_len] at h; exact h)
  have HKG := Lib.hid (fun k (hk : k < g.L.length) w' (hw : Ext w w') => sKnown_c g k w' A c hk (by omega) (hA.ext hw))
  have HKH := Lib.hid (fun k (hk : k < h.L.length) w' (hw : Ext w w') => sKnown_c h k w' B d hk (by omega) (hB.ext hw))
  have HLA := Lib.hid (fun k (hk : k < g.L.length) w' (hw : Ext w w') => layersAt_c soils bos (ctX g cn' k) (ctY g cn' k) w' AS AB cS cB (gw.ext hw) v (ct_in vg hC hk))
  have HCO := Lib.hid (fun k w' (hw : Ext w w') => by
    have hnl := nearB_lt v (ctX g cn' k) (ctY g cn' k)
    exact column_c (el bos (nearB bos (ctX g cn' k) (ctY g cn' k))).l (gi g.L k) (gi h.L k) w' (el bos (nearB bos (ctX g cn' k) (ctY g cn' k))).A (el bos (nearB bos (ctX g cn' k) (ctY g cn' k))).c (gw.la _ hnl).2.1 ((gw.la _ hnl).1.ext hw))
  have HNM := Lib.hid (fun k => nm_small v (g := g) (h := h) (cn := cn') (i := k))
  have HLV := Lib.hid (fun k (hk : k < g.L.length) (hp : knP g h k = true) => coC_lv v vg vh (cn := cn') hk (by omega) hp)
  have HBD := Lib.hid (fun x k (hk : k ≤ g.L.length) => htN_bound (P := knP g h) (C := coC bos g h cn') x k (fun i hi hp => coC_lv v vg vh (cn := cn') (by omega) (by omega) hp))
  have HRA := Lib.hid hA
  have HRB := Lib.hid hB
  have HLN := Lib.hid hlen
  have hmm := @run_makeMap Try.prog
  clear vg vh v gw h0 h1 hC hA hB e1 e2 e3 e4 e5 e6 e7 e8 hlen
  go_enter Try.func74, Try.ntmps74
  go_upto_region 2 with fail
  refine wp_name (fun W0 hW0 => ?_)
  have hE0 : Ext w W0 := by rw [hW0]; (repeat (first | with_reducible exact Ext.rfl' _ | with_reducible assumption | with_reducible refine Ext.al ?_ _ | with_reducible refine Ext.dr ?_ | with_reducible refine Ext.st ?_ (by simp) _ | with_reducible refine Ext.tr ?_ (by assumption)))
  have hM0 : MapS W0 (w.heap.size + 1 + 1 + 1) 0 (fun _ => 0) := by rw [hW0]; have := MapS.made (((w.alloc (.cells #[.slice AS soils.length cS, .slice AB bos.length cB] 25)).alloc (.cells #[.int .i64 g.X, .int .i64 g.Y, .int .i64 g.S, .int .i64 g.C, .int .i64 g.R, .slice A g.L.length c] 57)).alloc (.cells #[.int .i64 h.X, .int .i64 h.Y, .int .i64 h.S, .int .i64 h.C, .int .i64 h.R, .slice B h.L.length d] 57)); simpa using this
  have r0 : W0.cell? ⟨w.heap.size, 0, none⟩ = some (.slice AS soils.length cS) := by rw [hW0]; simp [go_sem]
  have r1 : W0.cell? ⟨w.heap.size, 1, none⟩ = some (.slice AB bos.length cB) := by rw [hW0]; simp [go_sem]
  have km : CellsAt W0 (w.heap.size + 1) 0 [.int .i64 g.X, .int .i64 g.Y, .int .i64 g.S, .int .i64 g.C, .int .i64 g.R, .slice A g.L.length c] := by rw [hW0]; refine cells_six ⟨?_, ?_, ?_, ?_, ?_, ?_⟩ <;> simp [go_sem]
  have kn : CellsAt W0 (w.heap.size + 1 + 1) 0 [.int .i64 h.X, .int .i64 h.Y, .int .i64 h.S, .int .i64 h.C, .int .i64 h.R, .slice B h.L.length d] := by rw [hW0]; refine cells_six ⟨?_, ?_, ?_, ?_, ?_, ?_⟩ <;> simp [go_sem]
  have zM : W0.heap.size = w.heap.size + 1 + 1 + 1 + 1 := by rw [hW0]; simp
  have ka : CellsAt W0 w.heap.size 0 [.slice AS soils.length cS, .slice AB bos.length cB] := by
    intro j u hj
    match j with
    | 0 => simp at hj; subst hj; simpa using r0
    | 1 => simp at hj; subst hj; simpa using r1
    | j + 2 => simp at hj
  clear hW0 r0 r1 hmm
  generalize hmb : w.heap.size + 1 + 1 + 1 = mb at *
  have hm0 : w.heap.size < mb := by omega
  have hm1 : w.heap.size + 1 < mb := by omega
  have hm2 : w.heap.size + 1 + 1 < mb := by omega
  clear hmb
  obtain ⟨m0, m1, m2, m3, m4, m5⟩ := km.six
  go_upto_region 3 with (first | (go_at_call 108; (with_reducible refine Calls.mono (HCE.out _ (by (repeat (first | with_reducible exact Ext.rfl' _ | with_reducible assumption | with_reducible refine Ext.al ?_ _ | with_reducible refine Ext.dr ?_ | with_reducible refine Ext.st ?_ (by simp) _ | with_reducible refine Ext.tr ?_ (by assumption))))) ?_); rintro e w1 ⟨⟨q, cq, rfl, hq, hRP⟩, hb⟩; have hc := hb.ccell; have hf := hb.frz; have hs := hb.sz; (try simp at hs); (try have t0 := hs (w.heap.size) (by first | assumption | omega)); (try have t1 := hs (w.heap.size) (by first | assumption | omega)); (try have t2 := hs (w.heap.size) (by first | assumption | omega)); (try have t3 := hs (w.heap.size) (by first | assumption | omega)); (try have t4 := hs (w.heap.size) (by first | assumption | omega)); (try have t5 := hs (w.heap.size) (by first | assumption | omega))))
  have hE1 : Ext W0 w1 := by assumption
  have hEw1 := hE0.tr hE1
  have hM1 := Lib.hid (hM0.ext hE1)
  have hRP := Lib.hid hRP
  have hqm : q ≠ mb := by omega
  have ka := ka.ext hE1 (by omega)
  have km := km.ext hE1 (by omega)
  have kn := kn.ext hE1 (by omega)
  have zM1 : mb < w1.heap.size := by have := hE1.size; omega
  clear hb hc hf hs t0 t1 t2 t3 t4 t5 m0 m1 m2 m3 m4 m5 hM0 hE0 hE1 HCE zM hq
  go_loopw [16] (fun i wr => w1.grownBy wr (some mb) ∧ ∃ k n : Nat, k ≤ g.L.length ∧ i = .int .i64 k ∧ n ≤ 12 * k ∧ Hid (MapS wr mb n (fun x => htN (knP g h) (coC bos g h cn') x k))) (fun i _ => g.L.length - (intOf i).toNat)
  case atStart => exact ⟨tch_refl _ _, 0, 0, Nat.zero_le _, rfl, Nat.le_refl _, hM1⟩
  case round =>
    clear hM1
    obtain ⟨hT, k, n, hk, rfl, hnk, hM⟩ := hrel
    have hEr := tch_to_ext hT hEw1 (by omega)
    have kar := CellsAt.grown ka hT (by omega) (by intro e; injection e with e; omega)
    have kmr := CellsAt.grown km hT (by omega) (by intro e; injection e with e; omega)
    have knr := CellsAt.grown kn hT (by omega) (by intro e; injection e with e; omega)
    have y0 : mb < wr.heap.size := Nat.lt_of_lt_of_le zM1 hT.size
    by_cases hlt : k < g.L.length
    · have hlh : k < h.L.length := by rw [HLN.out]; exact hlt
      have hRr := tch_row hT hRP.out hqm
      obtain ⟨q', off', hqe, hqz, hcP⟩ := hRr.p2 (k := k) (by rw [mkP_len]; exact hlt)
      injection hqe with hqe
      injection hqe with h1 h2
      subst h1 h2
      obtain ⟨c0, c1⟩ := hcP _ (Ext.rfl' _)
      rw [mkP_get] at c0 c1
      rw [show (ctP g cn' k).x = ctX g cn' k from rfl] at c0
      rw [show (ctP g cn' k).y = ctY g cn' k from rfl] at c1
      rw [Nat.zero_add] at c0 c1
      have HK1 := Lib.hid (fun w' (hw : Ext wr w') => HKG.out k hlt w' (hEr.tr hw))
      have HK2 := Lib.hid (fun w' (hw : Ext wr w') => HKH.out k hlh w' (hEr.tr hw))
      have HLK := Lib.hid (fun w' (hw : Ext wr w') => HLA.out k hlt w' (hEr.tr hw))
      have HCK := Lib.hid (fun w' (hw : Ext wr w') => HCO.out k w' (hEr.tr hw))
      have hki : (k : Int) < (g.L.length : Int) := by omega
      have hkh : (k : Int) < (h.L.length : Int) := by omega
      clear hcP hRr
      obtain ⟨m0, m1, m2, m3, m4, m5⟩ := kmr.six
      obtain ⟨n0, n1, n2, n3, n4, n5⟩ := knr.six
      go_upto_region 5 with fail
      refine wp_name (fun W5 hW => ?_)
      have hE5 : Ext wr W5 := by rw [hW]; (repeat (first | with_reducible exact Ext.rfl' _ | with_reducible assumption | with_reducible refine Ext.al ?_ _ | with_reducible refine Ext.dr ?_ | with_reducible refine Ext.st ?_ (by simp) _ | with_reducible refine Ext.tr ?_ (by assumption)))
      have p0 : W5.cell? ⟨wr.heap.size, 0, none⟩ = some (.int .i64 (ctX g cn' k)) := by rw [hW]; simp [go_sem]
      have p1 : W5.cell? ⟨wr.heap.size, 1, none⟩ = some (.int .i64 (ctY g cn' k)) := by rw [hW]; simp [go_sem]
      have zp : wr.heap.size < W5.heap.size := by rw [hW]; simp
      clear hW c0 c1 m0 m1 m2 m3 m4 m5 n0 n1 n2 n3 n4 n5
      obtain ⟨m0, m1, m2, m3, m4, m5⟩ := (kmr.ext hE5 (by omega)).six
      obtain ⟨n0, n1, n2, n3, n4, n5⟩ := (knr.ext hE5 (by omega)).six
      have x0 := hE5.sz _ y0
      have xm : w.heap.size + 1 < W5.heap.size := by omega
      have xn : w.heap.size + 1 + 1 < W5.heap.size := by omega
      have xg : w.heap.size < W5.heap.size := by omega
      have HK1 := Lib.hid (fun w' (hw : Ext W5 w') => HK1.out w' (hE5.tr hw))
      have HK2 := Lib.hid (fun w' (hw : Ext W5 w') => HK2.out w' (hE5.tr hw))
      have hT5 := tch_ext hT hE5
      have hM5 := Lib.hid (hM.out.ext hE5)
      cases hkn : knP g h k
      · have hS : Hid (∀ x, htN (knP g h) (coC bos g h cn') x (k + 1) = htN (knP g h) (coC bos g h cn') x k) := Lib.hid (fun x => by rw [htN_succ]; unfold htF; rw [hkn]; simp)
        unfold knP at hkn
        have hNX : Hid (∀ w', Ext W5 w' → MapS w' mb n (fun x => htN (knP g h) (coC bos g h cn') x (k + 1))) := Lib.hid (fun w' hw => (hM5.out.ext hw).congr (fun x => (hS.out x).symm))
        clear hS hM hM5
        cases hk1 : knB g.L k
        · rw [hk1] at HK1
          clear hkn hk1
          go_wp2_with (first | (go_at_call 109; with_reducible refine Calls.mono (HK1.out _ (by (repeat (first | with_reducible exact Ext.rfl' _ | with_reducible assumption | with_reducible refine Ext.al ?_ _ | with_reducible refine Ext.dr ?_ | with_reducible refine Ext.st ?_ (by simp) _ | with_reducible refine Ext.tr ?_ (by assumption))))) ?_; rintro e w3 ⟨rfl, hb⟩; have hc := hb.ccell; have hf := hb.frz; have hs := hb.sz; (try simp at hs); (try have t0 := hs (w.heap.size) (by first | assumption | omega)); (try have t1 := hs (w.heap.size + 1) (by first | assumption | omega)); (try have t2 := hs (w.heap.size + 1 + 1) (by first | assumption | omega)); (try have t3 := hs (mb) (by first | assumption | omega)); (try have t4 := hs (wr.heap.size) (by first | assumption | omega)); (try have t5 := hs (w.heap.size) (by first | assumption | omega))))
          have hE6 : Ext W5 w3 := by assumption
          exact ⟨⟨tch_ext hT5 hE6, k + 1, n, by omega, by go_num, by omega, Lib.hid (hNX.out _ hE6)⟩, by simp [intOf]; omega⟩
        · rw [hk1] at HK1 hkn
          have hk2 : knB h.L k = false := by simpa using hkn
          rw [hk2] at HK2
          clear hkn hk1 hk2
          go_wp2_with (first | (go_at_call 109; with_reducible refine Calls.mono (HK1.out _ (by (repeat (first | with_reducible exact Ext.rfl' _ | with_reducible assumption | with_reducible refine Ext.al ?_ _ | with_reducible refine Ext.dr ?_ | with_reducible refine Ext.st ?_ (by simp) _ | with_reducible refine Ext.tr ?_ (by assumption))))) ?_; rintro e w3 ⟨rfl, hb⟩; have hc := hb.ccell; have hf := hb.frz; have hs := hb.sz; (try simp at hs); (try have t0 := hs (w.heap.size) (by first | assumption | omega)); (try have t1 := hs (w.heap.size + 1) (by first | assumption | omega)); (try have t2 := hs (w.heap.size + 1 + 1) (by first | assumption | omega)); (try have t3 := hs (mb) (by first | assumption | omega)); (try have t4 := hs (wr.heap.size) (by first | assumption | omega)); (try have t5 := hs (w.heap.size) (by first | assumption | omega))) | (go_at_call 109; with_reducible refine Calls.mono (HK2.out _ (by (repeat (first | with_reducible exact Ext.rfl' _ | with_reducible assumption | with_reducible refine Ext.al ?_ _ | with_reducible refine Ext.dr ?_ | with_reducible refine Ext.st ?_ (by simp) _ | with_reducible refine Ext.tr ?_ (by assumption))))) ?_; rintro e w4 ⟨rfl, hb⟩; have hc := hb.ccell; have hf := hb.frz; have hs := hb.sz; (try simp at hs); (try have t0 := hs (w.heap.size) (by first | assumption | omega)); (try have t1 := hs (w.heap.size + 1) (by first | assumption | omega)); (try have t2 := hs (w.heap.size + 1 + 1) (by first | assumption | omega)); (try have t3 := hs (mb) (by first | assumption | omega)); (try have t4 := hs (wr.heap.size) (by first | assumption | omega)); (try have t5 := hs (w.heap.size) (by first | assumption | omega))))
          have hE6 : Ext W5 w4 := by (repeat (first | with_reducible exact Ext.rfl' _ | with_reducible assumption | with_reducible refine Ext.al ?_ _ | with_reducible refine Ext.dr ?_ | with_reducible refine Ext.st ?_ (by simp) _ | with_reducible refine Ext.tr ?_ (by assumption)))
          exact ⟨⟨tch_ext hT5 hE6, k + 1, n, by omega, by go_num, by omega, Lib.hid (hNX.out _ hE6)⟩, by simp [intOf]; omega⟩
      · have hkn2 := hkn
        unfold knP at hkn2
        rw [Bool.and_eq_true] at hkn2
        rw [hkn2.1] at HK1
        rw [hkn2.2] at HK2
        obtain ⟨hlv, hl12⟩ := HLV.out k hlt hkn
        have hS : Hid (∀ x, htN (knP g h) (coC bos g h cn') x (k + 1) = htN (knP g h) (coC bos g h cn') x k + hgN (coC bos g h cn' k) x (coC bos g h cn' k).length) := Lib.hid (fun x => by rw [htN_succ]; unfold htF; rw [hkn]; simp)
        have HNK := Lib.hid (HNM.out k)
        have HLK2 := Lib.hid hlv
        obtain ⟨bA, oA, rfl, hbA, hcA⟩ := HRA.out.p1 hlt
        obtain ⟨bB, oB, rfl, hbB, hcB⟩ := HRB.out.p1 hlh
        have xa := hcA _ (hEr.tr hE5)
        have xb := hcB _ (hEr.tr hE5)
        rw [← gi_lt] at xa xb
        have za := (hEr.tr hE5).sz _ hbA
        have zb := (hEr.tr hE5).sz _ hbB
        clear hkn hkn2 hM hcA hcB hlv
        go_upto_region 6 with (first | (go_at_call 109; with_reducible refine Calls.mono (HK1.out _ (by (repeat (first | with_reducible exact Ext.rfl' _ | with_reducible assumption | with_reducible refine Ext.al ?_ _ | with_reducible refine Ext.dr ?_ | with_reducible refine Ext.st ?_ (by simp) _ | with_reducible refine Ext.tr ?_ (by assumption))))) ?_; rintro e w3 ⟨rfl, hb⟩; have hc := hb.ccell; have hf := hb.frz; have hs := hb.sz; (try simp at hs); (try have t0 := hs (w.heap.size) (by first | assumption | omega)); (try have t1 := hs (w.heap.size + 1) (by first | assumption | omega)); (try have t2 := hs (w.heap.size + 1 + 1) (by first | assumption | omega)); (try have t3 := hs (mb) (by first | assumption | omega)); (try have t4 := hs (wr.heap.size) (by first | assumption | omega)); (try have t5 := hs (bA) (by first | assumption | omega))) | (go_at_call 109; with_reducible refine Calls.mono (HK2.out _ (by (repeat (first | with_reducible exact Ext.rfl' _ | with_reducible assumption | with_reducible refine Ext.al ?_ _ | with_reducible refine Ext.dr ?_ | with_reducible refine Ext.st ?_ (by simp) _ | with_reducible refine Ext.tr ?_ (by assumption))))) ?_; rintro e w4 ⟨rfl, hb⟩; have hc := hb.ccell; have hf := hb.frz; have hs := hb.sz; (try simp at hs); (try have t0 := hs (w.heap.size) (by first | assumption | omega)); (try have t1 := hs (w.heap.size + 1) (by first | assumption | omega)); (try have t2 := hs (w.heap.size + 1 + 1) (by first | assumption | omega)); (try have t3 := hs (mb) (by first | assumption | omega)); (try have t4 := hs (wr.heap.size) (by first | assumption | omega)); (try have t5 := hs (bA) (by first | assumption | omega))))
        have hE6 : Ext W5 w4 := by (repeat (first | with_reducible exact Ext.rfl' _ | with_reducible assumption | with_reducible refine Ext.al ?_ _ | with_reducible refine Ext.dr ?_ | with_reducible refine Ext.st ?_ (by simp) _ | with_reducible refine Ext.tr ?_ (by assumption)))
        have zb4 := hE6.sz _ zb
        have za4 := hE6.sz _ za
        have zp4 := hE6.sz _ zp
        have p0 := (hE6.ccell _ _ zp).trans p0
        have p1 := (hE6.ccell _ _ zp).trans p1
        have xa := (hE6.ccell _ _ za).trans xa
        have xb := (hE6.ccell _ _ zb).trans xb
        have hE56 := hE5.tr hE6
        obtain ⟨g0, g1⟩ : w4.cell? ⟨w.heap.size, 0, none⟩ = some (.slice AS soils.length cS) ∧ w4.cell? ⟨w.heap.size, 1, none⟩ = some (.slice AB bos.length cB) := by
          have h1 := kar.ext hE56 (by omega)
          exact ⟨by simpa using h1 0 _ rfl, by simpa using h1 1 _ rfl⟩
        have kmf := kmr.ext hE56 (by omega)
        have knf := knr.ext hE56 (by omega)
        clear m0 m1 m2 m3 m4 m5 n0 n1 n2 n3 n4 n5 hb hc hf hs t0 t1 t2 t3 t4 t5
        obtain ⟨m0, m1, m2, m3, m4, m5⟩ := kmf.six
        obtain ⟨n0, n1, n2, n3, n4, n5⟩ := knf.six
        have v0 := hE6.sz _ x0
        have vm : w.heap.size + 1 < w4.heap.size := by omega
        have vn : w.heap.size + 1 + 1 < w4.heap.size := by omega
        have vg : w.heap.size < w4.heap.size := by omega
        have hT6 := tch_ext hT5 hE6
        have hM6 := Lib.hid (hM5.out.ext hE6)
        have hEw4 := hEr.tr hE56
        have HLK := Lib.hid (fun w' (hw : Ext w4 w') => HLK.out w' (hE56.tr hw))
        have HCK := Lib.hid (fun w' (hw : Ext w4 w') => HCK.out w' (hE56.tr hw))
        clear hT hT5 hM5 hE5 hE6 hE56 x0 xm xn xg za zb zp HK1 HK2 kmf knf
        generalize wr.heap.size = np at *
        go_cut [44, 45, 46] (fun s u z wx => ∃ (A6 : Option Addr) (c6 : Nat), s = .slice A6 (coC bos g h cn' k).length c6 ∧ u = .int .i64 (coC bos g h cn' k).length ∧ z = .int .i64 0 ∧ Ext w4 wx ∧ Hid (Row 3 encPa wx A6 (coC bos g h cn' k)))
        case first =>
          go_region_held3 (fun w' => (∀ j : Nat, w'.cell? ⟨w.heap.size, j, none⟩ = w4.cell? ⟨w.heap.size, j, none⟩) ∧ (∀ j : Nat, w'.cell? ⟨w.heap.size + 1, j, none⟩ = w4.cell? ⟨w.heap.size + 1, j, none⟩) ∧ (∀ j : Nat, w'.cell? ⟨w.heap.size + 1 + 1, j, none⟩ = w4.cell? ⟨w.heap.size + 1 + 1, j, none⟩) ∧ (∀ j : Nat, w'.cell? ⟨np, j, none⟩ = w4.cell? ⟨np, j, none⟩) ∧ (∀ j : Nat, w'.cell? ⟨bA, j, none⟩ = w4.cell? ⟨bA, j, none⟩) ∧ (∀ j : Nat, w'.cell? ⟨bB, j, none⟩ = w4.cell? ⟨bB, j, none⟩)) ((refine keepM6 ?_ vg vm vn zp4 za4 zb4; (repeat (first | with_reducible exact Ext.rfl' _ | with_reducible assumption | with_reducible refine Ext.al ?_ _ | with_reducible refine Ext.dr ?_ | with_reducible refine Ext.st ?_ (by first | (simp; done) | ((try have s2 := Below.size hb2); (try have s3 := Below.size hb3); (try have s4 := Below.size hb4); (try simp at s2); (try simp at s3); (try simp at s4); (try simp); omega)) _ | with_reducible refine Ext.tr ?_ (by with_reducible assumption))))) (first | (go_at_call 70; (with_reducible refine Calls.mono (HLK.out _ (by (repeat (first | with_reducible exact Ext.rfl' _ | with_reducible assumption | with_reducible refine Ext.al ?_ _ | with_reducible refine Ext.dr ?_ | with_reducible refine Ext.st ?_ (by first | (simp; done) | ((try have s2 := Below.size hb2); (try have s3 := Below.size hb3); (try have s4 := Below.size hb4); (try simp at s2); (try simp at s3); (try simp at s4); (try simp); omega)) _ | with_reducible refine Ext.tr ?_ (by with_reducible assumption))))) ?_); rintro e w5 ⟨rfl, hb2⟩; have hc2 := hb2.ccell) | (go_at_call 71; (with_reducible refine Calls.mono (HCK.out _ (by (repeat (first | with_reducible exact Ext.rfl' _ | with_reducible assumption | with_reducible refine Ext.al ?_ _ | with_reducible refine Ext.dr ?_ | with_reducible refine Ext.st ?_ (by first | (simp; done) | ((try have s2 := Below.size hb2); (try have s3 := Below.size hb3); (try have s4 := Below.size hb4); (try simp at s2); (try simp at s3); (try simp at s4); (try simp); omega)) _ | with_reducible refine Ext.tr ?_ (by with_reducible assumption))))) ?_); rintro e w6 ⟨⟨A6, c6, rfl, hR6⟩, hb3⟩; have hc3 := hb3.ccell))
          all_goals
            rename_i hJ hK h1 h2 hH
            clear hH
            refine h2 _ _ (Met.intro (h1 _ _ ?_))
            (repeat apply Exists.intro)
            refine ⟨?_, rfl⟩
            exact ⟨A6, c6, rfl, rfl, rfl, by (repeat (first | with_reducible exact Ext.rfl' _ | with_reducible assumption | with_reducible refine Ext.al ?_ _ | with_reducible refine Ext.dr ?_ | with_reducible refine Ext.st ?_ (by first | (simp; done) | ((try have s2 := Below.size hb2); (try have s3 := Below.size hb3); (try have s4 := Below.size hb4); (try simp at s2); (try simp at s3); (try simp at s4); (try simp); omega)) _ | with_reducible refine Ext.tr ?_ (by with_reducible assumption))), Lib.hid hR6⟩
        case rest =>
        obtain ⟨A6, c6, rfl, rfl, rfl, hx, hR6⟩ := hcut
        have hT7 := tch_ext hT6 hx
        have hM7 := Lib.hid (hM6.out.ext hx)
        have hEw7 := hEw4.tr hx
        rename World => wx
        have zmx := hx.sz _ v0
        have hrm : ∀ q off, A6 = some ⟨q, off, none⟩ → 0 < (coC bos g h cn' k).length → q ≠ mb := by
          rintro q off rfl h1
          exact row_ne_map hM7.out hR6.out h1 (fun _ => by simp [encPa])
        have hHT := HBD.out
        clear hT6 hM6 hx m0 m1 m2 m3 m4 m5 n0 n1 n2 n3 n4 n5 p0 p1 xa xb zb4 za4 zp4 vm vn vg v0 g0 g1 HLK HCK kar kmr knr
        generalize hLc : coC bos g h cn' k = Lc at *
        go_upto_region 7 with fail
        go_loopw [46] (fun s wr => wx.grownBy wr (some mb) ∧ ∃ j n2 : Nat, j ≤ Lc.length ∧ s = .int .i64 j ∧ n2 ≤ n + j ∧ Hid (MapS wr mb n2 (fun x => htN (knP g h) (coC bos g h cn') x k + hgN Lc x j))) (fun s _ => Lc.length - (intOf s).toNat)
        case atStart => exact ⟨tch_refl _ _, 0, n, Nat.zero_le _, rfl, Nat.le_refl _, Lib.hid (hM7.out.congr (fun x => by simp [hgN, sumN]))⟩
        case round =>
          clear hM7
          obtain ⟨hU, j, n2, hj, rfl, hn2, hN⟩ := hrel
          have hEu := tch_to_ext hU hEw7 (by omega)
          have zu : mb < wr.heap.size := Nat.lt_of_lt_of_le zmx hU.size
          by_cases hjl : j < Lc.length
          · have hjj : (j : Int) < (Lc.length : Int) := by omega
            have hmem : el Lc j ∈ Lc := by rw [el_lt _ _ hjl]; exact List.getElem_mem hjl
            obtain ⟨q6, o6, rfl, hq6, hc6⟩ := hR6.out.pa hjl
            obtain ⟨_, _, hh, hqu, hcu⟩ := (tch_row hU hR6.out (hrm _ _ rfl (by omega))).pa hjl
            injection hh with hh
            injection hh with e1 e2
            subst e1 e2
            obtain ⟨c0, c1, c2⟩ := hcu _ (Ext.rfl' _)
            have hsz : (el Lc j).s.size ≤ maxLen := Nat.le_trans (HNK.out _ hmem) (by unfold maxLen; omega)
            have hlv := HLK2.out _ hmem
            have hft := hHT (el Lc j).s k (by omega)
            have hgb := hgN_bound HLK2.out (el Lc j).s j (by omega)
            have hSX : Hid (∀ y v, v = htN (knP g h) (coC bos g h cn') (el Lc j).s k + hgN Lc (el Lc j).s j + ((el Lc j).t - (el Lc j).b) → (if sameS (el Lc j).s y = true then v else htN (knP g h) (coC bos g h cn') y k + hgN Lc y j) = htN (knP g h) (coC bos g h cn') y k + hgN Lc y (j + 1)) := Lib.hid (fun y v hv => by
              rw [hgN_succ]
              unfold hgF
              by_cases hy : sameS (el Lc j).s y = true
              · rw [if_pos hy, if_pos hy, hv, ← (sameS_iff _ _).1 hy]
                omega
              · rw [if_neg hy, if_neg hy]
                omega)
            clear hcu hc6 hmem
            generalize el Lc j = u at *
            go_upto_region 9 with fail
            refine wp_name (fun W9 hW => ?_)
            have hE9 : Ext wr W9 := by rw [hW]; (repeat (first | with_reducible exact Ext.rfl' _ | with_reducible assumption | with_reducible refine Ext.al ?_ _ | with_reducible refine Ext.dr ?_ | with_reducible refine Ext.st ?_ (by simp) _ | with_reducible refine Ext.tr ?_ (by assumption)))
            have p0 : W9.cell? ⟨wr.heap.size, 0, none⟩ = some (.string u.s) := by rw [hW]; simp [go_sem]
            have p1 : W9.cell? ⟨wr.heap.size, 1, none⟩ = some (.int .i64 u.t) := by rw [hW]; simp [go_sem]
            have p2 : W9.cell? ⟨wr.heap.size, 2, none⟩ = some (.int .i64 u.b) := by rw [hW]; simp [go_sem]
            have zp : wr.heap.size < W9.heap.size := by rw [hW]; simp
            clear hW c0 c1 c2
            have hN9 := Lib.hid (hN.out.ext hE9)
            have hlk := hN9.out.look u.s hsz
            have hn2x : n2 < maxLen := by unfold maxLen; omega
            generalize hF1 : htN (knP g h) (coC bos g h cn') u.s k = F1 at *
            generalize hF2 : hgN Lc u.s j = F2 at *
            go_wp2_with (first | (at_mapUpdate; refine wpList_mapPutS rfl (.tmp 50) (.tmp 52) (.tmp 59) rfl mb n2 _ rfl hN9.out hn2x u.s (F1 + F2 + (u.t - u.b)) rfl rfl hsz (wf_ofM (by omega) (by omega)) ?_))
            intro w10 hS10 hg10
            have hV := tch_tr (tch_ext hU hE9) hg10
            clear hg10 hlk hN9 p0 p1 p2 zp hE9 hN
            go_wp2
            exact ⟨⟨hV, j + 1, n2 + 1, by omega, by go_num, by omega, Lib.hid (hS10.congr (fun y => hSX.out y _ rfl))⟩, by simp [intOf]; omega⟩
          · have hjs : j = Lc.length := by omega
            subst hjs
            go_wp2
            exact ⟨⟨tch_tr hT7 hU, k + 1, n2, by omega, by go_num, by omega, Lib.hid (hN.out.congr (fun x => (hS.out x).symm))⟩, by simp [intOf]; omega⟩
    · have hks : k = g.L.length := by omega
      subst hks
      go_wp2
      go_ret
      exact ⟨⟨mb, n, rfl, hM.out⟩, hEr⟩
end Go.Proofs.Ytohdplnlbnoojaa
