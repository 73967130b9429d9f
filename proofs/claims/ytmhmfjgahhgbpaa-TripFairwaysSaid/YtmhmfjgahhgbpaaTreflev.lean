/- The contract of the reference's Level. -/
import Derived.Test.YtmhmfjgahhgbpaaTlevel
import Derived.Test.YtmhmfjgahhgbpaaTref2
namespace Go.Proofs.Ytmhmfjgahhgbpaa
open Go Go.RowKit Go.IntWalk

theorem rat_one (gs : List Ga) (t : Int) (k p : Nat) (hk : k < gs.length) (w : World) (hG : GoodR (gg gs k)) (ht : 0 ≤ t ∧ t ≤ 1000000) (hM : Marks w gs) (hp : PosAt (gg gs k).l t p) :
    Calls Try.prog 45 #[.agg #[.string gs[k].s, .int .i64 gs[k].x, .int .i64 gs[k].er, .slice gs[k].A gs[k].l.length gs[k].c], .int .i64 t] w
      fun e w' => e = .returned (.tuple #[.agg #[.int .i64 (oneV (gg gs k) t p).1, .int .i64 (oneV (gg gs k) t p).2.1], .bool (oneV (gg gs k) t p).2.2]) ∧ Ext w w' := by
  have hA := (hM k hk).2
  rw [← gg_lt gs k hk] at hA ⊢
  exact rat_c _ _ _ _ t p w _ _ hG.m hG.er ht hA hp
set_option maxHeartbeats 4000000 in
set_option maxRecDepth 100000 in
theorem rlevel_c (gs : List Ga) (x t : Int) (P : Nat → Nat) (i : Nat) (w : World) (A : Option Addr) (c : Nat) (hG : GoodL gs) (hx : -1000000 ≤ x ∧ x ≤ 1000000) (ht : 0 ≤ t ∧ t ≤ 1000000)
    (hA : Row 4 encG w A gs) (hM : Marks w gs) (hp : PosG gs x i) (hP : ∀ k, k < gs.length → PosAt (gg gs k).l t (P k)) :
    Calls Try.prog 19 #[.slice A gs.length c, .int .i64 x, .int .i64 t] w
      fun e w' => e = .returned (.tuple #[.agg #[.int .i64 (plV gs x t P i).1, .int .i64 (plV gs x t P i).2.1], .bool (plV gs x t P i).2.2]) ∧ Ext w w' := by
  have hl : gs.length ≤ 1000 := by have := hG.len; omega
  by_cases h0 : gs.length = 0
  · have e1 : plV gs x t P i = (0, 0, false) := by unfold plV; rw [if_pos h0]
    rw [e1, h0]
    clear e1 hG hp hP
    go_enter Try.func19, Try.ntmps19
    go_wp2
    refine bodyPost_ret (v := .tuple #[.agg #[.int .i64 0, .int .i64 0], .bool false]) (by simp [results, Try.results19, go_sem, World.cell?_alloc_new]) rfl ⟨rfl, ?_⟩
    (repeat (first | with_reducible exact Ext.rfl' _ | with_reducible assumption | with_reducible refine Ext.al ?_ _ | with_reducible refine Ext.dr ?_ | with_reducible refine Ext.st ?_ (by simp) _ | with_reducible refine Ext.tr ?_ (by assumption)))
  have h0' : ((gs.length : Int) == 0) = false := by rw [beq_eq_false_iff_ne]; omega
  have hgl : 0 < gs.length := by omega
  obtain ⟨b, off, rfl, hb0, hcell⟩ := hA.p4 hgl
  have c0 := hcell _ (Ext.rfl' w)
  clear hcell
  simp only [Nat.zero_mul, Nat.add_zero] at c0
  have g0 := gg_lt gs 0 hgl
  by_cases hx0 : x ≤ gs[0].x
  · have hi0 : i = 0 := by
      rcases Nat.eq_zero_or_pos i with h | h
      · exact h
      · have := hp.2.1 0 h; rw [g0] at this; omega
    have e1 : plV gs x t P i = oneV (gg gs 0) t (P 0) := by unfold plV; rw [if_neg h0, if_pos (by rw [hi0]; simp), hi0]
    rw [e1]
    have HO := Lib.hid (fun w' (hw : Ext w w') => rat_one gs t 0 (P 0) hgl w' (hG.ok 0 hgl) ht (hM.ext hw) (hP 0 hgl))
    generalize oneV (gg gs 0) t (P 0) = r at *
    obtain ⟨r0, r1, r2⟩ := r
    dsimp only at HO ⊢
    clear e1 hG hp hP
    go_enter Try.func19, Try.ntmps19
    go_wp2_with (first | (go_at_call 45; with_reducible refine Calls.mono (HO.out _ (by (repeat (first | with_reducible exact Ext.rfl' _ | with_reducible assumption | with_reducible refine Ext.al ?_ _ | with_reducible refine Ext.dr ?_ | with_reducible refine Ext.st ?_ (by simp) _ | with_reducible refine Ext.tr ?_ (by assumption))))) ?_; rintro e w1 ⟨rfl, hb⟩; have hc := hb.ccell; have hf := hb.frz; have hs := hb.sz; (try simp at hs); (try have t0 := hs (w.heap.size) (by first | assumption | omega)); (try have t1 := hs (b) (by first | assumption | omega)); (try have t2 := hs (b) (by first | assumption | omega)); (try have t3 := hs (b) (by first | assumption | omega)); (try have t4 := hs (b) (by first | assumption | omega)); (try have t5 := hs (b) (by first | assumption | omega))))
    have hE : Ext w w1 := by (repeat (first | with_reducible exact Ext.rfl' _ | with_reducible assumption | with_reducible refine Ext.al ?_ _ | with_reducible refine Ext.dr ?_ | with_reducible refine Ext.st ?_ (by simp) _ | with_reducible refine Ext.tr ?_ (by assumption)))
    have kz : Two w1 w.heap.size 0 0 := by refine ⟨?_, ?_⟩ <;> simp [*, go_sem]
    have hS2 := Two.store (w := w1) (b := w.heap.size) kz (r0) (r1)
    have hX2 := Ext.store2 (b := w.heap.size) hE (by omega) (r0) (r1)
    show bodyPost _ _ _ _ _ (st2 w1 (w.heap.size) (r0) (r1))
    generalize st2 w1 (w.heap.size) (r0) (r1) = W6 at hS2 hX2 ⊢
    obtain ⟨s0, s1⟩ := hS2
    refine bodyPost_ret (v := .tuple #[.agg #[.int .i64 r0, .int .i64 r1], .bool r2]) (by simp [results, Try.results19, go_sem, s0, s1]) rfl ⟨rfl, hX2⟩
  have hi1 : 1 ≤ i := by
    rcases Nat.eq_zero_or_pos i with h | h
    · have := hp.2.2 0 (by omega) hgl; rw [g0] at this; omega
    · omega
  have HPG := Lib.hid hp
  have HPA := Lib.hid hP
  have HGL := Lib.hid hG
  have hil := hp.1
  obtain ⟨r, hr⟩ : ∃ r, plV gs x t P i = r := ⟨_, rfl⟩
  rw [hr]
  have HR := Lib.hid hr
  obtain ⟨r0, r1, r2⟩ := r
  dsimp only
  clear hp hP hG hr g0
  go_enter Try.func19, Try.ntmps19
  go_wp2
  have hEp : Ext w (w.alloc (.cells #[.int .i64 0, .int .i64 0] 48)) := by (repeat (first | with_reducible exact Ext.rfl' _ | with_reducible assumption | with_reducible refine Ext.al ?_ _ | with_reducible refine Ext.dr ?_ | with_reducible refine Ext.st ?_ (by simp) _ | with_reducible refine Ext.tr ?_ (by assumption)))
  have kp : Two (w.alloc (.cells #[.int .i64 0, .int .i64 0] 48)) w.heap.size 0 0 := by refine ⟨?_, ?_⟩ <;> simp [World.cell?_alloc_new, go_sem]
  have fp : ∀ o, (w.alloc (.cells #[.int .i64 0, .int .i64 0] 48)).frozen? ⟨w.heap.size, o, none⟩ = false := by intro o; simp [go_sem]
  have zp : w.heap.size < (w.alloc (.cells #[.int .i64 0, .int .i64 0] 48)).heap.size := by simp
  generalize w.alloc (.cells #[.int .i64 0, .int .i64 0] 48) = wp at *
  go_loopw [8, 9, 10, 11, 12, 13, 14, 15] (fun v _ _ _ _ _ _ _ wr => Ext wp wr ∧ ∃ k : Nat, 1 ≤ k ∧ k ≤ i ∧ v = .int .i64 k) (fun v _ _ _ _ _ _ _ _ => i - (intOf v).toNat)
  case atStart => exact ⟨Ext.rfl' _, 1, Nat.le_refl _, hi1, rfl⟩
  case round =>
    obtain ⟨hr, k, hk1, hk, rfl⟩ := hrel
    have hE : Ext w wr := hEp.tr hr
    have kz : Two wr w.heap.size 0 0 := ⟨(hr.ccell _ 0 zp).trans kp.1, (hr.ccell _ 1 zp).trans kp.2⟩
    have fz := fun o => (hr.frz _ o zp).trans (fp o)
    have hzp := hr.sz _ zp
    have hzb := hE.sz _ hb0
    have HX := Lib.hid (And.intro hE (And.intro kz fz))
    have HRR := Lib.hid hr
    clear hr kz fz
    obtain ⟨j, hj⟩ : ∃ j, k = j + 1 := ⟨k - 1, by omega⟩
    have hjz : (k : Int) - 1 = (j : Int) := by omega
    have hj1 : IntKind.i64.wrap ((k : Int) - 1) = (j : Int) := by rw [i64_in _ (by omega)]; omega
    have hjl : j < gs.length := by omega
    have cj := hA.r4 hjl _ HX.out.1
    have gj := gg_lt gs j hjl
    by_cases hlt : k < gs.length
    · have ck := hA.r4 hlt _ HX.out.1
      have gk := gg_lt gs k hlt
      have hkz : (k : Int) < (gs.length : Int) := by omega
      have hjlz : (j : Int) < (gs.length : Int) := by omega
      have HOA := Lib.hid (fun w' (hw : Ext w w') => rat_one gs t j (P j) hjl w' (HGL.out.ok j hjl) ht (hM.ext hw) (HPA.out j hjl))
      have HOB := Lib.hid (fun w' (hw : Ext w w') => rat_one gs t k (P k) hlt w' (HGL.out.ok k hlt) ht (hM.ext hw) (HPA.out k hlt))
      have x1 : k < i → gs[k].x < x := fun h => by have := HPG.out.2.1 k h; rwa [gk] at this
      have x2 : ¬ k < i → x ≤ gs[k].x := fun h => by have := HPG.out.2.2 k (by omega) hlt; rwa [gk] at this
      have x3 : gs[j].x < x := by have := HPG.out.2.1 j (by omega); rwa [gj] at this
      have oj := (HGL.out.ok j hjl).x
      have ok := (HGL.out.ok k hlt).x
      rw [gj] at oj
      rw [gk] at ok
      have s1 := lo_hi_small (HGL.out.ok j hjl).m (HGL.out.ok j hjl).er (HPA.out j hjl)
      have s2 := lo_hi_small (HGL.out.ok k hlt).m (HGL.out.ok k hlt).er (HPA.out k hlt)
      have v1 : ¬ k < i → gs[k].x = x → oneV (gg gs k) t (P k) = (r0, r1, r2) := fun h h2 => by
        have hki : k = i := by omega
        subst hki
        rw [← HR.out]
        unfold plV
        rw [if_neg h0, if_pos (by unfold foundG; rw [gk, decide_eq_true hlt, decide_eq_true h2]; rfl)]
      have v2 : ¬ k < i → ¬ gs[k].x = x → twoV (gg gs j) (gg gs k) x t (P j) (P k) = (r0, r1, r2) := fun h h2 => by
        have hki : k = i := by omega
        subst hki
        rw [← HR.out]
        unfold plV
        rw [if_neg h0, if_neg (by unfold foundG; rw [gk, decide_eq_false h2, decide_eq_false (show ¬ k = 0 by omega)]; simp), if_neg (by omega), show k - 1 = j by omega]
      have e2 : twoV (gg gs j) (gg gs k) x t (P j) (P k) = (if (oneV (gg gs j) t (P j)).2.2 && (oneV (gg gs k) t (P k)).2.2 then sumZ gs[j].x (oneV (gg gs j) t (P j)).1 gs[k].x (oneV (gg gs k) t (P k)).1 x / (gs[k].x - gs[j].x) else 0,
          if (oneV (gg gs j) t (P j)).2.2 && (oneV (gg gs k) t (P k)).2.2 then -((-sumZ gs[j].x (oneV (gg gs j) t (P j)).2.1 gs[k].x (oneV (gg gs k) t (P k)).2.1 x) / (gs[k].x - gs[j].x)) else 0, (oneV (gg gs j) t (P j)).2.2 && (oneV (gg gs k) t (P k)).2.2) := by
        rw [← gj, ← gk]; rfl
      rw [e2] at v2
      have s1' : (-21000 ≤ (oneV (gg gs j) t (P j)).1 ∧ (oneV (gg gs j) t (P j)).1 ≤ 20000) ∧ (-20000 ≤ (oneV (gg gs j) t (P j)).2.1 ∧ (oneV (gg gs j) t (P j)).2.1 ≤ 21000) := s1
      have s2' : (-21000 ≤ (oneV (gg gs k) t (P k)).1 ∧ (oneV (gg gs k) t (P k)).1 ≤ 20000) ∧ (-20000 ≤ (oneV (gg gs k) t (P k)).2.1 ∧ (oneV (gg gs k) t (P k)).2.1 ≤ 21000) := s2
      generalize oneV (gg gs j) t (P j) = a at *
      generalize oneV (gg gs k) t (P k) = b3 at *
      obtain ⟨a0, a1, a2⟩ := a
      obtain ⟨d0, d1, d2⟩ := b3
      dsimp only at *
      clear s1 s2 e2 gj gk
      have V1 := Lib.hid v1
      have V2 := Lib.hid v2
      have X := Lib.hid (And.intro x1 (And.intro x2 (And.intro x3 (And.intro oj (And.intro ok (And.intro s1' s2'))))))
      have HJ := Lib.hid hj
      clear v1 v2 x1 x2 x3 oj ok s1' s2' hj c0
      generalize gs[j].s = js at *
      generalize gs[j].x = jx at *
      generalize gs[j].er = je at *
      generalize gs[j].l.length = jn at *
      generalize gs[j].A = jA at *
      generalize gs[j].c = jc at *
      generalize gs[k].s = ks at *
      generalize gs[k].x = kx at *
      generalize gs[k].er = ke at *
      generalize gs[k].l.length = kn at *
      generalize gs[k].A = kA at *
      generalize gs[k].c = kc at *
      go_wp2
      go_cut [9, 10] (fun s3 s4 wx => ∃ b2 b3 : Nat, s3 = .pointer (some ⟨b2, 0, none⟩) ∧ s4 = .pointer (some ⟨b3, 0, none⟩) ∧ Ext wr wx ∧ (b2 < wx.heap.size ∧ b3 < wx.heap.size) ∧
        (wx.cell? ⟨b2, 0, none⟩ = some (.string js) ∧ wx.cell? ⟨b2, 1, none⟩ = some (.int .i64 jx) ∧ wx.cell? ⟨b2, 2, none⟩ = some (.int .i64 je) ∧ wx.cell? ⟨b2, 3, none⟩ = some (.slice jA jn jc)) ∧
        (wx.cell? ⟨b3, 0, none⟩ = some (.string ks) ∧ wx.cell? ⟨b3, 1, none⟩ = some (.int .i64 kx) ∧ wx.cell? ⟨b3, 2, none⟩ = some (.int .i64 ke) ∧ wx.cell? ⟨b3, 3, none⟩ = some (.slice kA kn kc)))
      case first =>
        clear hM hA hjz
        go_region_held3 (fun w' => (∀ j : Nat, w'.cell? ⟨b, j, none⟩ = wr.cell? ⟨b, j, none⟩)) ((intro j; (repeat (first | with_reducible rfl | (exact (by assumption : ∀ j : Nat, _) j) | rw [World.cell?_drew] | rw [World.cell?_alloc_past _ _ _ (by first | omega | (simp; omega) | (simp; done))] | rw [World.cell?_setCell_far _ _ _ _ (by first | omega | (simp; omega) | (simp; done))])))) (fail)
        all_goals
          rename_i hJ hK h1 h2 hH
          clear hH cj ck
          refine h2 _ _ (Met.intro (h1 _ _ ?_))
          (repeat apply Exists.intro)
          refine ⟨?_, rfl⟩
          refine ⟨_, _, rfl, rfl, ?_, ⟨?_, ?_⟩, ?_⟩
          all_goals first | ((repeat (first | with_reducible exact Ext.rfl' _ | with_reducible assumption | with_reducible refine Ext.al ?_ _ | with_reducible refine Ext.dr ?_ | with_reducible refine Ext.st ?_ (by simp) _ | with_reducible refine Ext.tr ?_ (by assumption))); done) | (simp; done) | (simp; omega) | (simp [go_sem]; done) | (simp [World.cell?_alloc_past, World.cell?_alloc_new, go_sem]; done)
      case rest =>
        obtain ⟨b2, b3, rfl, rfl, hx, ⟨hb2, hb3⟩, ⟨m0, m1, m2, m3⟩, ⟨n0, n1, n2, n3⟩⟩ := hcut
        clear cj ck hj1 hjlz
        have hEx := HX.out.1.tr hx
        have y0 := (hx.ccell _ 0 hzp).trans HX.out.2.1.1
        have y1 := (hx.ccell _ 1 hzp).trans HX.out.2.1.2
        have yf := fun o => (hx.frz _ o hzp).trans (HX.out.2.2 o)
        have hzx := hx.sz _ hzp
        have Y := Lib.hid (And.intro hEx (And.intro (show Two wc w.heap.size 0 0 from ⟨y0, y1⟩) yf))
        have HRX := Lib.hid (HRR.out.tr hx)
        clear hx hEx y0 y1 yf hE
        by_cases hki : k < i
        · have hxk := X.out.1 hki
          have hx1 : (x == kx) = false := by rw [beq_eq_false_iff_ne]; omega
          have hx2 : ¬ x ≤ kx := by omega
          go_wp2
          have hr := HRX.out
          exact ⟨⟨by (repeat (first | with_reducible exact Ext.rfl' _ | with_reducible assumption | with_reducible refine Ext.al ?_ _ | with_reducible refine Ext.dr ?_ | with_reducible refine Ext.st ?_ (by simp) _ | with_reducible refine Ext.tr ?_ (by assumption))), k + 1, by omega, by omega, by go_num⟩, by simp [intOf]; omega⟩
        by_cases hxk : kx = x
        · have v1 := V1.out hki hxk
          injection v1 with v1 v2
          injection v2 with v2 v3
          subst v1 v2 v3
          subst hxk
          obtain ⟨y0, y1⟩ := Y.out.2.1
          have yf := Y.out.2.2
          go_wp2_with (first | (go_at_call 45; with_reducible refine Calls.mono (HOB.out _ (Y.out.1.tr (by (repeat (first | with_reducible exact Ext.rfl' _ | with_reducible assumption | with_reducible refine Ext.al ?_ _ | with_reducible refine Ext.dr ?_ | with_reducible refine Ext.st ?_ (by simp) _ | with_reducible refine Ext.tr ?_ (by assumption)))))) ?_; rintro e w1 ⟨rfl, hb⟩; have hc := hb.ccell; have hf := hb.frz; have hs := hb.sz; (try simp at hs); (try have t0 := hs (w.heap.size) (by first | assumption | omega)); (try have t1 := hs (b2) (by first | assumption | omega)); (try have t2 := hs (b3) (by first | assumption | omega)); (try have t3 := hs (b) (by first | assumption | omega)); (try have t4 := hs (b) (by first | assumption | omega)); (try have t5 := hs (b) (by first | assumption | omega))))
          have hE : Ext w w1 := Y.out.1.tr (by (repeat (first | with_reducible exact Ext.rfl' _ | with_reducible assumption | with_reducible refine Ext.al ?_ _ | with_reducible refine Ext.dr ?_ | with_reducible refine Ext.st ?_ (by simp) _ | with_reducible refine Ext.tr ?_ (by assumption))))
          have kz : Two w1 w.heap.size 0 0 := ⟨(hb.ccell _ 0 hzx).trans Y.out.2.1.1, (hb.ccell _ 1 hzx).trans Y.out.2.1.2⟩
          have hS2 := Two.store (w := w1) (b := w.heap.size) kz (d0) (d1)
          have hX2 := Ext.store2 (b := w.heap.size) hE (by omega) (d0) (d1)
          show bodyPost _ _ _ _ _ (st2 w1 (w.heap.size) (d0) (d1))
          generalize st2 w1 (w.heap.size) (d0) (d1) = W6 at hS2 hX2 ⊢
          obtain ⟨s0, s1⟩ := hS2
          refine bodyPost_ret (v := .tuple #[.agg #[.int .i64 d0, .int .i64 d1], .bool d2]) (by simp [results, Try.results19, go_sem, s0, s1]) rfl ⟨rfl, hX2⟩
        · have hxl := X.out.2.1 hki
          have hx1 : (x == kx) = false := by rw [beq_eq_false_iff_ne]; omega
          have hx2 : x ≤ kx := hxl
          have v2 := V2.out hki hxk
          obtain ⟨y0, y1⟩ := Y.out.2.1
          have yf := Y.out.2.2
          obtain ⟨x3, oj, ok, ⟨⟨p1, p2⟩, p3, p4⟩, ⟨q1, q2⟩, q3, q4⟩ := X.out.2.2
          have hKJ : 0 < kx - jx := by omega
          have HYE := Lib.hid (fun w' (hw : Ext wc w') => Y.out.1.tr hw)
          cases a2
          · rw [Bool.false_and] at v2
            injection v2 with v1 v2
            injection v2 with v2 v3
            subst v1 v2 v3
            go_wp2_with (first | (go_at_call 45; with_reducible refine Calls.mono (HOA.out _ (HYE.out _ (by (repeat (first | with_reducible exact Ext.rfl' _ | with_reducible assumption | with_reducible refine Ext.al ?_ _ | with_reducible refine Ext.dr ?_ | with_reducible refine Ext.st ?_ (by simp) _ | with_reducible refine Ext.tr ?_ (by assumption)))))) ?_; rintro e w1 ⟨rfl, hb⟩; have hc := hb.ccell; have hf := hb.frz; have hs := hb.sz; (try simp at hs); (try have t0 := hs (w.heap.size) (by first | assumption | omega)); (try have t1 := hs (b2) (by first | assumption | omega)); (try have t2 := hs (b3) (by first | assumption | omega)); (try have t3 := hs (b) (by first | assumption | omega)); (try have t4 := hs (b) (by first | assumption | omega)); (try have t5 := hs (b) (by first | assumption | omega))) | (go_at_call 45; with_reducible refine Calls.mono (HOB.out _ (HYE.out _ (by (repeat (first | with_reducible exact Ext.rfl' _ | with_reducible assumption | with_reducible refine Ext.al ?_ _ | with_reducible refine Ext.dr ?_ | with_reducible refine Ext.st ?_ (by simp) _ | with_reducible refine Ext.tr ?_ (by assumption)))))) ?_; rintro e w2 ⟨rfl, hb⟩; have hc := hb.ccell; have hf := hb.frz; have hs := hb.sz; (try simp at hs); (try have t0 := hs (w.heap.size) (by first | assumption | omega)); (try have t1 := hs (b2) (by first | assumption | omega)); (try have t2 := hs (b3) (by first | assumption | omega)); (try have t3 := hs (b) (by first | assumption | omega)); (try have t4 := hs (b) (by first | assumption | omega)); (try have t5 := hs (b) (by first | assumption | omega))))
            have hE : Ext w w2 := HYE.out _ (by (repeat (first | with_reducible exact Ext.rfl' _ | with_reducible assumption | with_reducible refine Ext.al ?_ _ | with_reducible refine Ext.dr ?_ | with_reducible refine Ext.st ?_ (by simp) _ | with_reducible refine Ext.tr ?_ (by assumption))))
            have zb1 := hb2
            have kz : Two w2 w.heap.size 0 0 := by refine ⟨?_, ?_⟩ <;> simp [*, go_sem]
            have zb : w.heap.size < w2.heap.size := t0
            have hS2 := Two.alloc (Two.store (w := w2) (b := w.heap.size) kz (0) (0)) (by rw [st2_size]; exact zb) (.cells #[.int .i64 d0, .int .i64 d1] 48)
            have hX2 := Ext.al (Ext.store2 (b := w.heap.size) hE (by omega) (0) (0)) (.cells #[.int .i64 d0, .int .i64 d1] 48)
            show bodyPost _ _ _ _ _ ((st2 w2 (w.heap.size) (0) (0)).alloc (.cells #[.int .i64 d0, .int .i64 d1] 48))
            generalize (st2 w2 (w.heap.size) (0) (0)).alloc (.cells #[.int .i64 d0, .int .i64 d1] 48) = W6 at hS2 hX2 ⊢
            obtain ⟨s0, s1⟩ := hS2
            refine bodyPost_ret (v := .tuple #[.agg #[.int .i64 0, .int .i64 0], .bool false]) (by simp [results, Try.results19, go_sem, s0, s1]) rfl ⟨rfl, hX2⟩
          cases d2
          · rw [Bool.and_false] at v2
            injection v2 with v1 v2
            injection v2 with v2 v3
            subst v1 v2 v3
            go_wp2_with (first | (go_at_call 45; with_reducible refine Calls.mono (HOA.out _ (HYE.out _ (by (repeat (first | with_reducible exact Ext.rfl' _ | with_reducible assumption | with_reducible refine Ext.al ?_ _ | with_reducible refine Ext.dr ?_ | with_reducible refine Ext.st ?_ (by simp) _ | with_reducible refine Ext.tr ?_ (by assumption)))))) ?_; rintro e w1 ⟨rfl, hb⟩; have hc := hb.ccell; have hf := hb.frz; have hs := hb.sz; (try simp at hs); (try have t0 := hs (w.heap.size) (by first | assumption | omega)); (try have t1 := hs (b2) (by first | assumption | omega)); (try have t2 := hs (b3) (by first | assumption | omega)); (try have t3 := hs (b) (by first | assumption | omega)); (try have t4 := hs (b) (by first | assumption | omega)); (try have t5 := hs (b) (by first | assumption | omega))) | (go_at_call 45; with_reducible refine Calls.mono (HOB.out _ (HYE.out _ (by (repeat (first | with_reducible exact Ext.rfl' _ | with_reducible assumption | with_reducible refine Ext.al ?_ _ | with_reducible refine Ext.dr ?_ | with_reducible refine Ext.st ?_ (by simp) _ | with_reducible refine Ext.tr ?_ (by assumption)))))) ?_; rintro e w2 ⟨rfl, hb⟩; have hc := hb.ccell; have hf := hb.frz; have hs := hb.sz; (try simp at hs); (try have t0 := hs (w.heap.size) (by first | assumption | omega)); (try have t1 := hs (b2) (by first | assumption | omega)); (try have t2 := hs (b3) (by first | assumption | omega)); (try have t3 := hs (b) (by first | assumption | omega)); (try have t4 := hs (b) (by first | assumption | omega)); (try have t5 := hs (b) (by first | assumption | omega))))
            have hE : Ext w w2 := HYE.out _ (by (repeat (first | with_reducible exact Ext.rfl' _ | with_reducible assumption | with_reducible refine Ext.al ?_ _ | with_reducible refine Ext.dr ?_ | with_reducible refine Ext.st ?_ (by simp) _ | with_reducible refine Ext.tr ?_ (by assumption))))
            have zb1 := hb2
            have kz : Two w2 w.heap.size 0 0 := by refine ⟨?_, ?_⟩ <;> simp [*, go_sem]
            have zb : w.heap.size < w2.heap.size := t0
            have hS2 := Two.alloc (Two.store (w := w2) (b := w.heap.size) kz (0) (0)) (by rw [st2_size]; exact zb) (.cells #[.int .i64 d0, .int .i64 d1] 48)
            have hX2 := Ext.al (Ext.store2 (b := w.heap.size) hE (by omega) (0) (0)) (.cells #[.int .i64 d0, .int .i64 d1] 48)
            show bodyPost _ _ _ _ _ ((st2 w2 (w.heap.size) (0) (0)).alloc (.cells #[.int .i64 d0, .int .i64 d1] 48))
            generalize (st2 w2 (w.heap.size) (0) (0)).alloc (.cells #[.int .i64 d0, .int .i64 d1] 48) = W6 at hS2 hX2 ⊢
            obtain ⟨s0, s1⟩ := hS2
            refine bodyPost_ret (v := .tuple #[.agg #[.int .i64 0, .int .i64 0], .bool false]) (by simp [results, Try.results19, go_sem, s0, s1]) rfl ⟨rfl, hX2⟩
          · rw [Bool.and_self, if_pos rfl, if_pos rfl] at v2
            injection v2 with v1 v2
            injection v2 with v2 v3
            subst v3
            have VV := Lib.hid (And.intro v1 v2)
            clear v1 v2
            go_wp2_with (first | (go_at_call 45; with_reducible refine Calls.mono (HOA.out _ (HYE.out _ (by (repeat (first | with_reducible exact Ext.rfl' _ | with_reducible assumption | with_reducible refine Ext.al ?_ _ | with_reducible refine Ext.dr ?_ | with_reducible refine Ext.st ?_ (by simp) _ | with_reducible refine Ext.tr ?_ (by assumption)))))) ?_; rintro e w1 ⟨rfl, hb⟩; have hc := hb.ccell; have hf := hb.frz; have hs := hb.sz; (try simp at hs); (try have t0 := hs (w.heap.size) (by first | assumption | omega)); (try have t1 := hs (b2) (by first | assumption | omega)); (try have t2 := hs (b3) (by first | assumption | omega)); (try have t3 := hs (b) (by first | assumption | omega)); (try have t4 := hs (b) (by first | assumption | omega)); (try have t5 := hs (b) (by first | assumption | omega))) | (go_at_call 45; with_reducible refine Calls.mono (HOB.out _ (HYE.out _ (by (repeat (first | with_reducible exact Ext.rfl' _ | with_reducible assumption | with_reducible refine Ext.al ?_ _ | with_reducible refine Ext.dr ?_ | with_reducible refine Ext.st ?_ (by simp) _ | with_reducible refine Ext.tr ?_ (by assumption)))))) ?_; rintro e w2 ⟨rfl, hb⟩; have hc := hb.ccell; have hf := hb.frz; have hs := hb.sz; (try simp at hs); (try have t0 := hs (w.heap.size) (by first | assumption | omega)); (try have t1 := hs (b2) (by first | assumption | omega)); (try have t2 := hs (b3) (by first | assumption | omega)); (try have t3 := hs (b) (by first | assumption | omega)); (try have t4 := hs (b) (by first | assumption | omega)); (try have t5 := hs (b) (by first | assumption | omega))))
            refine wp_name (fun W hW => ?_)
            have zb : w.heap.size < w2.heap.size := t0
            have hE : Ext w W := by rw [hW]; exact HYE.out _ (by (repeat (first | with_reducible exact Ext.rfl' _ | with_reducible assumption | with_reducible refine Ext.al ?_ _ | with_reducible refine Ext.dr ?_ | with_reducible refine Ext.st ?_ (by simp) _ | with_reducible refine Ext.tr ?_ (by assumption))))
            have kz : Two W w.heap.size 0 0 := by rw [hW]; refine ⟨?_, ?_⟩ <;> simp [*, go_sem]
            have fz : ∀ o, W.frozen? ⟨w.heap.size, o, none⟩ = false := by intro o; rw [hW]; simp [*, go_sem]
            have zw : w.heap.size < W.heap.size := by rw [hW]; simp; omega
            have z1 : w1.heap.size < W.heap.size := by rw [hW]; simp; have := hs w1.heap.size (by omega); omega
            have z2 : w2.heap.size < W.heap.size := by rw [hW]; simp
            have z3 : b2 < W.heap.size := by rw [hW]; simp; omega
            have z4 : b3 < W.heap.size := by rw [hW]; simp; omega
            have z5 := hs w1.heap.size (by omega)
            have C1 : W.cell? ⟨w1.heap.size, 0, none⟩ = some (.int .i64 a0) := by rw [hW]; simp [*, go_sem]
            have C2 : W.cell? ⟨w1.heap.size, 1, none⟩ = some (.int .i64 a1) := by rw [hW]; simp [*, go_sem]
            have C3 : W.cell? ⟨w2.heap.size, 0, none⟩ = some (.int .i64 d0) := by rw [hW]; simp [go_sem]
            have C4 : W.cell? ⟨w2.heap.size, 1, none⟩ = some (.int .i64 d1) := by rw [hW]; simp [go_sem]
            have C5 : W.cell? ⟨b2, 1, none⟩ = some (.int .i64 jx) := by rw [hW]; simp [*, go_sem]
            have C6 : W.cell? ⟨b3, 1, none⟩ = some (.int .i64 kx) := by rw [hW]; simp [*, go_sem]
            have HZ := Lib.hid (And.intro hE (And.intro kz (And.intro fz zw)))
            clear hE kz fz hW
            obtain ⟨u0, u1⟩ := prod_bd (v := a0) (d := kx - x) (by omega) (by omega)
            obtain ⟨u2, u3⟩ := prod_bd (v := d0) (d := x - jx) (by omega) (by omega)
            obtain ⟨u4, u5⟩ := prod_bd (v := a1) (d := kx - x) (by omega) (by omega)
            obtain ⟨u6, u7⟩ := prod_bd (v := d1) (d := x - jx) (by omega) (by omega)
            have g1 := quot_bd (n := a0 * (kx - x) + d0 * (x - jx)) (M := 2000000000000) hKJ (by omega) (by omega)
            have g2 := quot_bd (n := -(a1 * (kx - x) + d1 * (x - jx))) (M := 2000000000000) hKJ (by omega) (by omega)
            have HDN := Lib.hid (fun w => down_c (a0 * (kx - x) + d0 * (x - jx)) (kx - jx) w hKJ (by omega) (by omega) (by omega))
            have HUP := Lib.hid (fun w => up_c (a1 * (kx - x) + d1 * (x - jx)) (kx - jx) w hKJ (by omega) (by omega) (by omega) (by omega) (by omega))
            have VV := VV.out
            unfold sumZ at VV
            generalize (a0 * (kx - x) + d0 * (x - jx)) / (kx - jx) = q0 at *
            generalize -((-(a1 * (kx - x) + d1 * (x - jx))) / (kx - jx)) = q1 at *
            obtain ⟨vv1, vv2⟩ := VV
            subst vv1 vv2
            clear g1 g2
            refine region_grow_tail 35 (by kernel_rfl) (by kernel_rfl) ?_
            simp only [List.take_succ_cons, List.take_zero, List.drop_succ_cons, List.drop_zero]
            repeat (first | go_big_quiet_step (first | (go_at_call 46; exact callsStay (HDN.out _)) | (go_at_call 47; exact callsStay (HUP.out _)) | fail) | quiet_step (first | (go_at_call 46; exact callsStay (HDN.out _)) | (go_at_call 47; exact callsStay (HUP.out _)) | fail))
            refine wpQuiet_nil ?_
            intro w1 hb
            have hc := hb.ccell
            have hf := hb.frz
            have hs := hb.sz
            (try simp at hs); (try have hs0 := hs w.heap.size (by omega)); (try have hs1 := hs (w.heap.size + 1) (by omega)); (try have hs2 := hs (w.heap.size + 1 + 1) (by omega)); (try have hs3 := hs (w.heap.size + 1 + 1 + 1) (by omega))
            have hz := HZ.out.2.2.2
            have kz : Two w1 w.heap.size 0 0 := ⟨(hb.ccell _ 0 hz).trans HZ.out.2.1.1, (hb.ccell _ 1 hz).trans HZ.out.2.1.2⟩
            have fz := fun o => (hb.frz _ o hz).trans (HZ.out.2.2.1 o)
            have hE := HZ.out.1.tr hb
            have KZ := Lib.hid kz
            obtain ⟨y0, y1⟩ := kz
            clear hc hf hs
            go_wp2
            have hS2 := Two.store (w := w1) (b := w.heap.size) KZ.out (q0) (q1)
            have hX2 := Ext.store2 (b := w.heap.size) hE (by omega) (q0) (q1)
            show bodyPost _ _ _ _ _ (st2 w1 (w.heap.size) (q0) (q1))
            generalize st2 w1 (w.heap.size) (q0) (q1) = W6 at hS2 hX2 ⊢
            obtain ⟨s0, s1⟩ := hS2
            refine bodyPost_ret (v := .tuple #[.agg #[.int .i64 q0, .int .i64 q1], .bool true]) (by simp [results, Try.results19, go_sem, s0, s1]) rfl ⟨rfl, hX2⟩
    · have hkl : k = gs.length := by omega
      have hie : i = gs.length := by omega
      have hlz : (gs.length : Int) - 1 = (j : Int) := by omega
      have HO := Lib.hid (fun w' (hw : Ext w w') => rat_one gs t j (P j) hjl w' (HGL.out.ok j hjl) ht (hM.ext hw) (HPA.out j hjl))
      have v1 : oneV (gg gs j) t (P j) = (r0, r1, r2) := by
        rw [← HR.out]
        unfold plV
        rw [if_neg h0, if_neg (by unfold foundG; rw [decide_eq_false (show ¬ i < gs.length by omega), decide_eq_false (show ¬ i = 0 by omega)]; simp), if_pos hie, show i - 1 = j by omega]
      rw [v1] at HO
      dsimp only at HO
      have HJ := Lib.hid (And.intro hj (And.intro hkl hie))
      obtain ⟨y0, y1⟩ := HX.out.2.1
      have yf := HX.out.2.2
      clear hj hkl hie v1 gj hj1 hjz
      go_wp2_with (first | (go_at_call 45; with_reducible refine Calls.mono (HO.out _ (HX.out.1.tr (by (repeat (first | with_reducible exact Ext.rfl' _ | with_reducible assumption | with_reducible refine Ext.al ?_ _ | with_reducible refine Ext.dr ?_ | with_reducible refine Ext.st ?_ (by simp) _ | with_reducible refine Ext.tr ?_ (by assumption)))))) ?_; rintro e w1 ⟨rfl, hb⟩; have hc := hb.ccell; have hf := hb.frz; have hs := hb.sz; (try simp at hs); (try have t0 := hs (w.heap.size) (by first | assumption | omega)); (try have t1 := hs (b) (by first | assumption | omega)); (try have t2 := hs (b) (by first | assumption | omega)); (try have t3 := hs (b) (by first | assumption | omega)); (try have t4 := hs (b) (by first | assumption | omega)); (try have t5 := hs (b) (by first | assumption | omega))))
      have hE := HX.out.1.tr hb
      have kz : Two w1 w.heap.size 0 0 := ⟨(hb.ccell _ 0 hzp).trans y0, (hb.ccell _ 1 hzp).trans y1⟩
      have hS2 := Two.store (w := w1) (b := w.heap.size) kz (r0) (r1)
      have hX2 := Ext.store2 (b := w.heap.size) hE (by omega) (r0) (r1)
      show bodyPost _ _ _ _ _ (st2 w1 (w.heap.size) (r0) (r1))
      generalize st2 w1 (w.heap.size) (r0) (r1) = W6 at hS2 hX2 ⊢
      obtain ⟨s0, s1⟩ := hS2
      refine bodyPost_ret (v := .tuple #[.agg #[.int .i64 r0, .int .i64 r1], .bool r2]) (by simp [results, Try.results19, go_sem, s0, s1]) rfl ⟨rfl, hX2⟩
end Go.Proofs.Ytmhmfjgahhgbpaa
