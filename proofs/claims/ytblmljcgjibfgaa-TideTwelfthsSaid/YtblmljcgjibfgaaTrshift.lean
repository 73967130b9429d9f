/- The contract of the reference's Shift. -/
import Derived.Test.YtblmljcgjibfgaaTshift
namespace Go.Proofs.Ytblmljcgjibfgaa
open Go Go.RowKit Go.IntWalk Go.Shelf

theorem rwith_c (s : ByteArray) (x er : Int) (A A' : Option Addr) (n c n' c' : Nat) (w : World) :
    Calls Try.prog 89 #[.agg #[.string s, .int .i64 x, .int .i64 er, .slice A n c], .slice A' n' c'] w fun e w' => e = .returned (.agg #[.string s, .int .i64 x, .int .i64 er, .slice A' n' c']) ∧ Ext w w' := by
  go_enter Try.func89, Try.ntmps89
  go_wp2
  refine bodyPost_ret (v := .agg #[.string s, .int .i64 x, .int .i64 er, .slice A' n' c']) (by simp [results, Try.results89, go_sem]) rfl ⟨rfl, ?_⟩
  (repeat (first | with_reducible exact Ext.rfl' _ | with_reducible assumption | with_reducible refine Ext.al ?_ _ | with_reducible refine Ext.dr ?_ | with_reducible refine Ext.st ?_ (by simp) _ | with_reducible refine Ext.tr ?_ (by assumption)))
theorem ownsRow_ext {B e size n : Nat} {v : Value} {xs : List Value} {w w' : World} (h : w.ownsRow B e size v n xs) (hw : Ext w w') : w'.ownsRow B e size v n xs :=
  World.ownsRow.kept (row := none) h ⟨hw.os, hw.tape, hw.output, hw.size, fun k hk _ => hw.block k hk⟩ (by cases hv : v.ownBlock <;> simp)
theorem two_new (w : World) (x y : Value) (t : TypeId) : ∀ j u, [x, y][j]? = some u → (w.alloc (.cells #[x, y] t)).cell? ((⟨w.heap.size, 0, none⟩ : Addr).add j) = some u := by
  intro j u hu
  match j with
  | 0 => simpa [Addr.add, go_sem] using hu
  | 1 => simpa [Addr.add, go_sem] using hu
  | j + 2 => simp at hu
theorem own_cases {w : World} {base : Nat} {v : Value} {L : List Pt} (h : w.ownsRow base 89 2 v L.length (L.flatMap encP)) :
    ∃ A' c', v = .slice A' L.length c' ∧ (L = [] ∨ ∃ g, A' = some ⟨g, 0, none⟩ ∧ base ≤ g ∧ Own w g c' L) := by
  rcases h.2 with ⟨h', h''⟩ | ⟨g', cap', cur, h', hb, hg, hnc, hcm, hcs, htake⟩
  · have hn : L = [] := by
      cases L with
      | nil => rfl
      | cons p L => simp at h''
    subst hn
    exact ⟨none, 0, h', .inl rfl⟩
  · exact ⟨_, _, h', .inr ⟨g', rfl, hb, ⟨cur, hg, hcs, hnc, hcm, htake⟩⟩⟩
theorem shift_take (by_ : Int) (l : List Pt) (k : Nat) (hk : k < l.length) : shiftL by_ (l.take (k + 1)) = shiftL by_ (l.take k) ++ [⟨l[k].x, l[k].y + by_⟩] := by
  unfold shiftL
  rw [List.take_succ_eq_append_getElem hk, List.map_append]; rfl
set_option maxHeartbeats 4000000 in
theorem rshift_c (s : ByteArray) (x er : Int) (l : List Pt) (by_ : Int) (w : World) (A : Option Addr) (c : Nat) (hl : l.length ≤ 1000) (hA : Row 2 encP w A l) :
    Calls Try.prog 47 #[.agg #[.string s, .int .i64 x, .int .i64 er, .slice A l.length c], .int .i64 by_] w
      fun e w' => GaOut s x er (shiftL by_ l) (shE s x er l by_) e w' ∧ Ext w w' := by
  have HC := Lib.hid (fun w' (hw : Ext w w') => rcheckGauge_c s x er l w' A c hl (hA.ext hw))
  unfold shE
  by_cases h0 : gaugeE s x er l = 0
  case neg =>
    rw [if_pos h0]
    generalize gaugeE s x er l = r at *
    have h' : (r == 0) = false := by simp [h0]
    go_enter Try.func47, Try.ntmps47
    go_wp2_with (first | (go_at_call 18; with_reducible refine Calls.mono (HC.out _ (by (repeat (first | with_reducible exact Ext.rfl' _ | with_reducible assumption | with_reducible refine Ext.al ?_ _ | with_reducible refine Ext.dr ?_ | with_reducible refine Ext.st ?_ (by simp) _ | with_reducible refine Ext.tr ?_ (by assumption))))) ?_; rintro e w1 ⟨rfl, hb⟩; have hc := hb.ccell; have hf := hb.frz; have hs := hb.sz; (try simp at hs); (try have hs0 := hs w.heap.size (by omega)); (try have hs1 := hs (w.heap.size + 1) (by omega)); (try have hs2 := hs (w.heap.size + 1 + 1) (by omega)); (try have hs3 := hs (w.heap.size + 1 + 1 + 1) (by omega))))
    have hE : Ext w w1 := by (repeat (first | with_reducible exact Ext.rfl' _ | with_reducible assumption | with_reducible refine Ext.al ?_ _ | with_reducible refine Ext.dr ?_ | with_reducible refine Ext.st ?_ (by simp) _ | with_reducible refine Ext.tr ?_ (by assumption)))
    have kz : Fo w1 (w.heap.size + 1) (.string ⟨#[]⟩) (.int .i64 0) (.int .i64 0) (.slice none 0 0) := by refine ⟨?_, ?_, ?_, ?_⟩ <;> simp [*, go_sem]
    have hS4 := Fo.store (w := w1) (b := w.heap.size + 1) kz (.string ⟨#[]⟩) (.int .i64 0) (.int .i64 0) (.slice none 0 0)
    have hX4 := Ext.store4 (b := w.heap.size + 1) hE (by omega) (.string ⟨#[]⟩) (.int .i64 0) (.int .i64 0) (.slice none 0 0)
    show bodyPost _ _ _ _ _ (st4 w1 (w.heap.size + 1) (.string ⟨#[]⟩) (.int .i64 0) (.int .i64 0) (.slice none 0 0))
    generalize st4 w1 (w.heap.size + 1) (.string ⟨#[]⟩) (.int .i64 0) (.int .i64 0) (.slice none 0 0) = W6 at hS4 hX4 ⊢
    obtain ⟨s0, s1, s2, s3⟩ := hS4
    refine bodyPost_ret (v := .tuple #[.agg #[.string ⟨#[]⟩, .int .i64 0, .int .i64 0, .slice none 0 0], .int .i64 r]) (by simp [results, Try.results47, go_sem, s0, s1, s2, s3]) rfl ⟨.inr ⟨h0, rfl⟩, hX4⟩
  rw [if_neg (by rw [h0]; simp)]
  rw [h0] at HC
  obtain ⟨_, _, he, hG⟩ := gaugeE_zero h0
  have HW := Lib.hid (fun w => inside_c by_ (-40000) 40000 w)
  cases hw : withinB by_ (-40000) 40000
  · rw [hw] at HW
    rw [if_pos rfl]
    go_enter Try.func47, Try.ntmps47
    go_wp2_with (first | (go_at_call 18; with_reducible refine Calls.mono (HC.out _ (by (repeat (first | with_reducible exact Ext.rfl' _ | with_reducible assumption | with_reducible refine Ext.al ?_ _ | with_reducible refine Ext.dr ?_ | with_reducible refine Ext.st ?_ (by simp) _ | with_reducible refine Ext.tr ?_ (by assumption))))) ?_; rintro e w1 ⟨rfl, hb⟩; have hc := hb.ccell; have hf := hb.frz; have hs := hb.sz; (try simp at hs); (try have hs0 := hs w.heap.size (by omega)); (try have hs1 := hs (w.heap.size + 1) (by omega)); (try have hs2 := hs (w.heap.size + 1 + 1) (by omega)); (try have hs3 := hs (w.heap.size + 1 + 1 + 1) (by omega))) | (go_at_call 73; with_reducible refine Calls.mono (HW.out _) ?_; rintro e w' ⟨rfl, rfl⟩))
    have hE : Ext w w1 := by (repeat (first | with_reducible exact Ext.rfl' _ | with_reducible assumption | with_reducible refine Ext.al ?_ _ | with_reducible refine Ext.dr ?_ | with_reducible refine Ext.st ?_ (by simp) _ | with_reducible refine Ext.tr ?_ (by assumption)))
    have kz : Fo w1 (w.heap.size + 1) (.string ⟨#[]⟩) (.int .i64 0) (.int .i64 0) (.slice none 0 0) := by refine ⟨?_, ?_, ?_, ?_⟩ <;> simp [*, go_sem]
    have hS4 := Fo.store (w := w1) (b := w.heap.size + 1) kz (.string ⟨#[]⟩) (.int .i64 0) (.int .i64 0) (.slice none 0 0)
    have hX4 := Ext.store4 (b := w.heap.size + 1) hE (by omega) (.string ⟨#[]⟩) (.int .i64 0) (.int .i64 0) (.slice none 0 0)
    show bodyPost _ _ _ _ _ (st4 w1 (w.heap.size + 1) (.string ⟨#[]⟩) (.int .i64 0) (.int .i64 0) (.slice none 0 0))
    generalize st4 w1 (w.heap.size + 1) (.string ⟨#[]⟩) (.int .i64 0) (.int .i64 0) (.slice none 0 0) = W6 at hS4 hX4 ⊢
    obtain ⟨s0, s1, s2, s3⟩ := hS4
    refine bodyPost_ret (v := .tuple #[.agg #[.string ⟨#[]⟩, .int .i64 0, .int .i64 0, .slice none 0 0], .int .i64 2]) (by simp [results, Try.results47, go_sem, s0, s1, s2, s3]) rfl ⟨.inr ⟨by decide, rfl⟩, hX4⟩
  rw [hw] at HW
  rw [if_neg (by decide)]
  obtain ⟨Z, hZ⟩ : ∃ Z : Int, (if shBad by_ l then 2 else 0) = Z := ⟨_, rfl⟩
  rw [hZ]
  have HZ := Lib.hid hZ
  clear hZ h0
  have hby : -40000 ≤ by_ ∧ by_ ≤ 40000 := by unfold withinB at hw; simpa using hw
  obtain ⟨y1, y2⟩ := hby
  clear hw
  have HRC := Lib.hid (fun w A' c' => rwith_c s x er A A' l.length c l.length c' w)
  go_enter Try.func47, Try.ntmps47
  go_wp2_with (first | (go_at_call 18; with_reducible refine Calls.mono (HC.out _ (by (repeat (first | with_reducible exact Ext.rfl' _ | with_reducible assumption | with_reducible refine Ext.al ?_ _ | with_reducible refine Ext.dr ?_ | with_reducible refine Ext.st ?_ (by simp) _ | with_reducible refine Ext.tr ?_ (by assumption))))) ?_; rintro e w1 ⟨rfl, hb⟩; have hc := hb.ccell; have hf := hb.frz; have hs := hb.sz; (try simp at hs); (try have hs0 := hs w.heap.size (by omega)); (try have hs1 := hs (w.heap.size + 1) (by omega)); (try have hs2 := hs (w.heap.size + 1 + 1) (by omega)); (try have hs3 := hs (w.heap.size + 1 + 1 + 1) (by omega))) | (go_at_call 73; with_reducible refine Calls.mono (HW.out _) ?_; rintro e w' ⟨rfl, rfl⟩))
  have hE1 : Ext w w1 := by (repeat (first | with_reducible exact Ext.rfl' _ | with_reducible assumption | with_reducible refine Ext.al ?_ _ | with_reducible refine Ext.dr ?_ | with_reducible refine Ext.st ?_ (by simp) _ | with_reducible refine Ext.tr ?_ (by assumption)))
  have kz : Fo w1 (w.heap.size + 1) (.string ⟨#[]⟩) (.int .i64 0) (.int .i64 0) (.slice none 0 0) := by refine ⟨?_, ?_, ?_, ?_⟩ <;> simp [*, go_sem]
  have gz : Fo w1 w.heap.size (.string s) (.int .i64 x) (.int .i64 er) (.slice A l.length c) := by refine ⟨?_, ?_, ?_, ?_⟩ <;> simp [*, go_sem]
  have fz : ∀ o, w1.frozen? ⟨w.heap.size + 1, o, none⟩ = false := by intro o; simp [*, go_sem]
  have HK := Lib.hid (And.intro hE1 (And.intro kz (And.intro gz (And.intro fz hs1))))
  clear kz gz fz hc hf hs hs0 hb HC HW
  go_loopw [7, 8, 9] (fun vl v _ wr => Ext w1 wr ∧ ∃ k : Nat, k ≤ l.length ∧ v = .int .i64 k ∧ Hid (anyN (fun k => !okM (sh by_ (gt l k))) k = false) ∧ Hid (wr.ownsRow w1.heap.size 89 2 vl k ((shiftL by_ (l.take k)).flatMap encP))) (fun _ v _ _ => l.length - (intOf v).toNat)
  case atStart => exact ⟨Ext.rfl' _, 0, Nat.zero_le _, rfl, rfl, World.ownsRow_nil _ _ _ _⟩
  case round =>
    obtain ⟨hE, k, hk, rfl, hN, hO⟩ := hrel
    have hEw : Ext w wr := hE1.tr hE
    have hz0 : w.heap.size < w1.heap.size := by omega
    obtain ⟨g0, g1, g2, g3⟩ := Fo.all (HK.out.2.2.1.ext hE hz0)
    have hzr := hE.sz _ hz0
    by_cases hlt : k < l.length
    · obtain ⟨b, off, rfl, hb0, hcell⟩ := hA.p2 hlt
      have hc := hcell _ hEw
      clear hcell
      have hzb := hEw.sz _ hb0
      obtain ⟨c1, c2⟩ := hc
      have hgk := gt_lt l k hlt
      have hok := (okM_iff _).1 (hG.ok k hlt)
      rw [hgk] at hok
      obtain ⟨_, o3, o4⟩ := hok
      have hst := shift_take by_ l k hlt
      have HI := Lib.hid (fun r (h : okM (sh by_ (gt l k)) = r) w => checkMark_c l[k].x (l[k].y + by_) r (by rw [hgk] at h; exact h) w)
      have HST := Lib.hid hst
      have hkz : (k : Int) < (l.length : Int) := by omega
      clear hst hgk
      generalize l[k].x = px at *
      generalize l[k].y = py at *
      have hpy : IntKind.i64.wrap (py + by_) = py + by_ := i64_in _ (by omega)
      go_wp2
      go_cut [9] (fun s9 wx => ∃ b2 : Nat, s9 = .pointer (some ⟨b2, 0, none⟩) ∧ Ext wr wx ∧ b2 < wx.heap.size ∧ wr.heap.size ≤ b2 ∧ wx.cell? ⟨b2, 0, none⟩ = some (.int .i64 px) ∧ wx.cell? ⟨b2, 1, none⟩ = some (.int .i64 (py + by_)))
      case first =>
        clear hA g0 g1 g2
        go_region_held3 (fun w' => (∀ j : Nat, w'.cell? ⟨b, j, none⟩ = wr.cell? ⟨b, j, none⟩) ∧ (∀ j : Nat, w'.cell? ⟨w.heap.size, j, none⟩ = wr.cell? ⟨w.heap.size, j, none⟩)) ((refine ⟨?_, ?_⟩ <;> (intro j; (repeat (first | with_reducible rfl | (exact (by assumption : (∀ j : Nat, _) ∧ (∀ j : Nat, _)).1 j) | (exact (by assumption : (∀ j : Nat, _) ∧ (∀ j : Nat, _)).2 j) | rw [World.cell?_drew] | rw [World.cell?_alloc_past _ _ _ (by first | omega | (simp; omega) | (simp; done))] | rw [World.cell?_setCell_far _ _ _ _ (by first | omega | (simp; omega) | (simp; done))]))))) (fail)
        all_goals
          rename_i hJ hK h1 h2 hH
          clear hH
          refine h2 _ _ (Met.intro (h1 _ _ ?_))
          (repeat apply Exists.intro)
          refine ⟨?_, rfl⟩
          refine ⟨_, rfl, ?_, ?_, ?_, ?_, ?_⟩
          all_goals first | ((repeat (first | with_reducible exact Ext.rfl' _ | with_reducible assumption | with_reducible refine Ext.al ?_ _ | with_reducible refine Ext.dr ?_ | with_reducible refine Ext.st ?_ (by simp) _ | with_reducible refine Ext.tr ?_ (by assumption))); done) | (simp; done) | (simp; omega) | (simp [go_sem]; done) | (simp [World.cell?_alloc_past, World.cell?_alloc_new, go_sem]; done)
      case rest =>
        obtain ⟨b2, rfl, hx, hb2, hb2', m0, m1⟩ := hcut
        have hX2 : Ext w1 wc := hE.tr hx
        have HO2 := Lib.hid (ownsRow_ext hO.out hx)
        clear g0 g1 g2 g3 c1 c2 hpy
        cases hq : okM (sh by_ (gt l k))
        · have HI2 := Lib.hid (HI.out false hq)
          have HQ := Lib.hid hq
          clear hq HI
          go_wp2_with (first | (go_at_call 88; with_reducible refine Calls.mono (HI2.out _) ?_; rintro e w3 ⟨rfl, hb⟩; have hX3 : Ext w1 w3 := hX2.tr hb; obtain ⟨q0, q1, q2, q3⟩ := Fo.all (HK.out.2.1.ext hX3 hs1); have yf := fun o => (hX3.frz _ o hs1).trans (HK.out.2.2.2.1 o); have KZ := Lib.hid (HK.out.2.1.ext hX3 hs1)))
          have hZ2 : Z = 2 := by rw [← HZ.out, if_pos (show shBad by_ l = true from anyN_at (fun k => !okM (sh by_ (gt l k))) hlt (by rw [HQ.out]; rfl))]
          subst hZ2
          have hE3 : Ext w w3 := hE1.tr hX3
          have kz := KZ.out
          have hS4 := Fo.store (w := w3) (b := w.heap.size + 1) kz (.string ⟨#[]⟩) (.int .i64 0) (.int .i64 0) (.slice none 0 0)
          have hX4 := Ext.store4 (b := w.heap.size + 1) hE3 (by omega) (.string ⟨#[]⟩) (.int .i64 0) (.int .i64 0) (.slice none 0 0)
          show bodyPost _ _ _ _ _ (st4 w3 (w.heap.size + 1) (.string ⟨#[]⟩) (.int .i64 0) (.int .i64 0) (.slice none 0 0))
          generalize st4 w3 (w.heap.size + 1) (.string ⟨#[]⟩) (.int .i64 0) (.int .i64 0) (.slice none 0 0) = W6 at hS4 hX4 ⊢
          obtain ⟨s0, s1, s2, s3⟩ := hS4
          refine bodyPost_ret (v := .tuple #[.agg #[.string ⟨#[]⟩, .int .i64 0, .int .i64 0, .slice none 0 0], .int .i64 2]) (by simp [results, Try.results47, go_sem, s0, s1, s2, s3]) rfl ⟨.inr ⟨by decide, rfl⟩, hX4⟩
        · have HI2 := Lib.hid (HI.out true hq)
          have HQ := Lib.hid hq
          clear hq HI hO
          obtain ⟨i0, hi, hzi0, hzi1, hzi2⟩ := info_parts infoM
          go_wp2_with (first | (go_at_call 88; with_reducible refine Calls.mono (HI2.out _) ?_; rintro e w3 ⟨rfl, hb⟩; have hc := hb.ccell; have hf := hb.frz; have hs3 := hb.sz _ hb2; have hz13 := (hX2.tr hb).size; have HO3 := Lib.hid (ownsRow_ext HO2.out hb)) | (at_builtin; refine wpList_append_own _ rfl _ _ 22 rfl w1.heap.size 89 i0 _ 2 16 Try.underlying22 hi hzi0 hzi1 hzi2 rfl (by decide) _ _ _ rfl (World.ownsRow.alloc HO3.out _) ⟨_, 0, none⟩ 1 1 [.int .i64 px, .int .i64 (py + by_)] rfl rfl ?c1 ?c2 ?c3 ?c4 ?c5 ?_))
          case c1 => exact two_new _ _ _ _
          case c2 => intro u hu; simp at hu; rcases hu with rfl | rfl <;> rfl
          case c3 => unfold maxLen; omega
          case c4 => omega
          case c5 => simp; omega
          intro v' w4 hown4 hgrow4 _
          clear hi hzi0 hzi1 hzi2
          have hlt4 := World.ownsRow.lt HO3.out
          have hX3 : Ext w1 w3 := hX2.tr hb
          have hE4 : Ext w1 w4 := Below.grown (Ext.al hX3 _) hgrow4 (by have := hX3.size; simp; omega) (by intro q hq; exact (hlt4 q hq).1)
          go_wp2
          refine ⟨⟨hE4, k + 1, by omega, by go_num, (by show anyN _ (k + 1) = false; rw [anyN, hN.out, HQ.out]; rfl), ?_⟩, by simp [intOf]; omega⟩
          show w4.ownsRow _ _ _ _ _ _
          rw [HST.out, List.flatMap_append]
          exact hown4
    · have hkl : k = l.length := by omega
      subst hkl
      have hZ0 : Z = 0 := by rw [← HZ.out, if_neg (show ¬ shBad by_ l = true by rw [show shBad by_ l = false from hN.out]; decide)]
      subst hZ0
      obtain ⟨q0, q1, q2, q3⟩ := Fo.all (HK.out.2.1.ext hE hs1)
      have yf := fun o => (hE.frz _ o hs1).trans (HK.out.2.2.2.1 o)
      have z1 := hE.sz _ hs1
      have KZ := Lib.hid (HK.out.2.1.ext hE hs1)
      have hO2 := hO.out
      rw [List.take_length] at hO2
      have hln : (shiftL by_ l).length = l.length := by simp [shiftL]
      obtain ⟨A', c', hv, hO3⟩ := own_cases (by rw [hln]; exact hO2)
      rw [hln] at hv
      subst hv
      have HO := Lib.hid hO3
      clear hO hO2 hO3 hN
      obtain ⟨g0, g1, g2, g3⟩ := Fo.all (HK.out.2.2.1.ext hE hz0)
      go_wp2_with (first | (go_at_call 89; with_reducible refine Calls.mono (HRC.out _ _ _) ?_; rintro e w3 ⟨rfl, hb⟩; have hc := hb.ccell; have hf := hb.frz))
      have hE3 : Ext w w3 := hEw.tr hb
      have kz := KZ.out.ext hb z1
      have hR4 : Row 2 encP (st4 w3 (w.heap.size + 1) (.string s) (.int .i64 x) (.int .i64 er) (.slice A' l.length c')) A' (shiftL by_ l) := by
        rcases HO.out with h | ⟨g, rfl, hg, ho⟩
        · left; exact h
        · exact ((ho.ext hb).st4 (by omega) _ _ _ _).row
      have hS4 := Fo.store (w := w3) (b := w.heap.size + 1) kz (.string s) (.int .i64 x) (.int .i64 er) (.slice A' l.length c')
      have hX4 := Ext.store4 (b := w.heap.size + 1) hE3 (by omega) (.string s) (.int .i64 x) (.int .i64 er) (.slice A' l.length c')
      show bodyPost _ _ _ _ _ (st4 w3 (w.heap.size + 1) (.string s) (.int .i64 x) (.int .i64 er) (.slice A' l.length c'))
      generalize st4 w3 (w.heap.size + 1) (.string s) (.int .i64 x) (.int .i64 er) (.slice A' l.length c') = W6 at hS4 hX4 hR4 ⊢
      obtain ⟨s0, s1, s2, s3⟩ := hS4
      refine bodyPost_ret (v := .tuple #[.agg #[.string s, .int .i64 x, .int .i64 er, .slice A' l.length c'], .int .i64 0]) (by simp [results, Try.results47, go_sem, s0, s1, s2, s3]) rfl ⟨.inl ⟨rfl, A', c', by rw [hln], hR4⟩, hX4⟩
end Go.Proofs.Ytblmljcgjibfgaa
