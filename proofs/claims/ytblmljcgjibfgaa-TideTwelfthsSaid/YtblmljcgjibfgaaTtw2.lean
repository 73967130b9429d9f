/- The contract of Twelfths. -/
import Derived.Test.YtblmljcgjibfgaaTtw
import Derived.Outline
namespace Go.Proofs.Ytblmljcgjibfgaa
open Go Go.RowKit Go.IntWalk Go.Shelf

theorem two_twl (w : World) (n : Nat) (hn : n = w.heap.size) (x y : Value) (t : TypeId) : ∀ j u, [x, y][j]? = some u → (w.alloc (.cells #[x, y] t)).cell? ((⟨n, 0, none⟩ : Addr).add j) = some u := by subst hn; exact two_new w x y t
def twE (s : ByteArray) (x er : Int) (l : List Pt) : Int := if gaugeE s x er l ≠ 0 then gaugeE s x er l else if 400 < (twL l l.length).length then 8 else 0
set_option maxHeartbeats 4000000 in
set_option maxRecDepth 100000 in
theorem twelfths_c (s : ByteArray) (x er : Int) (l : List Pt) (w : World) (A : Option Addr) (c : Nat) (hl : l.length ≤ 1000) (hA : Row 2 encP w A l) :
    Calls Try.prog 54 #[.agg #[.string s, .int .i64 x, .int .i64 er, .slice A l.length c]] w
      fun e w' => GaOut s x er (twL l l.length) (twE s x er l) e w' ∧ Ext w w' := by
  have HC := Lib.hid (fun w' (hw : Ext w w') => checkGauge_c s x er l w' A c hl (hA.ext hw))
  unfold twE
  by_cases h0 : gaugeE s x er l = 0
  case neg =>
    rw [if_pos h0]
    generalize gaugeE s x er l = r at *
    have h' : (r == 0) = false := by simp [h0]
    go_enter Try.func54, Try.ntmps54
    go_wp2_with (first | (go_at_call 62; with_reducible refine Calls.mono (HC.out _ (by (repeat (first | with_reducible exact Ext.rfl' _ | with_reducible assumption | with_reducible refine Ext.al ?_ _ | with_reducible refine Ext.dr ?_ | with_reducible refine Ext.st ?_ (by simp) _ | with_reducible refine Ext.tr ?_ (by assumption))))) ?_; rintro e w1 ⟨rfl, hb⟩; have hc := hb.ccell; have hf := hb.frz; have hs := hb.sz; (try simp at hs); (try have hs0 := hs w.heap.size (by omega)); (try have hs1 := hs (w.heap.size + 1) (by omega)); (try have hs2 := hs (w.heap.size + 1 + 1) (by omega)); (try have hs3 := hs (w.heap.size + 1 + 1 + 1) (by omega))))
    have hE : Ext w w1 := by (repeat (first | with_reducible exact Ext.rfl' _ | with_reducible assumption | with_reducible refine Ext.al ?_ _ | with_reducible refine Ext.dr ?_ | with_reducible refine Ext.st ?_ (by simp) _ | with_reducible refine Ext.tr ?_ (by assumption)))
    have kz : Fo w1 (w.heap.size + 1) (.string ⟨#[]⟩) (.int .i64 0) (.int .i64 0) (.slice none 0 0) := by refine ⟨?_, ?_, ?_, ?_⟩ <;> simp [*, go_sem]
    have hS4 := Fo.store (w := w1) (b := w.heap.size + 1) kz (.string ⟨#[]⟩) (.int .i64 0) (.int .i64 0) (.slice none 0 0)
    have hX4 := Ext.store4 (b := w.heap.size + 1) hE (by omega) (.string ⟨#[]⟩) (.int .i64 0) (.int .i64 0) (.slice none 0 0)
    show bodyPost _ _ _ _ _ (st4 w1 (w.heap.size + 1) (.string ⟨#[]⟩) (.int .i64 0) (.int .i64 0) (.slice none 0 0))
    generalize st4 w1 (w.heap.size + 1) (.string ⟨#[]⟩) (.int .i64 0) (.int .i64 0) (.slice none 0 0) = W6 at hS4 hX4 ⊢
    obtain ⟨s0, s1, s2, s3⟩ := hS4
    refine bodyPost_ret (v := .tuple #[.agg #[.string ⟨#[]⟩, .int .i64 0, .int .i64 0, .slice none 0 0], .int .i64 r]) (by simp [results, Try.results54, go_sem, s0, s1, s2, s3]) rfl ⟨.inr ⟨h0, rfl⟩, hX4⟩
  obtain ⟨_, _, he, hG⟩ := gaugeE_zero h0
  rw [if_neg (by rw [h0]; simp)]
  rw [h0] at HC
  have HRC := Lib.hid (fun w A' n' c' => trecord_c s x er A A' l.length c n' c' w)
  obtain ⟨R, hR⟩ : ∃ R, twL l l.length = R := ⟨_, rfl⟩
  rw [hR]
  obtain ⟨Z, hZ⟩ : ∃ Z : Int, (if 400 < R.length then 8 else 0) = Z := ⟨_, rfl⟩
  rw [hZ]
  have HR := Lib.hid hR
  have HZ := Lib.hid hZ
  have hRl := twL_len l l.length
  rw [hR] at hRl
  clear hR hZ
  go_enter Try.func54, Try.ntmps54
  go_wp2_with (first | (go_at_call 62; with_reducible refine Calls.mono (HC.out _ (by (repeat (first | with_reducible exact Ext.rfl' _ | with_reducible assumption | with_reducible refine Ext.al ?_ _ | with_reducible refine Ext.dr ?_ | with_reducible refine Ext.st ?_ (by simp) _ | with_reducible refine Ext.tr ?_ (by assumption))))) ?_; rintro e wq ⟨rfl, hb⟩; have hc := hb.ccell; have hf := hb.frz; have hs := hb.sz; (try simp at hs); (try have t0 := hs (w.heap.size) (by first | assumption | omega)); (try have t1 := hs (w.heap.size + 1) (by first | assumption | omega)); (try have t2 := hs (w.heap.size) (by first | assumption | omega)); (try have t3 := hs (w.heap.size) (by first | assumption | omega)); (try have t4 := hs (w.heap.size) (by first | assumption | omega)); (try have t5 := hs (w.heap.size) (by first | assumption | omega))))
  have hE1 : Ext w wq := by (repeat (first | with_reducible exact Ext.rfl' _ | with_reducible assumption | with_reducible refine Ext.al ?_ _ | with_reducible refine Ext.dr ?_ | with_reducible refine Ext.st ?_ (by simp) _ | with_reducible refine Ext.tr ?_ (by assumption)))
  have kz : Fo wq (w.heap.size + 1) (.string ⟨#[]⟩) (.int .i64 0) (.int .i64 0) (.slice none 0 0) := by refine ⟨?_, ?_, ?_, ?_⟩ <;> simp [*, go_sem]
  have gz : Fo wq w.heap.size (.string s) (.int .i64 x) (.int .i64 er) (.slice A l.length c) := by refine ⟨?_, ?_, ?_, ?_⟩ <;> simp [*, go_sem]
  have fz : ∀ o, wq.frozen? ⟨w.heap.size + 1, o, none⟩ = false := by intro o; simp [*, go_sem]
  have hs1 : w.heap.size + 1 < wq.heap.size := t1
  have HK := Lib.hid (And.intro hE1 (And.intro kz (And.intro gz (And.intro fz hs1))))
  clear kz gz fz hc hf hs hb HC h0 t0 t1 t2 t3 t4 t5
  go_loopw [5, 6, 7, 17] (fun vl _ _ v wr => Ext wq wr ∧ ∃ k : Nat, k ≤ l.length ∧ v = .int .i64 k ∧ ∃ A' c', vl = .slice A' (twL l k).length c' ∧ Hid (wr.ownsRow wq.heap.size 89 2 (.slice A' (twL l k).length c') (twL l k).length ((twL l k).flatMap encP))) (fun _ _ _ v _ => l.length - (intOf v).toNat)
  case atStart => exact ⟨Ext.rfl' _, 0, Nat.zero_le _, rfl, none, 0, rfl, World.ownsRow_nil _ _ _ _⟩
  case round =>
    obtain ⟨hE, k, hk, rfl, A', c', rfl, hO⟩ := hrel
    have hEw : Ext w wr := hE1.tr hE
    have hz0 : w.heap.size < wq.heap.size := by omega
    have hzr := hE.sz _ hz0
    have hlen := twL_len l k
    by_cases hlt : k < l.length
    · obtain ⟨b, off, rfl, hb0, hcell⟩ := hA.p2 hlt
      obtain ⟨c1, c2⟩ := hcell _ hEw
      clear hcell
      have hzb := hEw.sz _ hb0
      have hgk := gt_lt l k hlt
      have hokm := hG.ok k hlt
      obtain ⟨g0, g1, g2, g3⟩ := Fo.all (HK.out.2.2.1.ext hE hz0)
      have hsz := hE.size
      rcases Nat.eq_zero_or_pos k with hk0 | hk0
      · have hn0 : twL l k = [] := by rw [hk0]; rfl
        have HS1 := Lib.hid (show twL l (k + 1) = [l[k]] by rw [twL, if_neg (by omega), hn0, hgk]; rfl)
        rw [hn0] at hO ⊢
        have HO : Hid (wr.ownsRow wq.heap.size 89 2 (.slice A' 0 c') 0 []) := hO
        have k0 : (k : Int) ≤ 0 := by omega
        have gk0 : (0 < k) = False := eq_false (by omega)
        have HK0 := Lib.hid hk0
        clear hO hgk hokm hk0 hn0 hlen
        generalize l[k] = m at *
        obtain ⟨px, py⟩ := m
        dsimp only at *
        obtain ⟨i0, hi, hzi0, hzi1, hzi2⟩ := info_parts infoM
        go_wp2_with (first | (at_builtin; refine wpList_append_own _ rfl _ _ 22 rfl wq.heap.size 89 i0 _ 2 16 Try.underlying22 hi hzi0 hzi1 hzi2 rfl (by decide) _ _ _ rfl (World.ownsRow.alloc (World.ownsRow.alloc HO.out _) _) ⟨_, 0, none⟩ 1 1 [.int .i64 px, .int .i64 py] rfl rfl ?_ ?_ ?_ ?_ ?_ ?_))
        any_goals first | (exact two_new _ _ _ _; done) | (exact two_twl _ _ (by simp) _ _ _) | (intro u hu; simp at hu; rcases hu with rfl | rfl <;> rfl) | (exact ⟨rfl, rfl⟩) | (unfold maxLen; omega) | omega | (simp; omega)
        intro v' w4 hown4 hgrow4 _
        clear hi hzi0 hzi1 hzi2
        have hlt4 := World.ownsRow.lt HO.out
        have hE4 : Ext wq w4 := Below.grown (Ext.al (Ext.al hE _) _) hgrow4 (by simp; omega) (by intro q hq; exact (hlt4 q hq).1)
        have hown5 : w4.ownsRow wq.heap.size 89 2 v' (twL l (k + 1)).length ((twL l (k + 1)).flatMap encP) := by rw [HS1.out]; exact hown4
        obtain ⟨A5, c5, hv5, _⟩ := own_cases hown5
        subst hv5
        clear hown4 hgrow4
        go_wp2
        exact ⟨⟨hE4, k + 1, by omega, by go_num, A5, c5, rfl, hown5⟩, by simp [intOf]; omega⟩
      · obtain ⟨j, hj⟩ : ∃ j, k = j + 1 := ⟨k - 1, by omega⟩
        obtain ⟨S, hS⟩ := twL_last l j
        rw [← hj] at hS
        have hsx := fun w' (hw : Ext wr w') => sixths_c (gt l j) (gt l k) S wq.heap.size A' c' w' (hG.ok j (by omega)) hokm (by have := hG.asc j (by omega); rw [← hj] at this; exact this) (by rw [← hS]; have := hG.len; omega) (by have := hw.size; omega) (by rw [← hS]; exact ownsRow_ext hO.out hw)
        have HS1 := Lib.hid (show twL l (k + 1) = addS (gt l j) (gt l k) (S ++ [gt l j]) 5 ++ [l[k]] by rw [twL, if_pos hk0, show k - 1 = j by omega, hS, hgk])
        have hal := addS_len (gt l j) (gt l k) (S ++ [gt l j]) 5
        rw [← hS] at hsx HS1 hal
        rw [hgk] at hsx HS1 hal
        have hk0' : 0 < (k : Int) := by omega
        have gk0 : (0 < k) = True := eq_true hk0
        have h400 := hG.len
        clear hgk hokm hS
        generalize addS (gt l j) l[k] (twL l k) 5 = R5 at *
        generalize (twL l k).length = n at *
        generalize l[k] = m at *
        obtain ⟨px, py⟩ := m
        dsimp only at *
        have HSX := Lib.hid hsx
        have HJ := Lib.hid hj
        have hlt3 := World.ownsRow.lt hO.out
        have HNE : Hid (some wr.heap.size ≠ (Value.slice A' n c').ownBlock) := Lib.hid (fun e9 => by have h7 := (hlt3 _ e9.symm).2; omega)
        have HLT := Lib.hid hlt3
        clear hsx hj hlt3 hO
        obtain ⟨i0, hi, hzi0, hzi1, hzi2⟩ := info_parts infoM
        go_wp2_with (first | (go_at_call 93; with_reducible refine Calls.mono (HSX.out _ (by (repeat (first | with_reducible exact Ext.rfl' _ | with_reducible assumption | with_reducible refine Ext.al ?_ _ | with_reducible refine Ext.dr ?_ | with_reducible refine Ext.st ?_ (by simp) _ | with_reducible refine Ext.tr ?_ (by assumption))))) ?_; rintro e w3 ⟨v3, rfl, hown3, hgr3⟩; have HG3 := Lib.hid hgr3; have HO3 := Lib.hid hown3; clear hgr3 hown3; have hz3 := HG3.out.size; (have y0 : w3.cell? ⟨wr.heap.size, 0, none⟩ = some (.int .i64 px) := World.grownBy.cell HG3.out (by simp [go_sem]) HNE.out); (have y1 : w3.cell? ⟨wr.heap.size, 1, none⟩ = some (.int .i64 py) := World.grownBy.cell HG3.out (by simp [go_sem]) HNE.out); (try simp at hz3)) | (at_builtin; refine wpList_append_own _ rfl _ _ 22 rfl wq.heap.size 89 i0 _ 2 16 Try.underlying22 hi hzi0 hzi1 hzi2 rfl (by decide) _ _ _ rfl (World.ownsRow.alloc HO3.out _) ⟨_, 0, none⟩ 1 1 [.int .i64 px, .int .i64 py] rfl rfl ?_ ?_ ?_ ?_ ?_ ?_))
        any_goals first | (exact two_new _ _ _ _; done) | (intro u hu; simp at hu; rcases hu with rfl | rfl <;> rfl) | (exact ⟨rfl, rfl⟩) | (unfold maxLen; omega) | omega | (simp; omega)
        intro v' w4 hown4 hgrow4 _
        clear hi hzi0 hzi1 hzi2
        have hX3 : Ext wq w3 := Below.grown (Ext.al hE _) HG3.out (by simp; omega) (by intro q hq; exact (HLT.out q hq).1)
        have hlt4 := World.ownsRow.lt HO3.out
        have hE4 : Ext wq w4 := Below.grown (Ext.al hX3 _) hgrow4 (by have := hX3.size; simp; omega) (by intro q hq; exact (hlt4 q hq).1)
        have hown5 : w4.ownsRow wq.heap.size 89 2 v' (twL l (k + 1)).length ((twL l (k + 1)).flatMap encP) := by
          rw [HS1.out, List.length_append, List.flatMap_append]
          exact hown4
        obtain ⟨A5, c5, hv5, _⟩ := own_cases hown5
        subst hv5
        clear hown4 hgrow4 hlt4
        go_wp2
        exact ⟨⟨hE4, k + 1, by omega, by go_num, A5, c5, rfl, hown5⟩, by simp [intOf]; omega⟩
    · have hR2 : twL l k = R := by
        have hkl : k = l.length := by omega
        rw [hkl]
        exact HR.out
      rw [hR2] at hO ⊢
      clear hR2 hlen
      obtain ⟨g0, g1, g2, g3⟩ := Fo.all (HK.out.2.2.1.ext hE hz0)
      obtain ⟨q0, q1, q2, q3⟩ := Fo.all (HK.out.2.1.ext hE hs1)
      have yf := fun o => (hE.frz _ o hs1).trans (HK.out.2.2.2.1 o)
      have z1 := hE.sz _ hs1
      have KZ := Lib.hid (HK.out.2.1.ext hE hs1)
      obtain ⟨A2, c2, hv, hO3⟩ := own_cases hO.out
      injection hv with e1 e2 e3
      subst e1 e3
      clear e2
      have HO := Lib.hid hO3
      have hkn : ¬ (k : Int) < (l.length : Int) := by omega
      clear hO hO3
      by_cases hbig : 400 < R.length
      · have hz8 : Z = 8 := by rw [← HZ.out, if_pos hbig]
        subst hz8
        have hb' : (400 : Int) < (R.length : Int) := by omega
        go_wp2
        have kz := KZ.out
        have hS4 := Fo.store (w := wr) (b := w.heap.size + 1) kz (.string ⟨#[]⟩) (.int .i64 0) (.int .i64 0) (.slice none 0 0)
        have hX4 := Ext.store4 (b := w.heap.size + 1) hEw (by omega) (.string ⟨#[]⟩) (.int .i64 0) (.int .i64 0) (.slice none 0 0)
        show bodyPost _ _ _ _ _ (st4 wr (w.heap.size + 1) (.string ⟨#[]⟩) (.int .i64 0) (.int .i64 0) (.slice none 0 0))
        generalize st4 wr (w.heap.size + 1) (.string ⟨#[]⟩) (.int .i64 0) (.int .i64 0) (.slice none 0 0) = W6 at hS4 hX4 ⊢
        obtain ⟨s0, s1, s2, s3⟩ := hS4
        refine bodyPost_ret (v := .tuple #[.agg #[.string ⟨#[]⟩, .int .i64 0, .int .i64 0, .slice none 0 0], .int .i64 8]) (by simp [results, Try.results54, go_sem, s0, s1, s2, s3]) rfl ⟨.inr ⟨by decide, rfl⟩, hX4⟩
      · have hz8 : Z = 0 := by rw [← HZ.out, if_neg hbig]
        subst hz8
        have hb' : (R.length : Int) ≤ 400 := by omega
        go_wp2_with (first | (go_at_call 87; with_reducible refine Calls.mono (HRC.out _ _ _ _) ?_; rintro e w3 ⟨rfl, hb⟩; have hc := hb.ccell; have hf := hb.frz))
        have hE3 : Ext w w3 := hEw.tr hb
        have kz := KZ.out.ext hb z1
        have hR4 : Row 2 encP (st4 w3 (w.heap.size + 1) (.string s) (.int .i64 x) (.int .i64 er) (.slice A' R.length c')) A' R := by
          rcases HO.out with h | ⟨g, rfl, hg, ho⟩
          · left; exact h
          · exact ((ho.ext hb).st4 (by omega) _ _ _ _).row
        have hS4 := Fo.store (w := w3) (b := w.heap.size + 1) kz (.string s) (.int .i64 x) (.int .i64 er) (.slice A' R.length c')
        have hX4 := Ext.store4 (b := w.heap.size + 1) hE3 (by omega) (.string s) (.int .i64 x) (.int .i64 er) (.slice A' R.length c')
        show bodyPost _ _ _ _ _ (st4 w3 (w.heap.size + 1) (.string s) (.int .i64 x) (.int .i64 er) (.slice A' R.length c'))
        generalize st4 w3 (w.heap.size + 1) (.string s) (.int .i64 x) (.int .i64 er) (.slice A' R.length c') = W6 at hS4 hX4 hR4 ⊢
        obtain ⟨s0, s1, s2, s3⟩ := hS4
        refine bodyPost_ret (v := .tuple #[.agg #[.string s, .int .i64 x, .int .i64 er, .slice A' R.length c'], .int .i64 0]) (by simp [results, Try.results54, go_sem, s0, s1, s2, s3]) rfl ⟨.inl ⟨rfl, A', c', rfl, hR4⟩, hX4⟩
end Go.Proofs.Ytblmljcgjibfgaa
