/- The contract of pairs. -/
import Derived.Test.YtgbkjioajmnjbaaGreatSslo2
namespace Go.Proofs.YtgbkjioajmnjbaaGreat
open Go Go.RowKit Go.IntWalk

def encPr (x : Nat × Nat) : List Value := [.int .i64 (x.1 : Int), .int .i64 (x.2 : Int)]
theorem encPr_len (x : Nat × Nat) : (encPr x).length = 2 := rfl
theorem infoPr : (Tryz.prog.info? 94).map (fun i => (i.zero, i.size, i.bytes)) = some (some (.agg #[.int .i64 0, .int .i64 0]), 2, 16) := by kernel_rfl
theorem Row.pr {w : World} {A : Option Addr} {l : List (Nat × Nat)} (h : Row 2 encPr w A l) {k : Nat} (hk : k < l.length) :
    ∃ b off, A = some ⟨b, off, none⟩ ∧ b < w.heap.size ∧ ∀ w', Ext w w' → w'.cell? ⟨b, off + k * 2, none⟩ = some (.int .i64 (l[k].1 : Int)) ∧ w'.cell? ⟨b, off + k * 2 + 1, none⟩ = some (.int .i64 (l[k].2 : Int)) := by
  obtain ⟨b, off, h1, h2, h3⟩ := h.addr (by omega)
  exact ⟨b, off, h1, h2, fun w' hw => ⟨h3 w' hw k hk 0 _ rfl, h3 w' hw k hk 1 _ rfl⟩⟩
theorem two_newPr (w : World) (x y : Value) (t : TypeId) : ∀ j u, [x, y][j]? = some u → (w.alloc (.cells #[x, y] t)).cell? ((⟨w.heap.size, 0, none⟩ : Addr).add j) = some u := by
  intro j u hu
  match j with
  | 0 => simpa [Addr.add, go_sem] using hu
  | 1 => simpa [Addr.add, go_sem] using hu
  | j + 2 => simp at hu
/-- Pairs that a call has made. -/
def NewPr (base : Nat) (w' : World) (A : Option Addr) (c : Nat) (l : List (Nat × Nat)) : Prop :=
  l.length ≤ c ∧ c ≤ maxLen ∧ ((l = [] ∧ A = none ∧ c = 0) ∨ ∃ g, A = some ⟨g, 0, none⟩ ∧ base ≤ g ∧ OwnK 94 2 encPr w' g c l)
def OutPr (base : Nat) (l : List (Nat × Nat)) (e : Ending) (w' : World) : Prop := ∃ A c, e = .returned (.slice A l.length c) ∧ Row 2 encPr w' A l ∧ ∀ x off, A = some ⟨x, off, none⟩ → base ≤ x
theorem pr_put {w : World} {base n : Nat} {v : Value} {l : List (Nat × Nat)} {a b : Nat} {x y : Int} (hx : x = a) (hy : y = b) (hn : n = l.length + 1) (h : w.ownsRow base 94 2 v n (l.flatMap encPr ++ [.int .i64 x, .int .i64 y])) : w.ownsRow base 94 2 v (l ++ [(a, b)]).length ((l ++ [(a, b)]).flatMap encPr) := by
  subst hx hy hn
  rw [List.length_append, List.flatMap_append]
  exact h
/-- The pairs with the first k cells, and the right neighbour of cell k. -/
def prsM (cn : Nat) (n : Nat) (kn : Nat → Bool) (k : Nat) : List (Nat × Nat) := prsN cn n kn k ++ (if (k + 1) % cn ≠ 0 ∧ kn k = true ∧ kn (k + 1) = true then [(k, k + 1)] else [])
theorem prsM_succ (cn n : Nat) (kn : Nat → Bool) (k : Nat) : prsN cn n kn (k + 1) = prsM cn n kn k ++ (if k + cn < n ∧ kn k = true ∧ kn (k + cn) = true then [(k, k + cn)] else []) := by
  rw [prsN_succ]; unfold prsAt prsM; rw [List.append_assoc]
theorem prsM_len (cn n : Nat) (kn : Nat → Bool) (k : Nat) : (prsM cn n kn k).length ≤ 2 * k + 1 := by
  unfold prsM
  rw [List.length_append]
  have h1 := prsN_len cn n kn k
  have h2 : ∀ (p : Prop) [Decidable p] (x : Nat × Nat), (if p then [x] else []).length ≤ 1 := by intro p _ x; split <;> simp
  have h3 := h2 ((k + 1) % cn ≠ 0 ∧ kn k = true ∧ kn (k + 1) = true) (k, k + 1)
  omega
set_option maxHeartbeats 16000000 in
set_option maxRecDepth 100000 in
theorem pairs_c (g : Gr) (cn rn : Nat) (r : List Int) (w : World) (A B : Option Addr) (c d : Nat) (h1 : 1 ≤ cn) (h2 : cn ≤ 1024) (hC : g.C = cn) (hn : g.L.length = cn * rn) (hl : g.L.length ≤ 1024) (hA : Row 1 encZ w A g.L) :
    Calls Tryz.prog 58 #[.agg #[.int .i64 g.X, .int .i64 g.Y, .int .i64 g.S, .int .i64 g.C, .int .i64 g.R, .slice A g.L.length c, .slice B r.length d]] w fun e w' => OutPr w.heap.size (prsN cn g.L.length (knB g.L) g.L.length) e w' ∧ Ext w w' := by
  have HBK := Lib.hid (fun a b w' (hw : Ext w w') ha hb => bothKnown_c g r a b w' A B c d ha hb (by omega) (hA.ext hw))
  have hrow : Hid (∀ a, a < g.L.length → (a + 1) % cn ≠ 0 → a + 1 < g.L.length) := Lib.hid (by
    intro a q1 q2
    rcases Nat.lt_or_ge (a + 1) g.L.length with h | h
    · exact h
    · have : a + 1 = cn * rn := by omega
      rw [this, Nat.mul_mod_right] at q2
      exact absurd rfl q2)
  have HC := Lib.hid hC
  have hgC : 1 ≤ g.C ∧ g.C ≤ 1024 := by omega
  have hC0 : ¬ g.C = 0 := by omega
  obtain ⟨i0, hi, hzi0, hzi1, hzi2⟩ := info_parts infoPr
  have HI := Lib.hid (And.intro hi (And.intro hzi0 (And.intro hzi1 hzi2)))
  clear hi hzi0 hzi1 hzi2 hC hn hA
  obtain ⟨kn, hkn⟩ : ∃ kn, knB g.L = kn := ⟨_, rfl⟩
  have HKN := Lib.hid (fun a => congrFun hkn a)
  rw [hkn]
  clear hkn
  go_enter Tryz.func58, Tryz.ntmps58
  go_upto_region 2 with fail
  refine wp_name (fun W hW => ?_)
  have hEW : Ext w W := by rw [hW]; (repeat (first | with_reducible exact Ext.rfl' _ | with_reducible assumption | with_reducible refine Ext.al ?_ _ | with_reducible refine Ext.dr ?_ | with_reducible refine Ext.st ?_ (by simp) _ | with_reducible refine Ext.tr ?_ (by assumption)))
  have k7 : CellsAt W w.heap.size 0 [.int .i64 g.X, .int .i64 g.Y, .int .i64 g.S, .int .i64 g.C, .int .i64 g.R, .slice A g.L.length c, .slice B r.length d] := by rw [hW]; refine cells_seven ⟨?_, ?_, ?_, ?_, ?_, ?_, ?_⟩ <;> simp [go_sem]
  have z0 : w.heap.size < W.heap.size := by rw [hW]; simp
  clear hW
  obtain ⟨m0, m1, m2, m3, m4, m5, m6⟩ := k7.seven
  go_wp2
  go_loopw [3, 4, 11] (fun v _ i wr => Ext W wr ∧ ∃ k : Nat, k ≤ g.L.length ∧ i = .int .i64 k ∧ Hid (wr.ownsRow W.heap.size 94 2 v (prsN cn g.L.length kn k).length ((prsN cn g.L.length kn k).flatMap encPr))) (fun _ _ i _ => g.L.length - (intOf i).toNat)
  case atStart => exact ⟨Ext.rfl' _, 0, Nat.zero_le _, rfl, Lib.hid (World.ownsRow_nil _ _ _ _)⟩
  case round =>
    clear m0 m1 m2 m3 m4 m5 m6
    obtain ⟨hE, k, hk, rfl, hO⟩ := hrel
    obtain ⟨m0, m1, m2, m3, m4, m5, m6⟩ := (k7.ext hE z0).seven
    have zr := hE.sz _ z0
    have hEr := hEW.tr hE
    obtain ⟨hi, hzi0, hzi1, hzi2⟩ := HI.out
    by_cases hlt : k < g.L.length
    · have hPl := prsN_len cn g.L.length kn k
      have hMl := prsM_len cn g.L.length kn k
      have em : ((k : Int) + 1) % g.C = (((k + 1) % cn : Nat) : Int) := by rw [HC.out]; simp
      have hrowk := hrow.out k hlt
      have hEr' := hEr
      go_upto_region 6 with fail
      obtain ⟨b1, hb1⟩ : ∃ b1, decide ((k + 1) % cn ≠ 0 ∧ kn k = true ∧ kn (k + 1) = true) = b1 := ⟨_, rfl⟩
      have HB := Lib.hid hb1
      clear hb1
      go_cut [27] (fun s wx => s = .bool b1 ∧ Ext wr wx)
      case first =>
        generalize (k + 1) % cn = mm at *
        by_cases hm : mm = 0
        · have hP : Hid (false = b1) := Lib.hid (by rw [← HB.out, decide_eq_false (by omega)])
          subst hm
          clear hrowk
          go_wp2
          go_meet
          exact ⟨by rw [hP.out], Ext.rfl' _⟩
        · have hk1 := hrowk hm
          have hmi : ((mm : Int) != 0) = true := by rw [bne_iff_ne]; omega
          have HB1 := Lib.hid (fun w' (hw : Ext w w') => by
            have h := HBK.out k (k + 1) w' hw hlt hk1
            rw [HKN.out, HKN.out, show (((k + 1 : Nat)) : Int) = (k : Int) + 1 by omega] at h
            exact h)
          have hP : Hid ((kn k && kn (k + 1)) = b1) := Lib.hid (by rw [← HB.out, Bool.eq_iff_iff]; simp [hm])
          rw [hP.out] at HB1
          clear hrowk hm hk1
          go_wp2_with (first | (go_at_call 80; with_reducible refine Calls.mono (HB1.out _ (by (repeat (first | with_reducible exact Ext.rfl' _ | with_reducible assumption | with_reducible refine Ext.al ?_ _ | with_reducible refine Ext.dr ?_ | with_reducible refine Ext.st ?_ (by simp) _ | with_reducible refine Ext.tr ?_ (by assumption))))) ?_; rintro e w3 ⟨rfl, hb⟩; have hc := hb.ccell; have hf := hb.frz; have hs := hb.sz; (try simp at hs); (try have t0 := hs (w.heap.size) (by first | assumption | omega)); (try have t1 := hs (w.heap.size) (by first | assumption | omega)); (try have t2 := hs (w.heap.size) (by first | assumption | omega)); (try have t3 := hs (w.heap.size) (by first | assumption | omega)); (try have t4 := hs (w.heap.size) (by first | assumption | omega)); (try have t5 := hs (w.heap.size) (by first | assumption | omega))))
          go_meet
          exact ⟨rfl, by (repeat (first | with_reducible exact Ext.rfl' _ | with_reducible assumption | with_reducible refine Ext.al ?_ _ | with_reducible refine Ext.dr ?_ | with_reducible refine Ext.st ?_ (by simp) _ | with_reducible refine Ext.tr ?_ (by assumption)))⟩
      case rest =>
      obtain ⟨rfl, hx⟩ := hcut
      have hO3 := Lib.hid (ownsRow_ext hO.out hx)
      have hE3 := hE.tr hx
      have HMM : Hid (prsM cn g.L.length kn k = prsN cn g.L.length kn k ++ (if (k + 1) % cn ≠ 0 ∧ kn k = true ∧ kn (k + 1) = true then [(k, k + 1)] else [])) := rfl
      clear hO hE m0 m1 m2 m3 m4 m5 m6 hrowk em zr hEr hEr'
      obtain ⟨wo, hwo⟩ : ∃ wo, wo = wc := ⟨_, rfl⟩
      subst hwo
      have hwz := hE3.size
      go_upto_if 27 with fail
      go_cut [3] (fun v wx => Ext W wx ∧ Hid (wx.ownsRow W.heap.size 94 2 v (prsM cn g.L.length kn k).length ((prsM cn g.L.length kn k).flatMap encPr)))
      case first =>
        generalize prsM cn g.L.length kn k = PM at *
        generalize prsN cn g.L.length kn k = PN at *
        cases b1
        · have hP : Hid (PM = PN) := Lib.hid (by rw [HMM.out, if_neg (of_decide_eq_false HB.out), List.append_nil])
          go_wp2
          go_meet
          exact ⟨hE3, by rw [hP.out]; exact hO3⟩
        · have hP : Hid (PM = PN ++ [(k, k + 1)]) := Lib.hid (by rw [HMM.out, if_pos (of_decide_eq_true HB.out)])
          clear hx
          go_wp2_with (first | (at_builtin; refine wpList_append_own _ rfl _ _ 92 rfl W.heap.size 94 i0 _ 2 16 Tryz.underlying92 hi hzi0 hzi1 hzi2 rfl (by decide) _ _ _ rfl (World.ownsRow.alloc hO3.out _) ⟨_, 0, none⟩ 1 1 [.int .i64 (k : Int), .int .i64 ((k : Int) + 1)] rfl rfl ?_ ?_ ?_ ?_ ?_ ?_))
          · exact two_newPr _ _ _ _
          · intro u hu; simp at hu; rcases hu with rfl | rfl <;> rfl
          · unfold maxLen; omega
          · omega
          · simp; omega
          intro v' w4 hown hgrow _
          have hE4 : Ext W w4 := grown_ext (Ext.al hE3 _) (World.ownsRow.alloc hO3.out _) (Nat.le_refl _) hgrow
          have hown2 := Lib.hid (pr_put (a := k) (b := k + 1) rfl (by omega) rfl hown)
          clear hown hgrow hi hzi0 hzi1 hzi2
          go_wp2
          go_meet
          exact ⟨hE4, by rw [hP.out]; exact hown2⟩
      case rest =>
      obtain ⟨hE4, hO4⟩ := hcut
      clear hx hO3 hE3 hwz HB HMM
      obtain ⟨wp, hwp⟩ : ∃ wp, wp = wc := ⟨_, rfl⟩
      subst hwp
      obtain ⟨m0, m1, m2, m3, m4, m5, m6⟩ := (k7.ext hE4 z0).seven
      have zr := hE4.sz _ z0
      have hEr := hEW.tr hE4
      have hwz := hE4.size
      have hcc2 : (k : Int) + g.C = (k : Int) + (cn : Int) := by have := HC.out; omega
      have HPS : Hid (prsN cn g.L.length kn (k + 1) = prsM cn g.L.length kn k ++ (if k + cn < g.L.length ∧ kn k = true ∧ kn (k + cn) = true then [(k, k + cn)] else [])) := Lib.hid (prsM_succ cn g.L.length kn k)
      generalize prsM cn g.L.length kn k = PM at *
      by_cases hm : k + cn < g.L.length
      case neg =>
        have hP : Hid (prsN cn g.L.length kn (k + 1) = PM) := Lib.hid (by rw [HPS.out, if_neg (fun q => hm q.1), List.append_nil])
        have hmi : ¬ (k : Int) + (cn : Int) < (g.L.length : Int) := by omega
        go_wp2
        exact ⟨⟨hE4, k + 1, by omega, by go_num, by rw [hP.out]; exact hO4⟩, by simp [intOf]; omega⟩
      have hmi : (k : Int) + (cn : Int) < (g.L.length : Int) := by omega
      have HB1 := Lib.hid (fun w' (hw : Ext w w') => by
        have h := HBK.out k (k + cn) w' hw hlt hm
        rw [HKN.out, HKN.out, show (((k + cn : Nat)) : Int) = (k : Int) + (cn : Int) by omega] at h
        exact h)
      cases hb : (kn k && kn (k + cn))
      · rw [hb] at HB1
        have hP : Hid (prsN cn g.L.length kn (k + 1) = PM) := Lib.hid (by rw [HPS.out, if_neg (by intro q; rw [q.2.1, q.2.2] at hb; cases hb), List.append_nil])
        clear hb
        go_wp2_with (first | (go_at_call 80; with_reducible refine Calls.mono (HB1.out _ (by (repeat (first | with_reducible exact Ext.rfl' _ | with_reducible assumption | with_reducible refine Ext.al ?_ _ | with_reducible refine Ext.dr ?_ | with_reducible refine Ext.st ?_ (by simp) _ | with_reducible refine Ext.tr ?_ (by assumption))))) ?_; rintro e w3 ⟨rfl, hb⟩; have hc := hb.ccell; have hf := hb.frz; have hs := hb.sz; (try simp at hs); (try have t0 := hs (w.heap.size) (by first | assumption | omega)); (try have t1 := hs (w.heap.size) (by first | assumption | omega)); (try have t2 := hs (w.heap.size) (by first | assumption | omega)); (try have t3 := hs (w.heap.size) (by first | assumption | omega)); (try have t4 := hs (w.heap.size) (by first | assumption | omega)); (try have t5 := hs (w.heap.size) (by first | assumption | omega))))
        have hE5 : Ext wp w3 := by assumption
        exact ⟨⟨hE4.tr hE5, k + 1, by omega, by go_num, by rw [hP.out]; exact Lib.hid (ownsRow_ext hO4.out hE5)⟩, by simp [intOf]; omega⟩
      · rw [hb] at HB1
        have hP : Hid (prsN cn g.L.length kn (k + 1) = PM ++ [(k, k + cn)]) := Lib.hid (by rw [Bool.and_eq_true] at hb; rw [HPS.out, if_pos ⟨hm, hb.1, hb.2⟩])
        clear hb
        go_wp2_with (first | (go_at_call 80; with_reducible refine Calls.mono (HB1.out _ (by (repeat (first | with_reducible exact Ext.rfl' _ | with_reducible assumption | with_reducible refine Ext.al ?_ _ | with_reducible refine Ext.dr ?_ | with_reducible refine Ext.st ?_ (by simp) _ | with_reducible refine Ext.tr ?_ (by assumption))))) ?_; rintro e w3 ⟨rfl, hb⟩; have hc := hb.ccell; have hf := hb.frz; have hs := hb.sz; (try simp at hs); (try have t0 := hs (w.heap.size) (by first | assumption | omega)); (try have t1 := hs (w.heap.size) (by first | assumption | omega)); (try have t2 := hs (w.heap.size) (by first | assumption | omega)); (try have t3 := hs (w.heap.size) (by first | assumption | omega)); (try have t4 := hs (w.heap.size) (by first | assumption | omega)); (try have t5 := hs (w.heap.size) (by first | assumption | omega))) | (at_builtin; refine wpList_append_own _ rfl _ _ 92 rfl W.heap.size 94 i0 _ 2 16 Tryz.underlying92 hi hzi0 hzi1 hzi2 rfl (by decide) _ _ _ rfl (World.ownsRow.alloc (ownsRow_ext hO4.out (by assumption)) _) ⟨_, 0, none⟩ 1 1 [.int .i64 (k : Int), .int .i64 ((k : Int) + (cn : Int))] rfl rfl ?_ ?_ ?_ ?_ ?_ ?_))
        · exact two_newPr _ _ _ _
        · intro u hu; simp at hu; rcases hu with rfl | rfl <;> rfl
        · unfold maxLen; omega
        · omega
        · have hE5 : Ext wp w3 := by assumption
          have := (hE4.tr hE5).size
          simp; omega
        intro v' w4 hown hgrow _
        have hE5 : Ext wp w3 := by assumption
        have hE6 : Ext W w4 := grown_ext (Ext.al (hE4.tr hE5) _) (World.ownsRow.alloc (ownsRow_ext hO4.out hE5) _) (Nat.le_refl _) hgrow
        have hown2 := Lib.hid (pr_put (a := k) (b := k + cn) rfl (by omega) rfl hown)
        clear hown hgrow hi hzi0 hzi1 hzi2
        go_wp2
        exact ⟨⟨hE6, k + 1, by omega, by go_num, by rw [hP.out]; exact hown2⟩, by simp [intOf]; omega⟩
    · have hks : k = g.L.length := by omega
      subst hks
      obtain ⟨A', c', hv, _, _, hcase⟩ := ownK_cases encPr_len rfl rfl hO.out
      subst hv
      have hrw := Lib.hid (ownK_row encPr_len hcase)
      have hbs : Hid (∀ x off, A' = some ⟨x, off, none⟩ → w.heap.size ≤ x) := Lib.hid (by
        intro x off hx
        rcases hcase with ⟨_, h, _⟩ | ⟨g9, h, h3, _⟩
        · rw [h] at hx; cases hx
        · rw [h] at hx
          injection hx with hx
          injection hx with hx _
          have := hEW.size
          omega)
      clear hO hcase
      go_wp2
      go_ret
      exact ⟨⟨A', c', rfl, hrw.out, hbs.out⟩, hEr⟩
end Go.Proofs.YtgbkjioajmnjbaaGreat
