/- The contract of the reference's Fallen. -/
import Derived.Test.YtohdplnlbnoojaaSrheap
namespace Go.Proofs.Ytohdplnlbnoojaa
open Go Go.RowKit Go.IntWalk

set_option maxHeartbeats 8000000 in
set_option maxRecDepth 100000 in
theorem rfallen_c (g : Gr) (M N : List Int) (w : World) (A B : Option Addr) (c d : Nat) (hS : 100 ≤ g.S ∧ g.S ≤ 10000) (hl : g.L.length ≤ 1024) (hM : Bd g M) (hN : Bd g N) (hA : Row 1 encZ w A M) (hB : Row 1 encZ w B N) :
    Calls Try.prog 49 #[.agg #[.int .i64 g.X, .int .i64 g.Y, .int .i64 g.S, .int .i64 g.C, .int .i64 g.R, .slice A g.L.length c], .agg #[.int .i64 g.X, .int .i64 g.Y, .int .i64 g.S, .int .i64 g.C, .int .i64 g.R, .slice B g.L.length d]] w fun e w' => e = .returned (.int .i64 (dfN M N g.L.length * (g.S * g.S))) ∧ Ext w w' := by
  have HKM := Lib.hid (fun k (hk : k < g.L.length) w' (hw : Ext w w') => by have h := known_w g M k w' A c hM.len hk (hA.ext hw); rw [hM.kn] at h; exact h)
  have HKN := Lib.hid (fun k (hk : k < g.L.length) w' (hw : Ext w w') => by have h := known_w g N k w' B d hN.len hk (hB.ext hw); rw [hN.kn] at h; exact h)
  have hdif : ∀ i, -40000 ≤ gi M i - gi N i ∧ gi M i - gi N i ≤ 40000 ∧ (knB g.L i = false → gi M i - gi N i = 0) := by
    intro i
    have h1 := hM.lv.all i
    have h2 := hN.lv.all i
    have h3 := congrFun hM.kn i
    have h4 := congrFun hN.kn i
    cases hk : knB g.L i
    · rw [hk] at h3 h4
      unfold knB at h3 h4
      have h5 : gi M i = 30000 := by simpa using h3
      have h6 : gi N i = 30000 := by simpa using h4
      rw [h5, h6]
      decide
    · rw [hk] at h3 h4
      unfold knB at h3 h4
      have h5 : gi M i ≠ 30000 := by simpa using h3
      have h6 : gi N i ≠ 30000 := by simpa using h4
      refine ⟨by omega, by omega, fun h => by cases h⟩
  have HD := Lib.hid hdif
  have HDB := Lib.hid (dfN_bound M N (fun i => by have := hdif i; omega))
  have hb : 0 ≤ g.S * g.S ∧ g.S * g.S ≤ 10000 * 10000 := ⟨Int.mul_nonneg (by omega) (by omega), Int.mul_le_mul (by omega) (by omega) (by omega) (by omega)⟩
  have HPR : Hid (∀ x : Int, -60000000 ≤ x → x ≤ 60000000 → -6000000000000000 ≤ x * (g.S * g.S) ∧ x * (g.S * g.S) ≤ 6000000000000000) := Lib.hid (by
    intro x h1 h2
    have := mul_bound (x := x) (y := g.S * g.S) (M := 60000000) (N := 100000000) (by omega) (by omega) (by omega) (by omega)
    omega)
  have HP1 : Hid (∀ x : Int, -40000 ≤ x → x ≤ 40000 → -400000000 ≤ x * g.S ∧ x * g.S ≤ 400000000) := Lib.hid (by
    intro x h1 h2
    have := mul_bound (x := x) (y := g.S) (M := 40000) (N := 10000) (by omega) (by omega) (by omega) (by omega)
    omega)
  have HLM := Lib.hid (And.intro hM.len hN.len)
  have HRA := Lib.hid hA
  have HRB := Lib.hid hB
  clear hM hN hA hB hb hdif
  obtain ⟨S2, hS2⟩ : ∃ x, g.S * g.S = x := ⟨_, rfl⟩
  rw [hS2] at HPR ⊢
  have HS2 := Lib.hid hS2
  clear hS2
  go_enter Try.func49, Try.ntmps49
  go_upto_region 1 with fail
  refine wp_name (fun W hW => ?_)
  have hEW : Ext w W := by rw [hW]; (repeat (first | with_reducible exact Ext.rfl' _ | with_reducible assumption | with_reducible refine Ext.al ?_ _ | with_reducible refine Ext.dr ?_ | with_reducible refine Ext.st ?_ (by simp) _ | with_reducible refine Ext.tr ?_ (by assumption)))
  have km : CellsAt W w.heap.size 0 [.int .i64 g.X, .int .i64 g.Y, .int .i64 g.S, .int .i64 g.C, .int .i64 g.R, .slice A g.L.length c] := by rw [hW]; refine cells_six ⟨?_, ?_, ?_, ?_, ?_, ?_⟩ <;> simp [go_sem]
  have kn : CellsAt W (w.heap.size + 1) 0 [.int .i64 g.X, .int .i64 g.Y, .int .i64 g.S, .int .i64 g.C, .int .i64 g.R, .slice B g.L.length d] := by rw [hW]; refine cells_six ⟨?_, ?_, ?_, ?_, ?_, ?_⟩ <;> simp [go_sem]
  have z1 : w.heap.size + 1 < W.heap.size := by rw [hW]; simp
  have z0 : w.heap.size < W.heap.size := by omega
  clear hW
  go_wp2
  go_loopw [5, 6] (fun s i wr => Ext W wr ∧ ∃ k : Nat, k ≤ g.L.length ∧ i = .int .i64 k ∧ s = .int .i64 (dfN M N k * S2)) (fun _ i _ => g.L.length - (intOf i).toNat)
  case atStart => exact ⟨Ext.rfl' _, 0, Nat.zero_le _, rfl, by simp [dfN, sumN]⟩
  case round =>
    obtain ⟨hE, k, hk, rfl, rfl⟩ := hrel
    have hEr := hEW.tr hE
    obtain ⟨m0, m1, m2, m3, m4, m5⟩ := (km.ext hE z0).six
    obtain ⟨n0, n1, n2, n3, n4, n5⟩ := (kn.ext hE z1).six
    have y0 := hE.sz _ z0
    have y1 := hE.sz _ z1
    have hbk := HDB.out k
    have hpk := HPR.out (dfN M N k) (by omega) (by omega)
    by_cases hlt : k < g.L.length
    · obtain ⟨bA, oA, rfl, hbA, hcA⟩ := HRA.out.p1 (k := k) (by rw [HLM.out.1]; exact hlt)
      obtain ⟨bB, oB, rfl, hbB, hcB⟩ := HRB.out.p1 (k := k) (by rw [HLM.out.2]; exact hlt)
      have xa := hcA _ hEr
      have xb := hcB _ hEr
      rw [← gi_lt] at xa xb
      have za := hEr.sz _ hbA
      have zb := hEr.sz _ hbB
      have HK1 := Lib.hid (fun w' (hw : Ext wr w') => HKM.out k hlt w' (hEr.tr hw))
      have HK2 := Lib.hid (fun w' (hw : Ext wr w') => HKN.out k hlt w' (hEr.tr hw))
      obtain ⟨d1, d2, d3⟩ := HD.out k
      have hX : Hid (dfN M N (k + 1) * S2 = dfN M N k * S2 + (gi M k - gi N k) * g.S * g.S) := Lib.hid (by
        have : dfN M N (k + 1) = dfN M N k + (gi M k - gi N k) := rfl
        rw [this, Int.add_mul, ← HS2.out, Int.mul_assoc])
      have p1 := HP1.out (gi M k - gi N k) d1 d2
      have p2 := HPR.out (gi M k - gi N k) (by omega) (by omega)
      rw [← HS2.out, ← Int.mul_assoc] at p2
      have hki : (k : Int) < (g.L.length : Int) := by omega
      clear hcA hcB
      generalize dfN M N k * S2 = s at *
      cases hkn : knB g.L k
      · rw [hkn] at HK1 HK2
        have d4 := d3 hkn
        have hX2 : Hid (dfN M N (k + 1) * S2 = s) := Lib.hid (by rw [hX.out, d4]; simp)
        clear hX d1 d2 d3 d4 p1 p2 hkn
        go_wp2_with (first | (go_at_call 51; with_reducible refine Calls.mono (HK1.out _ (by (repeat (first | with_reducible exact Ext.rfl' _ | with_reducible assumption | with_reducible refine Ext.al ?_ _ | with_reducible refine Ext.dr ?_ | with_reducible refine Ext.st ?_ (by simp) _ | with_reducible refine Ext.tr ?_ (by assumption))))) ?_; rintro e w3 ⟨rfl, hb⟩; have hc := hb.ccell; have hf := hb.frz; have hs := hb.sz; (try simp at hs); (try have t0 := hs (w.heap.size) (by first | assumption | omega)); (try have t1 := hs (w.heap.size + 1) (by first | assumption | omega)); (try have t2 := hs (bA) (by first | assumption | omega)); (try have t3 := hs (bB) (by first | assumption | omega)); (try have t4 := hs (w.heap.size) (by first | assumption | omega)); (try have t5 := hs (w.heap.size) (by first | assumption | omega))))
        have hE3 : Ext wr w3 := by assumption
        exact ⟨⟨hE.tr hE3, k + 1, by omega, by go_num, by rw [hX2.out]⟩, by simp [intOf]; omega⟩
      · rw [hkn] at HK1 HK2
        clear d3 hkn
        generalize gi M k = xm at *
        generalize gi N k = xn at *
        obtain ⟨D, hD⟩ : ∃ D, xm - xn = D := ⟨_, rfl⟩
        have w1 : IntKind.i64.wrap (xm - xn) = D := by rw [hD]; exact IntWalk.i64_in _ (by omega)
        rw [hD] at d1 d2 p1 p2 hX
        obtain ⟨P, hP⟩ : ∃ P, D * g.S = P := ⟨_, rfl⟩
        have w2 : IntKind.i64.wrap (D * g.S) = P := by rw [hP]; exact IntWalk.i64_in _ (by omega)
        rw [hP] at p1 p2 hX
        obtain ⟨Q, hQ⟩ : ∃ Q, P * g.S = Q := ⟨_, rfl⟩
        have w3 : IntKind.i64.wrap (P * g.S) = Q := by rw [hQ]; exact IntWalk.i64_in _ (by omega)
        rw [hQ] at p2 hX
        obtain ⟨T, hT⟩ : ∃ T, s + Q = T := ⟨_, rfl⟩
        have w4 : IntKind.i64.wrap (s + Q) = T := by rw [hT]; exact IntWalk.i64_in _ (by omega)
        rw [hT] at hX
        clear hD hP hQ hT d1 d2 p1 p2
        go_upto_region 6 with (first | (go_at_call 51; with_reducible refine Calls.mono (HK1.out _ (by (repeat (first | with_reducible exact Ext.rfl' _ | with_reducible assumption | with_reducible refine Ext.al ?_ _ | with_reducible refine Ext.dr ?_ | with_reducible refine Ext.st ?_ (by simp) _ | with_reducible refine Ext.tr ?_ (by assumption))))) ?_; rintro e wk1 ⟨rfl, hb⟩; have hc := hb.ccell; have hf := hb.frz; have hs := hb.sz; (try simp at hs); (try have t0 := hs (w.heap.size) (by first | assumption | omega)); (try have t1 := hs (w.heap.size + 1) (by first | assumption | omega)); (try have t2 := hs (bA) (by first | assumption | omega)); (try have t3 := hs (bB) (by first | assumption | omega)); (try have t4 := hs (w.heap.size) (by first | assumption | omega)); (try have t5 := hs (w.heap.size) (by first | assumption | omega))) | (go_at_call 51; with_reducible refine Calls.mono (HK2.out _ (by (repeat (first | with_reducible exact Ext.rfl' _ | with_reducible assumption | with_reducible refine Ext.al ?_ _ | with_reducible refine Ext.dr ?_ | with_reducible refine Ext.st ?_ (by simp) _ | with_reducible refine Ext.tr ?_ (by assumption))))) ?_; rintro e wk2 ⟨rfl, hb⟩; have hc := hb.ccell; have hf := hb.frz; have hs := hb.sz; (try simp at hs); (try have t0 := hs (w.heap.size) (by first | assumption | omega)); (try have t1 := hs (w.heap.size + 1) (by first | assumption | omega)); (try have t2 := hs (bA) (by first | assumption | omega)); (try have t3 := hs (bB) (by first | assumption | omega)); (try have t4 := hs (w.heap.size) (by first | assumption | omega)); (try have t5 := hs (w.heap.size) (by first | assumption | omega))))
        refine wp_name (fun W6 hW6 => ?_)
        have hE6 : Ext wr W6 := by rw [hW6]; (repeat (first | with_reducible exact Ext.rfl' _ | with_reducible assumption | with_reducible refine Ext.al ?_ _ | with_reducible refine Ext.dr ?_ | with_reducible refine Ext.st ?_ (by simp) _ | with_reducible refine Ext.tr ?_ (by assumption)))
        clear hW6 hb hc hf hs t0 t1 t2 t3 t4 t5 m0 m1 m2 m3 m4 m5 n0 n1 n2 n3 n4 n5
        have hEE := hE.tr hE6
        obtain ⟨m0, m1, m2, m3, m4, m5⟩ := (km.ext hEE z0).six
        obtain ⟨n0, n1, n2, n3, n4, n5⟩ := (kn.ext hEE z1).six
        have xa := (hE6.ccell _ _ za).trans xa
        have xb := (hE6.ccell _ _ zb).trans xb
        have y0 := hEE.sz _ z0
        have y1 := hEE.sz _ z1
        have za := hE6.sz _ za
        have zb := hE6.sz _ zb
        refine region_grow (by kernel_rfl) (by kernel_rfl) ?_
        repeat (first | go_big_quiet_step (first  | fail) | quiet_step (first  | fail))
        refine wpQuiet_nil ?_
        intro w1 hb
        have hc := hb.ccell
        have hf := hb.frz
        have hs := hb.sz
        (try simp at hs); (try have hs0 := hs w.heap.size (by omega)); (try have hs1 := hs (w.heap.size + 1) (by omega)); (try have hs2 := hs (w.heap.size + 1 + 1) (by omega)); (try have hs3 := hs (w.heap.size + 1 + 1 + 1) (by omega))
        (try simp only [IntWalk.i64_left])
        have hE7 : Ext W6 _ := hb
        go_wp2
        exact ⟨⟨hEE.tr hE7, k + 1, by omega, by go_num, by rw [hX.out]⟩, by simp [intOf]; omega⟩
    · have hks : k = g.L.length := by omega
      subst hks
      obtain ⟨s, hs9⟩ : ∃ s, dfN M N g.L.length * S2 = s := ⟨_, rfl⟩
      rw [hs9] at hpk ⊢
      have HS9 := Lib.hid hs9
      clear hs9
      go_wp2
      go_ret
      exact ⟨ret_int (by rw [HS9.out]), hEr⟩
end Go.Proofs.Ytohdplnlbnoojaa
