/- Contracts of divisor, lowest and the reference's Lowest. -/
import Derived.Test.YtcdbekmcobghbaaNode
import Derived.Deep.RegionHeld3
import Derived.Deep.DeepCutAuto
namespace Go.Proofs.Ytcdbekmcobghbaa
open Go Go.RowKit Go.IntWalk

theorem nodes_no (ns : List I3) (a b c : Int) (w : World) (A : Option Addr) (cA : Nat) (hl : ns.length ≤ maxLen) (hA : Row 3 encI w A ns) (r : Int) (hr : nodesE ns (a, b, c) = r) (h0 : r ≠ 0) :
    Calls Try.prog 106 #[.slice A ns.length cA, .agg #[.int .i64 a, .int .i64 b, .int .i64 c]] w
      fun e w' => e = .returned (.tuple #[.agg #[.int .i64 0, .int .i64 0, .int .i64 0, .int .i64 0, .int .i64 0, .int .i64 0], .int .i64 r]) ∧ Ext w w' := by
  by_cases h : 64 < ns.length
  · have e : r = 8 := by rw [← hr]; unfold nodesE; rw [if_pos h]
    subst e
    exact checkNodes_large ns a b c w A cA hl h
  · refine (checkNodes_mid ns a b c w A cA h hA).mono ?_
    rintro e w' ⟨hE, ⟨h1, _⟩ | ⟨r', h1, _, he⟩⟩
    · rw [hr] at h1; exact absurd h1 h0
    · rw [hr] at h1; subst h1; exact ⟨he, hE⟩
theorem nodes_yes (ns : List I3) (a b c : Int) (w : World) (A : Option Addr) (cA : Nat) (hA : Row 3 encI w A ns) (hr : nodesE ns (a, b, c) = 0) :
    Calls Try.prog 106 #[.slice A ns.length cA, .agg #[.int .i64 a, .int .i64 b, .int .i64 c]] w
      fun e w' => e = .returned (.tuple #[.agg #[.int .i64 (atI (psN ns) a).x, .int .i64 (atI (psN ns) a).y, .int .i64 (atI (psN ns) b).x, .int .i64 (atI (psN ns) b).y, .int .i64 (atI (psN ns) c).x, .int .i64 (atI (psN ns) c).y], .int .i64 0]) ∧ Ext w w' := by
  refine (checkNodes_mid ns a b c w A cA (by have := (nodesE_zero hr).1; omega) hA).mono ?_
  rintro e w' ⟨hE, ⟨_, he⟩ | ⟨r', h1, h2, _⟩⟩
  · exact ⟨he, hE⟩
  · rw [hr] at h1; exact absurd h1.symm h2

theorem divisor_c (a b : Nat) (w : World) (ha : a ≤ 4000000000000000000) (hb : b ≤ 4000000000000000000) :
    Calls Try.prog 128 #[.int .i64 a, .int .i64 b] w fun e w' => e = .returned (.int .i64 (Nat.gcd a b : Nat)) ∧ Ext w w' := by
  obtain ⟨g, hg⟩ : ∃ g, Nat.gcd a b = g := ⟨_, rfl⟩
  rw [hg]
  have HG := Lib.hid hg
  clear hg
  go_enter Try.func128, Try.ntmps128
  go_wp2
  go_loopw [0, 1] (fun x y wr => Ext w wr ∧ ∃ p q : Nat, x = .int .i64 p ∧ y = .int .i64 q ∧ p ≤ 4000000000000000000 ∧ q ≤ 4000000000000000000 ∧ Hid (Nat.gcd p q = g)) (fun _ y _ => (intOf y).toNat)
  case atStart => exact ⟨Ext.rfl' _, a, b, rfl, rfl, ha, hb, HG.out⟩
  case round =>
    obtain ⟨hr, p, q, rfl, rfl, hp, hq, hK⟩ := hrel
    by_cases h0 : q = 0
    · subst h0
      go_wp2
      go_ret
      exact ⟨ret_int (by rw [← hK.out]; simp), hr⟩
    · have hm : ((p : Int)).tmod (q : Int) = ((p % q : Nat) : Int) := by rw [Int.tmod_eq_emod_of_nonneg (by omega)]; rfl
      have hq0 : ((q : Int) == 0) = false := by simp [h0]
      have hlt : p % q < q := Nat.mod_lt _ (by omega)
      have HQ := Lib.hid h0
      clear h0
      go_wp2_with fail
      refine region_grow (by kernel_rfl) (by kernel_rfl) ?_
      repeat (first | go_big_quiet_step (first  | fail) | quiet_step (first  | fail))
      refine wpQuiet_nil ?_
      intro w1 hb
      have hc := hb.ccell
      have hf := hb.frz
      have hs := hb.sz
      (try simp at hs); (try have hs0 := hs w.heap.size (by omega)); (try have hs1 := hs (w.heap.size + 1) (by omega)); (try have hs2 := hs (w.heap.size + 1 + 1) (by omega)); (try have hs3 := hs (w.heap.size + 1 + 1 + 1) (by omega))
      (try simp only [IntWalk.i64_left])
      go_wp2
      refine ⟨⟨by (repeat (first | with_reducible exact Ext.rfl' _ | with_reducible assumption | with_reducible refine Ext.al ?_ _ | with_reducible refine Ext.dr ?_ | with_reducible refine Ext.st ?_ (by simp) _ | with_reducible refine Ext.tr ?_ (by assumption))), q, p % q, rfl, by first | rfl | simp | (simp [hm]), hq, by omega, ?_⟩, ?_⟩
      · show Nat.gcd q (p % q) = g
        rw [← hK.out, Nat.gcd_comm p q, Nat.gcd_rec q p, Nat.gcd_comm]
      · simp [intOf]; omega

theorem size_is_c (n : Int) (k : Nat) (h : sizeW n = k) (w : World) : Calls Try.prog 90 #[.int .i64 n] w fun e w' => e = .returned (.int .i64 k) ∧ w = w' := by
  rw [← h]; exact size_c n w
theorem sign_is_c (n s : Int) (h : cmpI n 0 = s) (w : World) : Calls Try.prog 75 #[.int .i64 n] w fun e w' => e = .returned (.int .i64 s) ∧ w = w' := by
  rw [← h]; exact sign_c n w
theorem abs_is_c (n : Int) (k : Nat) (h : absW n = k) (w : World) : Calls Try.prog 71 #[.int .i64 n] w fun e w' => e = .returned (.int .i64 k) ∧ w = w' := by
  rw [← h]; exact abs_c n w

theorem lowest_core (num den s m G DN NN : Int) (w : World)
    (H1 : Hid (∀ w, Calls Try.prog 90 #[.int .i64 num] w fun e w' => e = .returned (.int .i64 NN) ∧ w = w'))
    (H2 : Hid (∀ w, Calls Try.prog 90 #[.int .i64 den] w fun e w' => e = .returned (.int .i64 DN) ∧ w = w'))
    (H3 : Hid (∀ w, Calls Try.prog 75 #[.int .i64 den] w fun e w' => e = .returned (.int .i64 s) ∧ w = w'))
    (HD : Hid (∀ w, Calls Try.prog 128 #[.int .i64 NN, .int .i64 DN] w fun e w' => e = .returned (.int .i64 G) ∧ Ext w w'))
    (hw : IntKind.i64.wrap (s * num) = m) (hgz : ¬ G = 0) :
    Calls Try.prog 107 #[.int .i64 num, .int .i64 den] w
      fun e w' => e = .returned (.agg #[.int .i64 (wrap64 (m.tdiv G)), .int .i64 (wrap64 (DN.tdiv G))]) ∧ Ext w w' := by
  go_enter Try.func107, Try.ntmps107
  go_wp2_with (first | (go_at_call 90; (first | (with_reducible refine Calls.mono (H1.out _) ?_) | (with_reducible refine Calls.mono (H2.out _) ?_)); rintro e w' ⟨rfl, rfl⟩) | (go_at_call 128; refine Calls.mono (HD.out _) ?_; rintro e w1 ⟨rfl, hb⟩))
  have hE : Ext w w1 := by (repeat (first | with_reducible exact Ext.rfl' _ | with_reducible assumption | with_reducible refine Ext.al ?_ _ | with_reducible refine Ext.dr ?_ | with_reducible refine Ext.st ?_ (by simp) _ | with_reducible refine Ext.tr ?_ (by assumption)))
  have k : w1.cell? ⟨w.heap.size, 0, none⟩ = some (.int .i64 0) ∧ w1.cell? ⟨w.heap.size, 1, none⟩ = some (.int .i64 0) := by
    refine ⟨?_, ?_⟩ <;> (rw [hb.ccell _ _ (by simp)]; simp [World.cell?_alloc_new, go_sem])
  have f : ∀ j, w1.frozen? ⟨w.heap.size, j, none⟩ = false := fun j => by rw [hb.frz _ _ (by simp)]; simp [go_sem]
  obtain ⟨k0, k1⟩ := k
  clear hb
  go_region_held3 (fun _ => True) (trivial) (first | (go_at_call 90; refine Calls.mono (H2.out _) ?_; rintro e w' ⟨rfl, rfl⟩) | (go_at_call 75; refine Calls.mono (H3.out _) ?_; rintro e w' ⟨rfl, rfl⟩))
  go_wp2
  refine bodyPost_ret (v := .agg #[.int .i64 (wrap64 (m.tdiv G)), .int .i64 (wrap64 (DN.tdiv G))]) (by simp [results, Try.results107, go_sem, k0, k1, IntWalk.i64_left]) rfl ⟨rfl, ?_⟩
  (repeat (first | with_reducible exact Ext.rfl' _ | with_reducible assumption | with_reducible refine Ext.al ?_ _ | with_reducible refine Ext.dr ?_ | with_reducible refine Ext.st ?_ (by simp) _ | with_reducible refine Ext.tr ?_ (by assumption)))

theorem lowest_c (num den s m : Int) (nn dn g : Nat) (w : World) (h1 : sizeW num = nn) (h2 : sizeW den = dn) (h3 : cmpI den 0 = s) (h4 : wrap64 (s * num) = m) (hn : nn ≤ 4000000000000000000) (hd : dn ≤ 4000000000000000000) (hg : Nat.gcd nn dn = g) (hg0 : g ≠ 0) :
    Calls Try.prog 107 #[.int .i64 num, .int .i64 den] w
      fun e w' => e = .returned (.agg #[.int .i64 (wrap64 (m.tdiv g)), .int .i64 (wrap64 ((dn : Int).tdiv g))]) ∧ Ext w w' := by
  have HD0 := divisor_c nn dn
  rw [hg] at HD0
  exact lowest_core num den s m g dn nn w (size_is_c num nn h1) (size_is_c den dn h2) (sign_is_c den s h3) (fun w => HD0 w hn hd) (by simp only [IntWalk.i64_left]; exact h4) (by omega)

theorem rlowest_c (num den x : Int) (nn dn g : Nat) (w : World) (h1 : absW num = nn) (h2 : absW den = dn) (hn : nn ≤ 4000000000000000000) (hd : dn ≤ 4000000000000000000) (hg : Nat.gcd nn dn = g) (hg0 : g ≠ 0) (hx : x = if den < 0 then -(g : Int) else g) :
    Calls Try.prog 110 #[.int .i64 num, .int .i64 den] w
      fun e w' => e = .returned (.agg #[.int .i64 (wrap64 (num.tdiv x)), .int .i64 (wrap64 (den.tdiv x))]) ∧ Ext w w' := by
  have H1 := Lib.hid (abs_is_c num nn h1)
  have H2 := Lib.hid (abs_is_c den dn h2)
  have hxz : ¬ x = 0 := by rw [hx]; split <;> omega
  have hgm : g ≤ 4000000000000000000 := by
    have := Nat.gcd_le_left dn (m := nn)
    by_cases h0 : nn = 0
    · subst h0; rw [Nat.gcd_zero_left] at hg; omega
    · have := Nat.gcd_le_left dn (show 0 < nn by omega); omega
  have HX := Lib.hid hx
  clear h1 h2 hx
  go_enter Try.func110, Try.ntmps110
  go_wp2_with (first | (go_at_call 71; (first | (with_reducible refine Calls.mono (H1.out _) ?_) | (with_reducible refine Calls.mono (H2.out _) ?_)); rintro e w' ⟨rfl, rfl⟩))
  refine wp_name (fun W hW => ?_)
  have hE : Ext w W := by rw [hW]; (repeat (first | with_reducible exact Ext.rfl' _ | with_reducible assumption | with_reducible refine Ext.al ?_ _ | with_reducible refine Ext.dr ?_ | with_reducible refine Ext.st ?_ (by simp) _ | with_reducible refine Ext.tr ?_ (by assumption)))
  have HW := Lib.hid hW
  clear hW
  have k : W.cell? ⟨w.heap.size, 0, none⟩ = some (.int .i64 0) ∧ W.cell? ⟨w.heap.size, 1, none⟩ = some (.int .i64 0) := by
    rw [HW.out]; refine ⟨?_, ?_⟩ <;> simp [World.cell?_alloc_new, go_sem]
  have f : ∀ j, W.frozen? ⟨w.heap.size, j, none⟩ = false := fun j => by rw [HW.out]; simp [go_sem]
  have hz : w.heap.size < W.heap.size := by rw [HW.out]; simp
  have K := Lib.hid (And.intro k f)
  clear k f HW
  go_loopw [5, 6] (fun x y wr => Ext W wr ∧ ∃ p q : Nat, x = .int .i64 p ∧ y = .int .i64 q ∧ p ≤ 4000000000000000000 ∧ q ≤ 4000000000000000000 ∧ Hid (Nat.gcd p q = g)) (fun _ y _ => (intOf y).toNat)
  case atStart => exact ⟨Ext.rfl' _, nn, dn, rfl, rfl, hn, hd, hg⟩
  case round =>
    obtain ⟨hr, p, q, rfl, rfl, hp, hq, hK⟩ := hrel
    by_cases h0 : q = 0
    · subst h0
      have hpg : p = g := by have := hK.out; simpa using this
      subst hpg
      obtain ⟨⟨k0, k1⟩, f⟩ := K.out
      have c0 := (hr.ccell _ 0 hz).trans k0
      have c1 := (hr.ccell _ 1 hz).trans k1
      have fz : ∀ j, wr.frozen? ⟨w.heap.size, j, none⟩ = false := fun j => (hr.frz _ j hz).trans (f j)
      have hEr := hE.tr hr
      clear k0 k1 f
      by_cases hneg : den < 0
      · have hxv := HX.out
        rw [if_pos hneg] at hxv
        have hnx : IntKind.i64.wrap (-(p : Int)) = x := by rw [hxv]; exact IntWalk.i64_in _ (by omega)
        go_wp2_with fail
        rw [← hxv]
        clear hxv hnx hneg
        clear hp hq hg hg0 hgm hn hd
        go_region_held3 (fun _ => True) (trivial) (fail)
        go_wp2
        refine bodyPost_ret (v := .agg #[.int .i64 (wrap64 (num.tdiv x)), .int .i64 (wrap64 (den.tdiv x))]) (by simp [results, Try.results110, go_sem, c0, c1, IntWalk.i64_left]) rfl ⟨rfl, ?_⟩
        (repeat (first | with_reducible exact Ext.rfl' _ | with_reducible assumption | with_reducible refine Ext.al ?_ _ | with_reducible refine Ext.dr ?_ | with_reducible refine Ext.st ?_ (by simp) _ | with_reducible refine Ext.tr ?_ (by assumption)))
      · have hxv := HX.out
        rw [if_neg hneg] at hxv
        go_wp2_with fail
        rw [← hxv]
        clear hxv hneg
        clear hp hq hg hg0 hgm hn hd
        go_region_held3 (fun _ => True) (trivial) (fail)
        go_wp2
        refine bodyPost_ret (v := .agg #[.int .i64 (wrap64 (num.tdiv x)), .int .i64 (wrap64 (den.tdiv x))]) (by simp [results, Try.results110, go_sem, c0, c1, IntWalk.i64_left]) rfl ⟨rfl, ?_⟩
        (repeat (first | with_reducible exact Ext.rfl' _ | with_reducible assumption | with_reducible refine Ext.al ?_ _ | with_reducible refine Ext.dr ?_ | with_reducible refine Ext.st ?_ (by simp) _ | with_reducible refine Ext.tr ?_ (by assumption)))
    · have hm : ((p : Int)).tmod (q : Int) = ((p % q : Nat) : Int) := by rw [Int.tmod_eq_emod_of_nonneg (by omega)]; rfl
      have hq0 : ((q : Int) == 0) = false := by simp [h0]
      have hlt : p % q < q := Nat.mod_lt _ (by omega)
      have hq1 : (0 : Int) < (q : Int) := by omega
      have HQ := Lib.hid h0
      clear h0
      go_wp2_with fail
      refine region_grow (by kernel_rfl) (by kernel_rfl) ?_
      repeat (first | go_big_quiet_step (first  | fail) | quiet_step (first  | fail))
      refine wpQuiet_nil ?_
      intro w1 hb
      have hc := hb.ccell
      have hf := hb.frz
      have hs := hb.sz
      (try simp at hs); (try have hs0 := hs w.heap.size (by omega)); (try have hs1 := hs (w.heap.size + 1) (by omega)); (try have hs2 := hs (w.heap.size + 1 + 1) (by omega)); (try have hs3 := hs (w.heap.size + 1 + 1 + 1) (by omega))
      (try simp only [IntWalk.i64_left])
      go_wp2
      refine ⟨⟨by (repeat (first | with_reducible exact Ext.rfl' _ | with_reducible assumption | with_reducible refine Ext.al ?_ _ | with_reducible refine Ext.dr ?_ | with_reducible refine Ext.st ?_ (by simp) _ | with_reducible refine Ext.tr ?_ (by assumption))), q, p % q, rfl, by first | rfl | simp | (simp [hm]), hq, by omega, ?_⟩, ?_⟩
      · show Nat.gcd q (p % q) = g
        rw [← hK.out, Nat.gcd_comm p q, Nat.gcd_rec q p, Nat.gcd_comm]
      · simp [intOf]; omega
end Go.Proofs.Ytcdbekmcobghbaa
