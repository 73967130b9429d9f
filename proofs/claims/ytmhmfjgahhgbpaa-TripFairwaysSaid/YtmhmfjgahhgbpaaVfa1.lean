/- The contracts of findReach and of inRange. -/
import Derived.Test.YtmhmfjgahhgbpaaVleaf
import Derived.Test.YtmhmfjgahhgbpaaVfpure
namespace Go.Proofs.Ytmhmfjgahhgbpaa
open Go Go.RowKit Go.IntWalk

/-! ### Results of several cells -/
def stL (w : World) (b o : Nat) : List Value → World
  | [] => w
  | v :: vs => stL (w.setCell ⟨b, o, none⟩ v) b (o + 1) vs
def CellsAt (w : World) (b o : Nat) (vs : List Value) : Prop := ∀ j v, vs[j]? = some v → w.cell? ⟨b, o + j, none⟩ = some v
theorem stL_far (b : Nat) : ∀ (vs : List Value) (o : Nat) (w : World) (q : Addr), (q.block ≠ b ∨ q.off < o) → q.spot = none → (stL w b o vs).cell? q = w.cell? q
  | [], _, _, _, _, _ => rfl
  | v :: vs, o, w, q, h, hs => by
    unfold stL
    rw [stL_far b vs (o + 1) _ q (by omega) hs]
    exact World.cell?_setCell_other w ⟨b, o, none⟩ q v (by intro e; subst e; simp at h)
theorem stL_at (b : Nat) : ∀ (vs us : List Value) (o : Nat) (w : World), CellsAt w b o us → vs.length = us.length → CellsAt (stL w b o vs) b o vs
  | [], _, _, _, _, _ => fun j v h => by simp at h
  | v :: vs, [], _, _, _, h => by simp at h
  | v :: vs, u :: us, o, w, h, hl => by
    intro j x hj
    cases j with
    | zero =>
      simp at hj
      subst hj
      unfold stL
      rw [stL_far b vs (o + 1) _ ⟨b, o + 0, none⟩ (.inr (by simp)) rfl]
      exact World.cell?_setCell_same w ⟨b, o, none⟩ v (by simpa using h 0 u rfl)
    | succ j =>
      have hus : CellsAt (w.setCell ⟨b, o, none⟩ v) b (o + 1) us := by
        intro i y hi
        rw [World.cell?_setCell_other _ _ _ _ (by intro e; injection e with _ e; omega)]
        have := h (i + 1) y (by simpa using hi)
        rwa [show o + 1 + i = o + (i + 1) by omega]
      have := stL_at b vs us (o + 1) _ hus (by simpa using hl) j x (by simpa using hj)
      unfold stL
      rwa [show o + (j + 1) = o + 1 + j by omega]
theorem stL_size (b : Nat) : ∀ (vs : List Value) (o : Nat) (w : World), (stL w b o vs).heap.size = w.heap.size
  | [], _, _ => rfl
  | v :: vs, o, w => by unfold stL; rw [stL_size b vs]; simp
theorem stL_ext {w0 : World} (b : Nat) (hb : w0.heap.size ≤ b) : ∀ (vs : List Value) (o : Nat) (w : World), Ext w0 w → Ext w0 (stL w b o vs)
  | [], _, _, h => h
  | v :: vs, o, w, h => stL_ext b hb vs (o + 1) _ (Ext.st h (by simpa using hb) v)
theorem cells_seven {w : World} {b : Nat} {x0 x1 x2 x3 x4 x5 x6 : Value} (h : w.cell? ⟨b, 0, none⟩ = some x0 ∧ w.cell? ⟨b, 1, none⟩ = some x1 ∧ w.cell? ⟨b, 2, none⟩ = some x2 ∧ w.cell? ⟨b, 3, none⟩ = some x3 ∧ w.cell? ⟨b, 4, none⟩ = some x4 ∧ w.cell? ⟨b, 5, none⟩ = some x5 ∧ w.cell? ⟨b, 6, none⟩ = some x6) :
    CellsAt w b 0 [x0, x1, x2, x3, x4, x5, x6] := by
  obtain ⟨h0, h1, h2, h3, h4, h5, h6⟩ := h
  intro j v hj
  rcases (by have := (List.getElem?_eq_some_iff.1 hj).1; simp at this; omega : j = 0 ∨ j = 1 ∨ j = 2 ∨ j = 3 ∨ j = 4 ∨ j = 5 ∨ j = 6) with rfl | rfl | rfl | rfl | rfl | rfl | rfl
  all_goals (simp at hj; subst hj; assumption)
theorem CellsAt.seven {w : World} {b : Nat} {x0 x1 x2 x3 x4 x5 x6 : Value} (h : CellsAt w b 0 [x0, x1, x2, x3, x4, x5, x6]) :
    w.cell? ⟨b, 0, none⟩ = some x0 ∧ w.cell? ⟨b, 1, none⟩ = some x1 ∧ w.cell? ⟨b, 2, none⟩ = some x2 ∧ w.cell? ⟨b, 3, none⟩ = some x3 ∧ w.cell? ⟨b, 4, none⟩ = some x4 ∧ w.cell? ⟨b, 5, none⟩ = some x5 ∧ w.cell? ⟨b, 6, none⟩ = some x6 :=
  ⟨h 0 _ rfl, h 1 _ rfl, h 2 _ rfl, h 3 _ rfl, h 4 _ rfl, h 5 _ rfl, h 6 _ rfl⟩
/-- A reach as a value; the zero value with b = false. -/
def reV (r : Re) (b : Bool) : Value := if b then .agg #[.string r.s, .int .i64 r.x, .int .i64 r.lev, .int .i64 r.mi, .int .i64 r.cl, .bool r.wt, .bool r.one] else .agg #[.string ⟨#[]⟩, .int .i64 0, .int .i64 0, .int .i64 0, .int .i64 0, .bool false, .bool false]

theorem fnClo_c (r : Re) (s : ByteArray) (n : Nat) (w : World) (h : w.cell? ⟨n, 0, none⟩ = some (.string s)) (hn : n < w.heap.size) :
    Calls Try.prog 70 #[.agg #[.string r.s, .int .i64 r.x, .int .i64 r.lev, .int .i64 r.mi, .int .i64 r.cl, .bool r.wt, .bool r.one], .pointer (some ⟨n, 0, none⟩)] w fun e w' => e = .returned (.bool (sameS r.s s)) ∧ Ext w w' := by
  go_enter Try.func70, Try.ntmps70
  go_wp2
  go_ret
  exact ⟨rfl, by (repeat (first | with_reducible exact Ext.rfl' _ | with_reducible assumption | with_reducible refine Ext.al ?_ _ | with_reducible refine Ext.dr ?_ | with_reducible refine Ext.st ?_ (by simp) _ | with_reducible refine Ext.tr ?_ (by assumption)))⟩
set_option maxHeartbeats 1000000 in
theorem indexRe_c (rs : List Re) (s : ByteArray) (i : Nat) (n : Nat) (w : World) (A : Option Addr) (c : Nat) (hl : rs.length ≤ 1000) (hA : Row 7 encRe w A rs) (hi : FstR rs s i) (h : ∀ w', Ext w w' → w'.cell? ⟨n, 0, none⟩ = some (.string s)) (hn : n < w.heap.size) :
    Calls Try.prog 69 #[.slice A rs.length c, .func (.func 70) #[] #[.pointer (some ⟨n, 0, none⟩)]] w
      fun e w' => e = .returned (.int .i64 (if i < rs.length then i else -1)) ∧ Ext w w' := by
  have HI := Lib.hid hi
  clear hi
  go_enter Try.func69, Try.ntmps69
  go_wp2
  go_loopw [5, 8] (fun _ q wr => Ext w wr ∧ ∃ k : Nat, k ≤ i ∧ q = .int .i64 k) (fun _ q _ => i - (intOf q).toNat)
  case atStart => exact ⟨Ext.rfl' _, 0, Nat.zero_le _, rfl⟩
  case round =>
    obtain ⟨hE, k, hk, rfl⟩ := hrel
    have hir := HI.out.le
    by_cases hlt : k < rs.length
    · obtain ⟨b, off, rfl, hb0, hcell⟩ := hA.re hlt
      have c := hcell _ hE
      clear hcell
      have hz := hE.sz _ hb0
      have hzn := hE.sz _ hn
      have HS := Lib.hid (fnClo_c (el rs k) s n wr (h _ hE) hzn)
      have hlz : (k : Int) < (rs.length : Int) := by omega
      have HLZ := Lib.hid hir
      clear hir
      by_cases hki : k < i
      · rw [HI.out.no k hki] at HS
        clear h hn
        generalize el rs k = r at *
        go_wp2_with (first | (go_at_call 70; with_reducible refine Calls.mono (HS.out) ?_; rintro e w1 ⟨rfl, hb⟩; have hc := hb.ccell; have hf := hb.frz; have hs := hb.sz; (try simp at hs); (try have hs0 := hs w.heap.size (by omega)); (try have hs1 := hs (w.heap.size + 1) (by omega)); (try have hs2 := hs (w.heap.size + 1 + 1) (by omega)); (try have hs3 := hs (w.heap.size + 1 + 1 + 1) (by omega))))
        exact ⟨⟨by (repeat (first | with_reducible exact Ext.rfl' _ | with_reducible assumption | with_reducible refine Ext.al ?_ _ | with_reducible refine Ext.dr ?_ | with_reducible refine Ext.st ?_ (by simp) _ | with_reducible refine Ext.tr ?_ (by assumption))), k + 1, by omega, by go_num⟩, by simp [intOf]; omega⟩
      · have hke : k = i := by omega
        subst hke
        rw [HI.out.yes (by omega)] at HS
        clear h hn
        generalize el rs k = r at *
        go_wp2_with (first | (go_at_call 70; with_reducible refine Calls.mono (HS.out) ?_; rintro e w1 ⟨rfl, hb⟩; have hc := hb.ccell; have hf := hb.frz; have hs := hb.sz; (try simp at hs); (try have hs0 := hs w.heap.size (by omega)); (try have hs1 := hs (w.heap.size + 1) (by omega)); (try have hs2 := hs (w.heap.size + 1 + 1) (by omega)); (try have hs3 := hs (w.heap.size + 1 + 1 + 1) (by omega))))
        go_ret
        exact ⟨ret_int (by first | rfl | rw [if_pos hlt]), by (repeat (first | with_reducible exact Ext.rfl' _ | with_reducible assumption | with_reducible refine Ext.al ?_ _ | with_reducible refine Ext.dr ?_ | with_reducible refine Ext.st ?_ (by simp) _ | with_reducible refine Ext.tr ?_ (by assumption)))⟩
    · have hki : i = rs.length := by omega
      have hkk : k = rs.length := by omega
      have HF : Hid (¬ i < rs.length) := Lib.hid (by omega)
      subst hkk
      go_wp2
      go_ret
      exact ⟨ret_int (by first | rfl | rw [if_neg HF.out]), hE⟩
set_option maxHeartbeats 2000000 in
theorem findReach_c (rs : List Re) (s : ByteArray) (i : Nat) (w : World) (A : Option Addr) (c : Nat) (hl : rs.length ≤ 1000) (hA : Row 7 encRe w A rs) (hi : FstR rs s i) :
    Calls Try.prog 57 #[.slice A rs.length c, .string s] w fun e w' => e = .returned (.tuple #[reV (el rs i) (decide (i < rs.length)), .bool (decide (i < rs.length))]) ∧ Ext w w' := by
  have HI := Lib.hid (fun w' n (hw : Ext w w') h hn => indexRe_c rs s i n w' A c hl (hA.ext hw) hi h hn)
  by_cases hil : i < rs.length
  · rw [if_pos hil] at HI
    rw [decide_eq_true hil]
    unfold reV
    rw [if_pos rfl]
    obtain ⟨b, off, rfl, hb0, hcell⟩ := hA.re hil
    have hiz : (i : Int) < (rs.length : Int) := by omega
    have hin : ¬ (i : Int) < 0 := by omega
    clear hi hA
    generalize el rs i = r at *
    go_enter Try.func57, Try.ntmps57
    go_upto_region 1 with fail
    refine wp_name (fun W hW => ?_)
    have hEW : Ext w W := by rw [hW]; (repeat (first | with_reducible exact Ext.rfl' _ | with_reducible assumption | with_reducible refine Ext.al ?_ _ | with_reducible refine Ext.dr ?_ | with_reducible refine Ext.st ?_ (by simp) _ | with_reducible refine Ext.tr ?_ (by assumption)))
    have s0 : ∀ w', Ext W w' → w'.cell? ⟨w.heap.size, 0, none⟩ = some (.string s) := by
      intro w' hw
      rw [hw.ccell _ _ (by rw [hW]; simp; omega), hW]
      simp [go_sem]
    have kz : CellsAt W (w.heap.size + 1) 0 [.string ⟨#[]⟩, .int .i64 0, .int .i64 0, .int .i64 0, .int .i64 0, .bool false, .bool false] := by rw [hW]; refine cells_seven ⟨?_, ?_, ?_, ?_, ?_, ?_, ?_⟩ <;> simp [go_sem]
    have fz : ∀ o, W.frozen? ⟨w.heap.size + 1, o, none⟩ = false := by intro o; rw [hW]; simp [go_sem]
    have hz0 : w.heap.size < W.heap.size := by rw [hW]; simp; omega
    have hz1 : w.heap.size + 1 < W.heap.size := by rw [hW]; simp
    clear hW
    go_upto_region 2 with (first | (go_at_call 69; with_reducible refine Calls.mono (HI.out _ _ hEW s0 hz0) ?_; rintro e w1 ⟨rfl, hb⟩))
    have kz1 : CellsAt w1 (w.heap.size + 1) 0 [.string ⟨#[]⟩, .int .i64 0, .int .i64 0, .int .i64 0, .int .i64 0, .bool false, .bool false] := by intro j v hj; rw [hb.ccell _ _ hz1]; exact kz j v hj
    have hf : ∀ o, w1.frozen? ⟨w.heap.size + 1, o, none⟩ = false := fun o => (hb.frz _ o hz1).trans (fz o)
    have c1 := hcell _ (hEW.tr hb)
    have hzb := (hEW.tr hb).sz _ hb0
    have hE1 : Ext w w1 := hEW.tr hb
    obtain ⟨z0, z1, z2, z3, z4, z5, z6⟩ := kz1.seven
    have hz2 := hb.sz _ hz1
    clear s0 kz fz hcell hb hEW hz0 hz1
    go_wp2
    have hSL := stL_at (w.heap.size + 1) [.string r.s, .int .i64 r.x, .int .i64 r.lev, .int .i64 r.mi, .int .i64 r.cl, .bool r.wt, .bool r.one] _ 0 _ kz1 rfl
    have hXL := stL_ext (w.heap.size + 1) (by first | omega | (simp; done) | (simp; omega)) [.string r.s, .int .i64 r.x, .int .i64 r.lev, .int .i64 r.mi, .int .i64 r.cl, .bool r.wt, .bool r.one] 0 _ hE1
    show bodyPost _ _ _ _ _ (stL (w1) (w.heap.size + 1) 0 [.string r.s, .int .i64 r.x, .int .i64 r.lev, .int .i64 r.mi, .int .i64 r.cl, .bool r.wt, .bool r.one])
    generalize stL (w1) (w.heap.size + 1) 0 [.string r.s, .int .i64 r.x, .int .i64 r.lev, .int .i64 r.mi, .int .i64 r.cl, .bool r.wt, .bool r.one] = WL at hSL hXL ⊢
    obtain ⟨s0, s1, s2, s3, s4, s5, s6⟩ := hSL.seven
    refine bodyPost_ret (v := .tuple #[.agg #[.string r.s, .int .i64 r.x, .int .i64 r.lev, .int .i64 r.mi, .int .i64 r.cl, .bool r.wt, .bool r.one], .bool true]) (by simp [results, Try.results57, go_sem, s0, s1, s2, s3, s4, s5, s6]) rfl ⟨rfl, hXL⟩
  · rw [if_neg hil] at HI
    rw [decide_eq_false hil]
    unfold reV
    rw [if_neg (by decide)]
    clear hi hA
    go_enter Try.func57, Try.ntmps57
    go_upto_region 1 with fail
    refine wp_name (fun W hW => ?_)
    have hEW : Ext w W := by rw [hW]; (repeat (first | with_reducible exact Ext.rfl' _ | with_reducible assumption | with_reducible refine Ext.al ?_ _ | with_reducible refine Ext.dr ?_ | with_reducible refine Ext.st ?_ (by simp) _ | with_reducible refine Ext.tr ?_ (by assumption)))
    have s0 : ∀ w', Ext W w' → w'.cell? ⟨w.heap.size, 0, none⟩ = some (.string s) := by
      intro w' hw
      rw [hw.ccell _ _ (by rw [hW]; simp; omega), hW]
      simp [go_sem]
    have kz : CellsAt W (w.heap.size + 1) 0 [.string ⟨#[]⟩, .int .i64 0, .int .i64 0, .int .i64 0, .int .i64 0, .bool false, .bool false] := by rw [hW]; refine cells_seven ⟨?_, ?_, ?_, ?_, ?_, ?_, ?_⟩ <;> simp [go_sem]
    have fz : ∀ o, W.frozen? ⟨w.heap.size + 1, o, none⟩ = false := by intro o; rw [hW]; simp [go_sem]
    have hz0 : w.heap.size < W.heap.size := by rw [hW]; simp; omega
    have hz1 : w.heap.size + 1 < W.heap.size := by rw [hW]; simp
    clear hW
    go_upto_region 2 with (first | (go_at_call 69; with_reducible refine Calls.mono (HI.out _ _ hEW s0 hz0) ?_; rintro e w1 ⟨rfl, hb⟩))
    have kz1 : CellsAt w1 (w.heap.size + 1) 0 [.string ⟨#[]⟩, .int .i64 0, .int .i64 0, .int .i64 0, .int .i64 0, .bool false, .bool false] := by intro j v hj; rw [hb.ccell _ _ hz1]; exact kz j v hj
    have hf : ∀ o, w1.frozen? ⟨w.heap.size + 1, o, none⟩ = false := fun o => (hb.frz _ o hz1).trans (fz o)
    have hE1 : Ext w w1 := hEW.tr hb
    obtain ⟨z0, z1, z2, z3, z4, z5, z6⟩ := kz1.seven
    have hz2 := hb.sz _ hz1
    clear s0 kz fz hb hEW hz0 hz1
    go_wp2
    have hSL := stL_at (w.heap.size + 1) [.string ⟨#[]⟩, .int .i64 0, .int .i64 0, .int .i64 0, .int .i64 0, .bool false, .bool false] _ 0 _ kz1 rfl
    have hXL := stL_ext (w.heap.size + 1) (by first | omega | (simp; done) | (simp; omega)) [.string ⟨#[]⟩, .int .i64 0, .int .i64 0, .int .i64 0, .int .i64 0, .bool false, .bool false] 0 _ hE1
    show bodyPost _ _ _ _ _ (stL (w1) (w.heap.size + 1) 0 [.string ⟨#[]⟩, .int .i64 0, .int .i64 0, .int .i64 0, .int .i64 0, .bool false, .bool false])
    generalize stL (w1) (w.heap.size + 1) 0 [.string ⟨#[]⟩, .int .i64 0, .int .i64 0, .int .i64 0, .int .i64 0, .bool false, .bool false] = WL at hSL hXL ⊢
    obtain ⟨s0, s1, s2, s3, s4, s5, s6⟩ := hSL.seven
    refine bodyPost_ret (v := .tuple #[.agg #[.string ⟨#[]⟩, .int .i64 0, .int .i64 0, .int .i64 0, .int .i64 0, .bool false, .bool false], .bool false]) (by simp [results, Try.results57, go_sem, s0, s1, s2, s3, s4, s5, s6]) rfl ⟨rfl, hXL⟩

theorem vinRe_c (r : Re) (w : World) :
    Calls Try.prog 63 #[.agg #[.string r.s, .int .i64 r.x, .int .i64 r.lev, .int .i64 r.mi, .int .i64 r.cl, .bool r.wt, .bool r.one]] w fun e w' => e = .returned (.bool (inRe r)) ∧ Ext w w' := by
  have H1 := Lib.hid (fun w => vin_c r.x (-1000000) 1000000 w)
  have H2 := Lib.hid (fun w => vin_c r.lev (-20000) 20000 w)
  have H3 := Lib.hid (fun w => vin_c r.mi 1 1000 w)
  have H4 := Lib.hid (fun w => vin_c r.cl 0 1000 w)
  unfold inRe
  cases h1 : withinB r.x (-1000000) 1000000 <;> cases h2 : withinB r.lev (-20000) 20000 <;> cases h3 : withinB r.mi 1 1000 <;> cases h4 : withinB r.cl 0 1000
  all_goals
    rw [h1] at H1
    rw [h2] at H2
    rw [h3] at H3
    rw [h4] at H4
    clear h1 h2 h3 h4
    go_enter Try.func63, Try.ntmps63
    go_wp2_with (first | (go_at_call 26; with_reducible refine Calls.mono (H1.out _) ?_; rintro e w' ⟨rfl, rfl⟩) | (go_at_call 26; with_reducible refine Calls.mono (H2.out _) ?_; rintro e w' ⟨rfl, rfl⟩) | (go_at_call 26; with_reducible refine Calls.mono (H3.out _) ?_; rintro e w' ⟨rfl, rfl⟩) | (go_at_call 26; with_reducible refine Calls.mono (H4.out _) ?_; rintro e w' ⟨rfl, rfl⟩))
    go_ret
    exact ⟨rfl, by (repeat (first | with_reducible exact Ext.rfl' _ | with_reducible assumption | with_reducible refine Ext.al ?_ _ | with_reducible refine Ext.dr ?_ | with_reducible refine Ext.st ?_ (by simp) _ | with_reducible refine Ext.tr ?_ (by assumption)))⟩
end Go.Proofs.Ytmhmfjgahhgbpaa
