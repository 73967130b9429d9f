/- Contracts of the functions that only compute with numbers. Contracts of the functions on single points. Contracts of the functions on points, with the range. -/
import Derived.Test.YtgbkjioajmnjbaaGreatTtail
import Derived.Test.YtgbkjioajmnjbaaGreatPure6

namespace Go.Proofs.YtgbkjioajmnjbaaGreat
open Go Go.RowKit

theorem within3_c (n lo hi : Int) (w : World) :
    Calls Tryz.prog 31 #[.int .i64 n, .int .i64 lo, .int .i64 hi] w fun e w' => e = .returned (.bool (withinB n lo hi)) ∧ w = w' := by
  unfold withinB
  go_enter Tryz.func31, Tryz.ntmps31
  by_cases h : lo ≤ n
  · go_wp2; go_ret; exact ⟨ret_bool (by first | (simp [h]; done) | (simp [h]; omega)), rfl⟩
  · go_wp2; go_ret; exact ⟨ret_bool (by first | (simp; done) | (simp; omega)), rfl⟩

theorem within2_c (n m : Int) (w : World) (h0 : 0 ≤ m) (h1 : m ≤ 9000000000000000000) :
    Calls Tryz.prog 91 #[.int .i64 n, .int .i64 m] w fun e w' => e = .returned (.bool (withinB n (-m) m)) ∧ w = w' := by
  unfold withinB
  go_enter Tryz.func91, Tryz.ntmps91
  by_cases h : -m ≤ n
  · go_wp2; go_ret; exact ⟨ret_bool (by first | (simp [h]; done) | (simp [h]; omega)), rfl⟩
  · go_wp2; go_ret; exact ⟨ret_bool (by first | (simp; done) | (simp; omega)), rfl⟩

theorem q_abs_c (n : Int) (w : World) :
    Calls Tryz.prog 75 #[.int .i64 n] w fun e w' => e = .returned (.int .i64 (absW n)) ∧ w = w' := by
  unfold absW
  go_enter Tryz.func75, Tryz.ntmps75
  by_cases h : n < 0
  · go_wp2; go_ret; exact ⟨ret_int (by simp), rfl⟩
  · go_wp2; go_ret; exact ⟨ret_int (by simp), rfl⟩

theorem isNaN_c (n : Int) (w : World) :
    Calls Tryz.prog 112 #[.int .i64 n] w fun e w' => e = .returned (.bool false) ∧ w = w' := by
  go_enter Tryz.func112, Tryz.ntmps112
  go_wp2; go_ret; exact ⟨ret_bool (by simp), rfl⟩

theorem q_mod_c (n m : Int) (w : World) (h0 : 0 < m) (h1 : m ≤ 4000000000000000000) :
    Calls Tryz.prog 92 #[.int .i64 n, .int .i64 m] w fun e w' => e = .returned (.int .i64 (n % m)) ∧ w = w' := by
  obtain ⟨t1, t2, t3, t4⟩ := tmod_form n m h0
  have H := Lib.hid (And.intro t1 t2); clear t1 t2
  go_enter Tryz.func92, Tryz.ntmps92
  go_wp2
  · go_ret; exact ⟨ret_int (by rw [(H.out.1 (by assumption)).1]), rfl⟩
  · go_ret; exact ⟨ret_int (by rw [(H.out.2 (by assumption)).1]), rfl⟩

end Go.Proofs.YtgbkjioajmnjbaaGreat

namespace Go.Proofs.YtgbkjioajmnjbaaGreat
open Go Go.RowKit

theorem rdot_c (ax ay bx by_ cx cy : Int) (w : World) :
    Calls Tryz.prog 73 #[.agg #[.int .i64 ax, .int .i64 ay], .agg #[.int .i64 bx, .int .i64 by_], .agg #[.int .i64 cx, .int .i64 cy]] w
      fun e w' => e = .returned (.int .i64 (dotW ⟨ax, ay⟩ ⟨bx, by_⟩ ⟨cx, cy⟩)) ∧ Ext w w' := by
  go_enter Tryz.func73, Tryz.ntmps73
  go_wp2; go_ret
  exact ⟨rfl, (((Ext.rfl' w).al _).al _).al _⟩

theorem dot_c (ax ay bx by_ cx cy : Int) (w : World) :
    Calls Tryz.prog 87 #[.agg #[.int .i64 ax, .int .i64 ay], .agg #[.int .i64 bx, .int .i64 by_], .agg #[.int .i64 cx, .int .i64 cy]] w
      fun e w' => e = .returned (.int .i64 (dotW ⟨ax, ay⟩ ⟨bx, by_⟩ ⟨cx, cy⟩)) ∧ Ext w w' := by
  go_enter Tryz.func87, Tryz.ntmps87
  go_wp2; go_ret
  exact ⟨rfl, (((Ext.rfl' w).al _).al _).al _⟩

theorem square_c (ax ay bx by_ : Int) (w : World) :
    Calls Tryz.prog 104 #[.agg #[.int .i64 ax, .int .i64 ay], .agg #[.int .i64 bx, .int .i64 by_]] w
      fun e w' => e = .returned (.int .i64 (dotW ⟨ax, ay⟩ ⟨bx, by_⟩ ⟨bx, by_⟩)) ∧ Ext w w' := by
  go_enter Tryz.func104, Tryz.ntmps104
  go_wp2_with (first | (go_at_call 87; refine Calls.mono (dot_c _ _ _ _ _ _ _) ?_; rintro e w1 ⟨rfl, hb⟩; have hc := hb.ccell; have hf := hb.frz; have hs := hb.sz; (try simp at hs); (try have hs0 := hs w.heap.size (by omega)); (try have hs1 := hs (w.heap.size + 1) (by omega)); (try have hs2 := hs (w.heap.size + 1 + 1) (by omega)); (try have hs3 := hs (w.heap.size + 1 + 1 + 1) (by omega))))
  go_ret
  exact ⟨rfl, (((Ext.rfl' w).al _).al _).tr hb⟩

theorem rsquare_c (ax ay bx by_ : Int) (w : World) :
    Calls Tryz.prog 74 #[.agg #[.int .i64 ax, .int .i64 ay], .agg #[.int .i64 bx, .int .i64 by_]] w
      fun e w' => e = .returned (.int .i64 (dotW ⟨ax, ay⟩ ⟨bx, by_⟩ ⟨bx, by_⟩)) ∧ Ext w w' := by
  go_enter Tryz.func74, Tryz.ntmps74
  go_wp2_with (first | (go_at_call 73; refine Calls.mono (rdot_c _ _ _ _ _ _ _) ?_; rintro e w1 ⟨rfl, hb⟩; have hc := hb.ccell; have hf := hb.frz; have hs := hb.sz; (try simp at hs); (try have hs0 := hs w.heap.size (by omega)); (try have hs1 := hs (w.heap.size + 1) (by omega)); (try have hs2 := hs (w.heap.size + 1 + 1) (by omega)); (try have hs3 := hs (w.heap.size + 1 + 1 + 1) (by omega))))
  go_ret
  exact ⟨rfl, (((Ext.rfl' w).al _).al _).tr hb⟩

theorem rgood_c (x y : Int) (w : World) :
    Calls Tryz.prog 29 #[.agg #[.int .i64 x, .int .i64 y]] w fun e w' => e = .returned (.bool (good ⟨x, y⟩)) ∧ Ext w w' := by
  unfold good
  go_enter Tryz.func29, Tryz.ntmps29
  cases h : withinB x (-1000000) 1000000
  · have h' := Lib.hid h
    go_wp2_with (first | (go_at_call 31; refine Calls.mono (within3_c _ _ _ _) ?_; rintro e w' ⟨rfl, rfl⟩))
    go_ret
    exact ⟨by simp, (Ext.rfl' w).al _⟩
  · go_wp2_with (first | (go_at_call 31; refine Calls.mono (within3_c _ _ _ _) ?_; rintro e w' ⟨rfl, rfl⟩))
    go_ret
    exact ⟨by simp, (Ext.rfl' w).al _⟩

theorem inRange_c (l : List Pt) (w : World) (A : Option Addr) (c : Nat) (hl : l.length ≤ maxLen) (hA : Row 2 encP w A l) :
    Calls Tryz.prog 69 #[.slice A l.length c] w
      fun e w' => e = .returned (.bool (allGood l)) ∧ Ext w w' := by
  unfold maxLen at hl
  unfold allGood
  go_enter Tryz.func69, Tryz.ntmps69
  go_wp2
  go_loopw [4, 7] (fun _ i wr => Ext w wr ∧ ∃ k : Nat, k ≤ l.length ∧ i = .int .i64 k ∧ Hid ((l.take k).all good = true)) (fun _ i _ => l.length - (intOf i).toNat)
  case atStart => exact ⟨Ext.rfl' _, 0, Nat.zero_le _, rfl, by simp [Hid]⟩
  case round =>
    obtain ⟨hE, k, hk, rfl, hK⟩ := hrel
    by_cases hlt : k < l.length
    · obtain ⟨b, off, rfl, hb0, hcell⟩ := hA.p2 hlt
      have c := hcell _ hE
      clear hcell
      have hz := hE.sz _ hb0
      have hgood : good l[k] = (withinB l[k].x (-1000000) 1000000 && withinB l[k].y (-1000000) 1000000) := rfl
      have HG := Lib.hid hgood; clear hgood
      cases h1 : withinB l[k].x (-1000000) 1000000
      all_goals have H1 := Lib.hid h1
      · go_wp2_with (first | (go_at_call 91; refine Calls.mono (within2_c _ _ _ (by omega) (by omega)) ?_; rintro e w' ⟨rfl, rfl⟩))
        go_ret
        exact ⟨ret_bool (all_false _ _ k hlt (by rw [HG.out, H1.out]; rfl)).symm, by (repeat (first | with_reducible exact Ext.rfl' _ | with_reducible assumption | with_reducible refine Ext.al ?_ _ | with_reducible refine Ext.dr ?_ | with_reducible refine Ext.st ?_ (by simp) _ | with_reducible refine Ext.tr ?_ (by assumption)))⟩
      · cases h2 : withinB l[k].y (-1000000) 1000000
        all_goals have H2 := Lib.hid h2
        · go_wp2_with (first | (go_at_call 91; refine Calls.mono (within2_c _ _ _ (by omega) (by omega)) ?_; rintro e w' ⟨rfl, rfl⟩))
          go_ret
          exact ⟨ret_bool (all_false _ _ k hlt (by rw [HG.out, H1.out, H2.out]; rfl)).symm, by (repeat (first | with_reducible exact Ext.rfl' _ | with_reducible assumption | with_reducible refine Ext.al ?_ _ | with_reducible refine Ext.dr ?_ | with_reducible refine Ext.st ?_ (by simp) _ | with_reducible refine Ext.tr ?_ (by assumption)))⟩
        · go_wp2_with (first | (go_at_call 91; refine Calls.mono (within2_c _ _ _ (by omega) (by omega)) ?_; rintro e w' ⟨rfl, rfl⟩))
          go_roundw
          case rel => exact ⟨by (repeat (first | with_reducible exact Ext.rfl' _ | with_reducible assumption | with_reducible refine Ext.al ?_ _ | with_reducible refine Ext.dr ?_ | with_reducible refine Ext.st ?_ (by simp) _ | with_reducible refine Ext.tr ?_ (by assumption))), k + 1, by omega, by go_num, all_take_succ _ _ k hlt hK.out (by rw [HG.out, H1.out, H2.out]; rfl)⟩
          case measure => simp [intOf]; omega
    · go_wp2
      go_ret
      exact ⟨ret_bool (take_all _ _ k (by omega) hK.out).symm, hE⟩

end Go.Proofs.YtgbkjioajmnjbaaGreat

namespace Go.Proofs.YtgbkjioajmnjbaaGreat
open Go Go.RowKit

theorem inRange2_c (ax ay bx by_ : Int) (w : World) (c n : Nat) (t : TypeId) (hn : n = w.heap.size) :
    Calls Tryz.prog 69 #[.slice (some ⟨n, 0, none⟩) 2 c] (w.alloc (.cells #[.int .i64 ax, .int .i64 ay, .int .i64 bx, .int .i64 by_] t))
      fun e w' => e = .returned (.bool (allGood [⟨ax, ay⟩, ⟨bx, by_⟩])) ∧ Ext (w.alloc (.cells #[.int .i64 ax, .int .i64 ay, .int .i64 bx, .int .i64 by_] t)) w' :=
  inRange_c [⟨ax, ay⟩, ⟨bx, by_⟩] _ _ c (small_len (by simp)) (Row.new' encP_len _ _ _ _ _ hn rfl)
theorem inRange3_c (ax ay bx by_ cx cy : Int) (w : World) (c n : Nat) (t : TypeId) (hn : n = w.heap.size) :
    Calls Tryz.prog 69 #[.slice (some ⟨n, 0, none⟩) 3 c] (w.alloc (.cells #[.int .i64 ax, .int .i64 ay, .int .i64 bx, .int .i64 by_, .int .i64 cx, .int .i64 cy] t))
      fun e w' => e = .returned (.bool (allGood [⟨ax, ay⟩, ⟨bx, by_⟩, ⟨cx, cy⟩])) ∧ Ext (w.alloc (.cells #[.int .i64 ax, .int .i64 ay, .int .i64 bx, .int .i64 by_, .int .i64 cx, .int .i64 cy] t)) w' :=
  inRange_c [⟨ax, ay⟩, ⟨bx, by_⟩, ⟨cx, cy⟩] _ _ c (small_len (by simp)) (Row.new' encP_len _ _ _ _ _ hn rfl)
theorem inRange4_c (ax ay bx by_ cx cy dx dy : Int) (w : World) (c n : Nat) (t : TypeId) (hn : n = w.heap.size) :
    Calls Tryz.prog 69 #[.slice (some ⟨n, 0, none⟩) 4 c] (w.alloc (.cells #[.int .i64 ax, .int .i64 ay, .int .i64 bx, .int .i64 by_, .int .i64 cx, .int .i64 cy, .int .i64 dx, .int .i64 dy] t))
      fun e w' => e = .returned (.bool (allGood [⟨ax, ay⟩, ⟨bx, by_⟩, ⟨cx, cy⟩, ⟨dx, dy⟩])) ∧ Ext (w.alloc (.cells #[.int .i64 ax, .int .i64 ay, .int .i64 bx, .int .i64 by_, .int .i64 cx, .int .i64 cy, .int .i64 dx, .int .i64 dy] t)) w' :=
  inRange_c [⟨ax, ay⟩, ⟨bx, by_⟩, ⟨cx, cy⟩, ⟨dx, dy⟩] _ _ c (small_len (by simp)) (Row.new' encP_len _ _ _ _ _ hn rfl)

theorem gsquare_c (ax ay bx by_ : Int) (w : World) :
    Calls Tryz.prog 90 #[.agg #[.int .i64 ax, .int .i64 ay], .agg #[.int .i64 bx, .int .i64 by_]] w
      fun e w' => e = .returned (.int .i64 (if allGood [⟨ax, ay⟩, ⟨bx, by_⟩] then dotW ⟨ax, ay⟩ ⟨bx, by_⟩ ⟨bx, by_⟩ else 0)) ∧ Ext w w' := by
  cases h : allGood [⟨ax, ay⟩, ⟨bx, by_⟩]
  all_goals
    go_enter Tryz.func90, Tryz.ntmps90
    go_wp2_with (first | (go_at_call 69; refine Calls.mono (inRange2_c _ _ _ _ _ _ _ _ ?_) ?_; (focus simp); rintro e w1 ⟨rfl, hb⟩; have hc := hb.ccell; have hf := hb.frz; have hs := hb.sz; (try simp at hs); (try have hs0 := hs w.heap.size (by omega)); (try have hs1 := hs (w.heap.size + 1) (by omega)); (try have hs2 := hs (w.heap.size + 1 + 1) (by omega)); (try have hs3 := hs (w.heap.size + 1 + 1 + 1) (by omega))) | (go_at_call 104; refine Calls.mono (square_c _ _ _ _ _) ?_; rintro e w1 ⟨rfl, hb⟩; have hc := hb.ccell; have hf := hb.frz; have hs := hb.sz; (try simp at hs); (try have hs0 := hs w.heap.size (by omega)); (try have hs1 := hs (w.heap.size + 1) (by omega)); (try have hs2 := hs (w.heap.size + 1 + 1) (by omega)); (try have hs3 := hs (w.heap.size + 1 + 1 + 1) (by omega))))
    go_ret
    exact ⟨by simp, by (repeat (first | with_reducible exact Ext.rfl' _ | with_reducible assumption | with_reducible refine Ext.al ?_ _ | with_reducible refine Ext.dr ?_ | with_reducible refine Ext.st ?_ (by simp) _ | with_reducible refine Ext.tr ?_ (by assumption)))⟩
end Go.Proofs.YtgbkjioajmnjbaaGreat
