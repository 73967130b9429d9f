/- The contracts of Draught, MassAt, of the reference's. -/
import Derived.Test.YtmhmfjgahhgbpaaVlad
import Derived.Test.YtmhmfjgahhgbpaaVrlad
namespace Go.Proofs.Ytmhmfjgahhgbpaa
open Go Go.RowKit Go.IntWalk

theorem GoodH.ends {l : List Pt} (hG : GoodH l) {w : World} {A : Option Addr} (hA : Row 2 encP w A l) :
    ∃ b off, A = some ⟨b, off, none⟩ ∧ b < w.heap.size ∧ ∀ w', Ext w w' → w'.cell? ⟨b, off, none⟩ = some (.int .i64 (gt l 0).x) ∧ w'.cell? ⟨b, off + (l.length - 1) * 2, none⟩ = some (.int .i64 (gt l (l.length - 1)).x) := by
  have h2 := hG.two
  obtain ⟨b, off, h1, h3, h4⟩ := hA.p2 (k := 0) (by omega)
  subst h1
  have h5 := hA.r2 (k := l.length - 1) (by omega)
  refine ⟨b, off, rfl, h3, fun w' hw => ⟨?_, ?_⟩⟩
  · have := (h4 w' hw).1
    rw [gt_lt l 0 (by omega)]
    simpa using this
  · have := (h5 w' hw).1
    rw [gt_lt l (l.length - 1) (by omega)]
    exact this
set_option maxHeartbeats 2000000 in
theorem masses_c (s : ByteArray) (hold : Int) (l : List Pt) (w : World) (A : Option Addr) (c : Nat) (hG : GoodH l) (hA : Row 2 encP w A l) :
    Calls Try.prog 25 #[.agg #[.string s, .int .i64 hold, .slice A l.length c]] w fun e w' => e = .returned (.tuple #[.int .i64 (gt l 0).x, .int .i64 (gt l (l.length - 1)).x]) ∧ Ext w w' := by
  obtain ⟨b, off, rfl, hb0, hcell⟩ := hG.ends hA
  have h2 := hG.two
  have h40 := hG.len
  have c0 := hcell _ (Ext.rfl' w)
  clear hcell
  generalize (gt l 0).x = x0 at *
  generalize (gt l (l.length - 1)).x = x1 at *
  have hw1 : IntKind.i64.wrap ((l.length : Int) - 1) = ((l.length - 1 : Nat) : Int) := by rw [i64_in _ (by omega)]; omega
  have hz : (((l.length - 1 : Nat) : Int)) < (l.length : Int) := by omega
  generalize hn : l.length - 1 = n at *
  have hl0 : (0 : Int) < (l.length : Int) := by omega
  have HN := Lib.hid hn
  clear hn hG hA h2 h40
  go_enter Try.func25, Try.ntmps25
  go_upto_region 1 with fail
  refine region_grow (by kernel_rfl) (by kernel_rfl) ?_
  repeat (first | go_big_quiet_step (first  | fail) | quiet_step (first  | fail))
  refine wpQuiet_nil ?_
  intro w1 hb
  have hc := hb.ccell
  have hf := hb.frz
  have hs := hb.sz
  (try simp at hs); (try have hs0 := hs w.heap.size (by omega)); (try have hs1 := hs (w.heap.size + 1) (by omega)); (try have hs2 := hs (w.heap.size + 1 + 1) (by omega)); (try have hs3 := hs (w.heap.size + 1 + 1 + 1) (by omega))
  (try simp only [IntWalk.i64_left])
  go_wp2
  exact bodyPost_ret (v := .tuple #[.int .i64 x0, .int .i64 x1]) (by simp [results, Try.results25, go_sem]) rfl ⟨rfl, by (repeat (first | with_reducible exact Ext.rfl' _ | with_reducible assumption | with_reducible refine Ext.al ?_ _ | with_reducible refine Ext.dr ?_ | with_reducible refine Ext.st ?_ (by simp) _ | with_reducible refine Ext.tr ?_ (by assumption)))⟩
set_option maxHeartbeats 2000000 in
theorem rends_c (s : ByteArray) (hold : Int) (l : List Pt) (w : World) (A : Option Addr) (c : Nat) (hG : GoodH l) (hA : Row 2 encP w A l) :
    Calls Try.prog 31 #[.agg #[.string s, .int .i64 hold, .slice A l.length c]] w fun e w' => e = .returned (.tuple #[.int .i64 (gt l 0).x, .int .i64 (gt l (l.length - 1)).x]) ∧ Ext w w' := by
  obtain ⟨b, off, rfl, hb0, hcell⟩ := hG.ends hA
  have h2 := hG.two
  have h40 := hG.len
  have c0 := hcell _ (Ext.rfl' w)
  clear hcell
  generalize (gt l 0).x = x0 at *
  generalize (gt l (l.length - 1)).x = x1 at *
  have hw1 : IntKind.i64.wrap ((l.length : Int) - 1) = ((l.length - 1 : Nat) : Int) := by rw [i64_in _ (by omega)]; omega
  have hz : (((l.length - 1 : Nat) : Int)) < (l.length : Int) := by omega
  generalize hn : l.length - 1 = n at *
  have hl0 : (0 : Int) < (l.length : Int) := by omega
  have HN := Lib.hid hn
  clear hn hG hA h2 h40
  go_enter Try.func31, Try.ntmps31
  go_upto_region 1 with fail
  refine region_grow (by kernel_rfl) (by kernel_rfl) ?_
  repeat (first | go_big_quiet_step (first  | fail) | quiet_step (first  | fail))
  refine wpQuiet_nil ?_
  intro w1 hb
  have hc := hb.ccell
  have hf := hb.frz
  have hs := hb.sz
  (try simp at hs); (try have hs0 := hs w.heap.size (by omega)); (try have hs1 := hs (w.heap.size + 1) (by omega)); (try have hs2 := hs (w.heap.size + 1 + 1) (by omega)); (try have hs3 := hs (w.heap.size + 1 + 1 + 1) (by omega))
  (try simp only [IntWalk.i64_left])
  go_wp2
  exact bodyPost_ret (v := .tuple #[.int .i64 x0, .int .i64 x1]) (by simp [results, Try.results31, go_sem]) rfl ⟨rfl, by (repeat (first | with_reducible exact Ext.rfl' _ | with_reducible assumption | with_reducible refine Ext.al ?_ _ | with_reducible refine Ext.dr ?_ | with_reducible refine Ext.st ?_ (by simp) _ | with_reducible refine Ext.tr ?_ (by assumption)))⟩

set_option maxHeartbeats 4000000 in
theorem draught_c (s : ByteArray) (hold : Int) (l : List Pt) (m d q : Int) (w : World) (A : Option Addr) (c : Nat) (hl : l.length ≤ 1000) (hA : Row 2 encP w A l) (hR : DraR s hold l m d q) :
    Calls Try.prog 7 #[.agg #[.string s, .int .i64 hold, .slice A l.length c], .int .i64 m] w fun e w' => e = .returned (.tuple #[.int .i64 d, .int .i64 q]) ∧ Ext w w' := by
  have HC := Lib.hid (fun w' (hw : Ext w w') => checkHopper_c s hold l w' A c hl (hA.ext hw))
  rcases hR with ⟨h0, rfl, rfl⟩ | ⟨h0, h1, rfl, rfl⟩ | ⟨h0, h1, rfl, rfl⟩
  · generalize hopE s hold l = E at *
    have h0' : (E == 0) = false := by simp [h0]
    have h0'' : (E != 0) = true := by simp [h0]
    go_enter Try.func7, Try.ntmps7
    go_wp2_with (first | (go_at_call 11; with_reducible refine Calls.mono (HC.out _ (by (repeat (first | with_reducible exact Ext.rfl' _ | with_reducible assumption | with_reducible refine Ext.al ?_ _ | with_reducible refine Ext.dr ?_ | with_reducible refine Ext.st ?_ (by simp) _ | with_reducible refine Ext.tr ?_ (by assumption))))) ?_; rintro e w1 ⟨rfl, hb⟩; have hc := hb.ccell; have hf := hb.frz; have hs := hb.sz; (try simp at hs); (try have hs0 := hs w.heap.size (by omega)); (try have hs1 := hs (w.heap.size + 1) (by omega)); (try have hs2 := hs (w.heap.size + 1 + 1) (by omega)); (try have hs3 := hs (w.heap.size + 1 + 1 + 1) (by omega))))
    exact bodyPost_ret (v := .tuple #[.int .i64 0, .int .i64 E]) (by simp [results, Try.results7, go_sem]) rfl ⟨rfl, by (repeat (first | with_reducible exact Ext.rfl' _ | with_reducible assumption | with_reducible refine Ext.al ?_ _ | with_reducible refine Ext.dr ?_ | with_reducible refine Ext.st ?_ (by simp) _ | with_reducible refine Ext.tr ?_ (by assumption)))⟩
  all_goals
    have hG := hop_good h0
    rw [h0] at HC
    have HM := Lib.hid (fun w' (hw : Ext w w') => masses_c s hold l w' A c hG (hA.ext hw))
    have HW := Lib.hid (fun w => vin_c m (gt l 0).x (gt l (l.length - 1)).x w)
    rw [h1] at HW
  · generalize (gt l 0).x = x0 at *
    generalize (gt l (l.length - 1)).x = x1 at *
    clear h0 h1 hG
    go_enter Try.func7, Try.ntmps7
    go_wp2_with (first | (go_at_call 11; with_reducible refine Calls.mono (HC.out _ (by (repeat (first | with_reducible exact Ext.rfl' _ | with_reducible assumption | with_reducible refine Ext.al ?_ _ | with_reducible refine Ext.dr ?_ | with_reducible refine Ext.st ?_ (by simp) _ | with_reducible refine Ext.tr ?_ (by assumption))))) ?_; rintro e w1 ⟨rfl, hb⟩; have hc := hb.ccell; have hf := hb.frz; have hs := hb.sz; (try simp at hs); (try have hs0 := hs w.heap.size (by omega)); (try have hs1 := hs (w.heap.size + 1) (by omega)); (try have hs2 := hs (w.heap.size + 1 + 1) (by omega)); (try have hs3 := hs (w.heap.size + 1 + 1 + 1) (by omega))) | (go_at_call 25; with_reducible refine Calls.mono (HM.out _ (by (repeat (first | with_reducible exact Ext.rfl' _ | with_reducible assumption | with_reducible refine Ext.al ?_ _ | with_reducible refine Ext.dr ?_ | with_reducible refine Ext.st ?_ (by simp) _ | with_reducible refine Ext.tr ?_ (by assumption))))) ?_; rintro e w1 ⟨rfl, hb⟩; have hc := hb.ccell; have hf := hb.frz; have hs := hb.sz; (try simp at hs); (try have hs0 := hs w.heap.size (by omega)); (try have hs1 := hs (w.heap.size + 1) (by omega)); (try have hs2 := hs (w.heap.size + 1 + 1) (by omega)); (try have hs3 := hs (w.heap.size + 1 + 1 + 1) (by omega))) | (go_at_call 26; with_reducible refine Calls.mono (HW.out _) ?_; rintro e w' ⟨rfl, rfl⟩))
    exact bodyPost_ret (v := .tuple #[.int .i64 0, .int .i64 2]) (by simp [results, Try.results7, go_sem]) rfl ⟨rfl, by (repeat (first | with_reducible exact Ext.rfl' _ | with_reducible assumption | with_reducible refine Ext.al ?_ _ | with_reducible refine Ext.dr ?_ | with_reducible refine Ext.st ?_ (by simp) _ | with_reducible refine Ext.tr ?_ (by assumption)))⟩
  · have h2 : (gt l 0).x ≤ m ∧ m ≤ (gt l (l.length - 1)).x := by simpa [withinB] using h1
    have HD := Lib.hid (fun w' (hw : Ext w w') => draughtOf_c s hold l m w' A c hG h2.1 h2.2 (hA.ext hw))
    generalize lad l m = dd at *
    generalize (gt l 0).x = x0 at *
    generalize (gt l (l.length - 1)).x = x1 at *
    clear h0 h1 hG h2
    go_enter Try.func7, Try.ntmps7
    go_wp2_with (first | (go_at_call 11; with_reducible refine Calls.mono (HC.out _ (by (repeat (first | with_reducible exact Ext.rfl' _ | with_reducible assumption | with_reducible refine Ext.al ?_ _ | with_reducible refine Ext.dr ?_ | with_reducible refine Ext.st ?_ (by simp) _ | with_reducible refine Ext.tr ?_ (by assumption))))) ?_; rintro e w1 ⟨rfl, hb⟩; have hc := hb.ccell; have hf := hb.frz; have hs := hb.sz; (try simp at hs); (try have hs0 := hs w.heap.size (by omega)); (try have hs1 := hs (w.heap.size + 1) (by omega)); (try have hs2 := hs (w.heap.size + 1 + 1) (by omega)); (try have hs3 := hs (w.heap.size + 1 + 1 + 1) (by omega))) | (go_at_call 25; with_reducible refine Calls.mono (HM.out _ (by (repeat (first | with_reducible exact Ext.rfl' _ | with_reducible assumption | with_reducible refine Ext.al ?_ _ | with_reducible refine Ext.dr ?_ | with_reducible refine Ext.st ?_ (by simp) _ | with_reducible refine Ext.tr ?_ (by assumption))))) ?_; rintro e w1 ⟨rfl, hb⟩; have hc := hb.ccell; have hf := hb.frz; have hs := hb.sz; (try simp at hs); (try have hs0 := hs w.heap.size (by omega)); (try have hs1 := hs (w.heap.size + 1) (by omega)); (try have hs2 := hs (w.heap.size + 1 + 1) (by omega)); (try have hs3 := hs (w.heap.size + 1 + 1 + 1) (by omega))) | (go_at_call 26; with_reducible refine Calls.mono (HW.out _) ?_; rintro e w' ⟨rfl, rfl⟩) | (go_at_call 27; with_reducible refine Calls.mono (HD.out _ (by (repeat (first | with_reducible exact Ext.rfl' _ | with_reducible assumption | with_reducible refine Ext.al ?_ _ | with_reducible refine Ext.dr ?_ | with_reducible refine Ext.st ?_ (by simp) _ | with_reducible refine Ext.tr ?_ (by assumption))))) ?_; rintro e w1 ⟨rfl, hb⟩; have hc := hb.ccell; have hf := hb.frz; have hs := hb.sz; (try simp at hs); (try have hs0 := hs w.heap.size (by omega)); (try have hs1 := hs (w.heap.size + 1) (by omega)); (try have hs2 := hs (w.heap.size + 1 + 1) (by omega)); (try have hs3 := hs (w.heap.size + 1 + 1 + 1) (by omega))))
    exact bodyPost_ret (v := .tuple #[.int .i64 dd, .int .i64 0]) (by simp [results, Try.results7, go_sem]) rfl ⟨rfl, by (repeat (first | with_reducible exact Ext.rfl' _ | with_reducible assumption | with_reducible refine Ext.al ?_ _ | with_reducible refine Ext.dr ?_ | with_reducible refine Ext.st ?_ (by simp) _ | with_reducible refine Ext.tr ?_ (by assumption)))⟩
set_option maxHeartbeats 4000000 in
theorem rdraught_c (s : ByteArray) (hold : Int) (l : List Pt) (m d q : Int) (w : World) (A : Option Addr) (c : Nat) (hl : l.length ≤ 1000) (hA : Row 2 encP w A l) (hR : DraR s hold l m d q) :
    Calls Try.prog 9 #[.agg #[.string s, .int .i64 hold, .slice A l.length c], .int .i64 m] w fun e w' => e = .returned (.tuple #[.int .i64 d, .int .i64 q]) ∧ Ext w w' := by
  have HC := Lib.hid (fun w' (hw : Ext w w') => rcheckHopper_c s hold l w' A c hl (hA.ext hw))
  rcases hR with ⟨h0, rfl, rfl⟩ | ⟨h0, h1, rfl, rfl⟩ | ⟨h0, h1, rfl, rfl⟩
  · generalize hopE s hold l = E at *
    have h0' : (E == 0) = false := by simp [h0]
    have h0'' : (E != 0) = true := by simp [h0]
    go_enter Try.func9, Try.ntmps9
    go_wp2_with (first | (go_at_call 12; with_reducible refine Calls.mono (HC.out _ (by (repeat (first | with_reducible exact Ext.rfl' _ | with_reducible assumption | with_reducible refine Ext.al ?_ _ | with_reducible refine Ext.dr ?_ | with_reducible refine Ext.st ?_ (by simp) _ | with_reducible refine Ext.tr ?_ (by assumption))))) ?_; rintro e w1 ⟨rfl, hb⟩; have hc := hb.ccell; have hf := hb.frz; have hs := hb.sz; (try simp at hs); (try have hs0 := hs w.heap.size (by omega)); (try have hs1 := hs (w.heap.size + 1) (by omega)); (try have hs2 := hs (w.heap.size + 1 + 1) (by omega)); (try have hs3 := hs (w.heap.size + 1 + 1 + 1) (by omega))))
    exact bodyPost_ret (v := .tuple #[.int .i64 0, .int .i64 E]) (by simp [results, Try.results9, go_sem]) rfl ⟨rfl, by (repeat (first | with_reducible exact Ext.rfl' _ | with_reducible assumption | with_reducible refine Ext.al ?_ _ | with_reducible refine Ext.dr ?_ | with_reducible refine Ext.st ?_ (by simp) _ | with_reducible refine Ext.tr ?_ (by assumption)))⟩
  all_goals
    have hG := hop_good h0
    rw [h0] at HC
    have HM := Lib.hid (fun w' (hw : Ext w w') => rends_c s hold l w' A c hG (hA.ext hw))
    have HW := Lib.hid (fun w => within3_c m (gt l 0).x (gt l (l.length - 1)).x w)
    rw [h1] at HW
  · generalize (gt l 0).x = x0 at *
    generalize (gt l (l.length - 1)).x = x1 at *
    clear h0 h1 hG
    go_enter Try.func9, Try.ntmps9
    go_wp2_with (first | (go_at_call 12; with_reducible refine Calls.mono (HC.out _ (by (repeat (first | with_reducible exact Ext.rfl' _ | with_reducible assumption | with_reducible refine Ext.al ?_ _ | with_reducible refine Ext.dr ?_ | with_reducible refine Ext.st ?_ (by simp) _ | with_reducible refine Ext.tr ?_ (by assumption))))) ?_; rintro e w1 ⟨rfl, hb⟩; have hc := hb.ccell; have hf := hb.frz; have hs := hb.sz; (try simp at hs); (try have hs0 := hs w.heap.size (by omega)); (try have hs1 := hs (w.heap.size + 1) (by omega)); (try have hs2 := hs (w.heap.size + 1 + 1) (by omega)); (try have hs3 := hs (w.heap.size + 1 + 1 + 1) (by omega))) | (go_at_call 31; with_reducible refine Calls.mono (HM.out _ (by (repeat (first | with_reducible exact Ext.rfl' _ | with_reducible assumption | with_reducible refine Ext.al ?_ _ | with_reducible refine Ext.dr ?_ | with_reducible refine Ext.st ?_ (by simp) _ | with_reducible refine Ext.tr ?_ (by assumption))))) ?_; rintro e w1 ⟨rfl, hb⟩; have hc := hb.ccell; have hf := hb.frz; have hs := hb.sz; (try simp at hs); (try have hs0 := hs w.heap.size (by omega)); (try have hs1 := hs (w.heap.size + 1) (by omega)); (try have hs2 := hs (w.heap.size + 1 + 1) (by omega)); (try have hs3 := hs (w.heap.size + 1 + 1 + 1) (by omega))) | (go_at_call 18; with_reducible refine Calls.mono (HW.out _) ?_; rintro e w' ⟨rfl, rfl⟩))
    exact bodyPost_ret (v := .tuple #[.int .i64 0, .int .i64 2]) (by simp [results, Try.results9, go_sem]) rfl ⟨rfl, by (repeat (first | with_reducible exact Ext.rfl' _ | with_reducible assumption | with_reducible refine Ext.al ?_ _ | with_reducible refine Ext.dr ?_ | with_reducible refine Ext.st ?_ (by simp) _ | with_reducible refine Ext.tr ?_ (by assumption)))⟩
  · have h2 : (gt l 0).x ≤ m ∧ m ≤ (gt l (l.length - 1)).x := by simpa [withinB] using h1
    have HD := Lib.hid (fun w' (hw : Ext w w') => laden_c s hold l m w' A c hG h2.1 h2.2 (hA.ext hw))
    generalize lad l m = dd at *
    generalize (gt l 0).x = x0 at *
    generalize (gt l (l.length - 1)).x = x1 at *
    clear h0 h1 hG h2
    go_enter Try.func9, Try.ntmps9
    go_wp2_with (first | (go_at_call 12; with_reducible refine Calls.mono (HC.out _ (by (repeat (first | with_reducible exact Ext.rfl' _ | with_reducible assumption | with_reducible refine Ext.al ?_ _ | with_reducible refine Ext.dr ?_ | with_reducible refine Ext.st ?_ (by simp) _ | with_reducible refine Ext.tr ?_ (by assumption))))) ?_; rintro e w1 ⟨rfl, hb⟩; have hc := hb.ccell; have hf := hb.frz; have hs := hb.sz; (try simp at hs); (try have hs0 := hs w.heap.size (by omega)); (try have hs1 := hs (w.heap.size + 1) (by omega)); (try have hs2 := hs (w.heap.size + 1 + 1) (by omega)); (try have hs3 := hs (w.heap.size + 1 + 1 + 1) (by omega))) | (go_at_call 31; with_reducible refine Calls.mono (HM.out _ (by (repeat (first | with_reducible exact Ext.rfl' _ | with_reducible assumption | with_reducible refine Ext.al ?_ _ | with_reducible refine Ext.dr ?_ | with_reducible refine Ext.st ?_ (by simp) _ | with_reducible refine Ext.tr ?_ (by assumption))))) ?_; rintro e w1 ⟨rfl, hb⟩; have hc := hb.ccell; have hf := hb.frz; have hs := hb.sz; (try simp at hs); (try have hs0 := hs w.heap.size (by omega)); (try have hs1 := hs (w.heap.size + 1) (by omega)); (try have hs2 := hs (w.heap.size + 1 + 1) (by omega)); (try have hs3 := hs (w.heap.size + 1 + 1 + 1) (by omega))) | (go_at_call 18; with_reducible refine Calls.mono (HW.out _) ?_; rintro e w' ⟨rfl, rfl⟩) | (go_at_call 32; with_reducible refine Calls.mono (HD.out _ (by (repeat (first | with_reducible exact Ext.rfl' _ | with_reducible assumption | with_reducible refine Ext.al ?_ _ | with_reducible refine Ext.dr ?_ | with_reducible refine Ext.st ?_ (by simp) _ | with_reducible refine Ext.tr ?_ (by assumption))))) ?_; rintro e w1 ⟨rfl, hb⟩; have hc := hb.ccell; have hf := hb.frz; have hs := hb.sz; (try simp at hs); (try have hs0 := hs w.heap.size (by omega)); (try have hs1 := hs (w.heap.size + 1) (by omega)); (try have hs2 := hs (w.heap.size + 1 + 1) (by omega)); (try have hs3 := hs (w.heap.size + 1 + 1 + 1) (by omega))))
    exact bodyPost_ret (v := .tuple #[.int .i64 dd, .int .i64 0]) (by simp [results, Try.results9, go_sem]) rfl ⟨rfl, by (repeat (first | with_reducible exact Ext.rfl' _ | with_reducible assumption | with_reducible refine Ext.al ?_ _ | with_reducible refine Ext.dr ?_ | with_reducible refine Ext.st ?_ (by simp) _ | with_reducible refine Ext.tr ?_ (by assumption)))⟩
end Go.Proofs.Ytmhmfjgahhgbpaa
