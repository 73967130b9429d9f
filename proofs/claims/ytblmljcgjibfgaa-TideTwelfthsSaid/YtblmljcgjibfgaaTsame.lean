/- The contract of SameGauges: two lists of one gauge each, equal in all but the place of their marks. -/
import Derived.Test.YtblmljcgjibfgaaTall
namespace Go.Proofs.Ytblmljcgjibfgaa
open Go Go.RowKit Go.IntWalk

set_option maxHeartbeats 4000000 in
set_option maxRecDepth 100000 in
theorem sameGs_c (s : ByteArray) (x er : Int) (l : List Pt) (A B : Option Addr) (c c' : Nat) (p q : Nat) (w : World) (hl : l.length ≤ 1000) (hA : Row 2 encP w A l) (hB : Row 2 encP w B l)
    (hP : Row 4 encG w (some ⟨p, 0, none⟩) [⟨s, x, er, l, A, c⟩]) (hQ : Row 4 encG w (some ⟨q, 0, none⟩) [⟨s, x, er, l, B, c'⟩]) :
    Calls Try.prog 90 #[.slice (some ⟨p, 0, none⟩) 1 1, .slice (some ⟨q, 0, none⟩) 1 1] w fun e w' => e = .returned (.bool true) ∧ Ext w w' := by
  obtain ⟨b, off, hb, hp0, hpc⟩ := hP.p4 (k := 0) (by simp)
  injection hb with hb
  injection hb with hb1 hb2
  subst hb1 hb2
  obtain ⟨b, off, hb, hq0, hqc⟩ := hQ.p4 (k := 0) (by simp)
  injection hb with hb
  injection hb with hb1 hb2
  subst hb1 hb2
  simp only [Nat.zero_mul, Nat.add_zero, Nat.zero_add, List.getElem_cons_zero] at hpc hqc
  have HP := Lib.hid hpc
  have HQ := Lib.hid hqc
  clear hpc hqc hP hQ
  go_enter Try.func90, Try.ntmps90
  go_wp2
  go_loopw [5, 6] (fun v _ wr => Ext w wr ∧ (v = .int .i64 0 ∨ v = .int .i64 1)) (fun v _ _ => 1 - (intOf v).toNat)
  case atStart => exact ⟨Ext.rfl' _, .inl rfl⟩
  case round =>
    obtain ⟨hE, rfl | rfl⟩ := hrel
    case inr =>
      go_wp2
      go_ret
      exact ⟨rfl, hE⟩
    have cp := HP.out _ hE
    have cq := HQ.out _ hE
    have zp := hE.sz _ hp0
    have zq := hE.sz _ hq0
    go_upto_region 6 with fail
    refine region_grow (by kernel_rfl) (by kernel_rfl) ?_
    repeat (first | go_big_quiet_step (first  | fail) | quiet_step (first  | fail))
    refine wpQuiet_nil ?_
    intro w1 hb
    have hc := hb.ccell
    have hf := hb.frz
    have hs := hb.sz
    (try simp at hs); (try have hs0 := hs w.heap.size (by omega)); (try have hs1 := hs (w.heap.size + 1) (by omega)); (try have hs2 := hs (w.heap.size + 1 + 1) (by omega)); (try have hs3 := hs (w.heap.size + 1 + 1 + 1) (by omega))
    (try simp only [IntWalk.i64_left])
    have hE2 : Ext w w1 := by (repeat (first | with_reducible exact Ext.rfl' _ | with_reducible assumption | with_reducible refine Ext.al ?_ _ | with_reducible refine Ext.dr ?_ | with_reducible refine Ext.st ?_ (by simp) _ | with_reducible refine Ext.tr ?_ (by assumption)))
    clear hc hf hs cp cq zp zq
    go_wp2
    go_loopw [6] (fun v wx => Ext w wx ∧ ∃ j : Nat, j ≤ l.length ∧ v = .int .i64 j) (fun v _ => l.length - (intOf v).toNat)
    case atStart => exact ⟨hE2, 0, Nat.zero_le _, rfl⟩
    case round =>
      obtain ⟨hx, j, hj, rfl⟩ := hrel
      have cp := HP.out _ hx
      have cq := HQ.out _ hx
      have zp := hx.sz _ hp0
      have zq := hx.sz _ hq0
      by_cases hlt : j < l.length
      · obtain ⟨b1, o1, rfl, hb1, hc1⟩ := hA.p2 hlt
        obtain ⟨b2, o2, rfl, hb2, hc2⟩ := hB.p2 hlt
        have m1 := hc1 _ hx
        have m2 := hc2 _ hx
        have z1 := hx.sz _ hb1
        have z2 := hx.sz _ hb2
        generalize l[j].x = mx at *
        generalize l[j].y = my at *
        clear hc1 hc2
        go_upto_region 11 with fail
        refine region_grow (by kernel_rfl) (by kernel_rfl) ?_
        repeat (first | go_big_quiet_step (first  | fail) | quiet_step (first  | fail))
        refine wpQuiet_nil ?_
        intro w1 hb
        have hc := hb.ccell
        have hf := hb.frz
        have hs := hb.sz
        (try simp at hs); (try have hs0 := hs w.heap.size (by omega)); (try have hs1 := hs (w.heap.size + 1) (by omega)); (try have hs2 := hs (w.heap.size + 1 + 1) (by omega)); (try have hs3 := hs (w.heap.size + 1 + 1 + 1) (by omega))
        (try simp only [IntWalk.i64_left])
        go_wp2
        exact ⟨⟨by (repeat (first | with_reducible exact Ext.rfl' _ | with_reducible assumption | with_reducible refine Ext.al ?_ _ | with_reducible refine Ext.dr ?_ | with_reducible refine Ext.st ?_ (by simp) _ | with_reducible refine Ext.tr ?_ (by assumption))), j + 1, by omega, by go_num⟩, by simp [intOf]; omega⟩
      · have hjl : j = l.length := by omega
        subst hjl
        go_wp2
        exact ⟨⟨hx, .inr rfl⟩, by simp [intOf]⟩
theorem row_one (g : Ga) (w0 w' : World) (h : Ext (w0.alloc (.cells #[.string g.s, .int .i64 g.x, .int .i64 g.er, .slice g.A g.l.length g.c] 24)) w') : Row 4 encG w' (some ⟨w0.heap.size, 0, none⟩) [g] :=
  (Row.new encG_len w0 _ _ [g] rfl).ext h
set_option maxHeartbeats 4000000 in
theorem same_c (s : ByteArray) (x er : Int) (l : List Pt) (A B : Option Addr) (c c' : Nat) (w : World) (hl : l.length ≤ 1000) (hA : Row 2 encP w A l) (hB : Row 2 encP w B l) :
    Calls Try.prog 48 #[.agg #[.string s, .int .i64 x, .int .i64 er, .slice A l.length c], .agg #[.string s, .int .i64 x, .int .i64 er, .slice B l.length c']] w fun e w' => e = .returned (.bool true) ∧ Ext w w' := by
  have HS := Lib.hid (fun p q w' (hw : Ext w w') (h1 : Row 4 encG w' (some ⟨p, 0, none⟩) [⟨s, x, er, l, A, c⟩]) (h2 : Row 4 encG w' (some ⟨q, 0, none⟩) [⟨s, x, er, l, B, c'⟩]) => sameGs_c s x er l A B c c' p q w' hl (hA.ext hw) (hB.ext hw) h1 h2)
  go_enter Try.func48, Try.ntmps48
  have HR1 := Lib.hid (row_one ⟨s, x, er, l, A, c⟩ ((w.alloc (.cells #[.string s, .int .i64 x, .int .i64 er, .slice A l.length c] 24)).alloc (.cells #[.string s, .int .i64 x, .int .i64 er, .slice B l.length c'] 24)) _ (Ext.al (Ext.rfl' _) (.cells #[.string s, .int .i64 x, .int .i64 er, .slice B l.length c'] 24)))
  have HR2 := Lib.hid (row_one ⟨s, x, er, l, B, c'⟩ (((w.alloc (.cells #[.string s, .int .i64 x, .int .i64 er, .slice A l.length c] 24)).alloc (.cells #[.string s, .int .i64 x, .int .i64 er, .slice B l.length c'] 24)).alloc (.cells #[.string s, .int .i64 x, .int .i64 er, .slice A l.length c] 24)) _ (Ext.rfl' _))
  go_wp2_with (first | (go_at_call 90; with_reducible refine Calls.mono (HS.out _ _ _ (by (repeat (first | with_reducible exact Ext.rfl' _ | with_reducible assumption | with_reducible refine Ext.al ?_ _ | with_reducible refine Ext.dr ?_ | with_reducible refine Ext.st ?_ (by simp) _ | with_reducible refine Ext.tr ?_ (by assumption)))) (by have h := HR1.out; simp only [World.size_alloc] at h; exact h) (by have h := HR2.out; simp only [World.size_alloc] at h; exact h)) ?_; rintro e w1 ⟨rfl, hb⟩))
  go_ret
  exact ⟨rfl, by (repeat (first | with_reducible exact Ext.rfl' _ | with_reducible assumption | with_reducible refine Ext.al ?_ _ | with_reducible refine Ext.dr ?_ | with_reducible refine Ext.st ?_ (by simp) _ | with_reducible refine Ext.tr ?_ (by assumption)))⟩
end Go.Proofs.Ytblmljcgjibfgaa
