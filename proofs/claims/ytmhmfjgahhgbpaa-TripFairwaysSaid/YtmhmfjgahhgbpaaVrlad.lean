/- The contract of the reference's Laden. -/
import Derived.Test.YtmhmfjgahhgbpaaVlad
namespace Go.Proofs.Ytmhmfjgahhgbpaa
open Go Go.RowKit Go.IntWalk

set_option maxHeartbeats 4000000 in
set_option maxRecDepth 100000 in
theorem laden_c (s : ByteArray) (hold : Int) (l : List Pt) (m : Int) (w : World) (A : Option Addr) (c : Nat) (hG : GoodH l) (h0 : (gt l 0).x ≤ m) (h1 : m ≤ (gt l (l.length - 1)).x) (hA : Row 2 encP w A l) :
    Calls Try.prog 32 #[.agg #[.string s, .int .i64 hold, .slice A l.length c], .int .i64 m] w fun e w' => e = .returned (.int .i64 (lad l m)) ∧ Ext w w' := by
  obtain ⟨i, hi⟩ := isLn_some hG h1
  obtain ⟨j, hj⟩ : ∃ j, i = j + 1 := ⟨i - 1, by have := hi.pos; omega⟩
  have hil := hi.lt
  have hjl : j < l.length := by omega
  obtain ⟨r1, r2, r3, r4, r5, r6, r7, r8⟩ := lad_num hG hi h0 hj
  have hl40 := hG.len
  rw [lad_eq hi]
  have HV : Hid (ladV l m i = (gt l j).y + cdiv (((gt l i).y - (gt l j).y) * (m - (gt l j).x)) ((gt l i).x - (gt l j).x)) := Lib.hid (by unfold ladV; rw [show i - 1 = j by omega])
  have hnn := cdiv_nonneg (d := (gt l i).x - (gt l j).x) (by omega) r7
  have hup := ladV_high hG hi
  rw [HV.out] at hup ⊢
  have HU := Lib.hid (fun w => bceil_c (((gt l i).y - (gt l j).y) * (m - (gt l j).x)) ((gt l i).x - (gt l j).x) w (by omega) (by omega) r7 (by omega))
  obtain ⟨nn, hnq⟩ : ∃ nn, ((gt l i).y - (gt l j).y) * (m - (gt l j).x) = nn := ⟨_, rfl⟩
  rw [hnq] at r7 r8 hnn hup HU ⊢
  obtain ⟨qq, hqq⟩ : ∃ qq, cdiv nn ((gt l i).x - (gt l j).x) = qq := ⟨_, rfl⟩
  rw [hqq] at hnn hup HU ⊢
  have hm1 : IntKind.i64.wrap ((gt l i).y - (gt l j).y) = (gt l i).y - (gt l j).y := i64_in _ (by omega)
  have hm2 : IntKind.i64.wrap (m - (gt l j).x) = m - (gt l j).x := i64_in _ (by omega)
  have hm3 : IntKind.i64.wrap (((gt l i).y - (gt l j).y) * (m - (gt l j).x)) = nn := by rw [hnq]; exact i64_in _ (by omega)
  have hm4 : IntKind.i64.wrap ((gt l i).x - (gt l j).x) = (gt l i).x - (gt l j).x := i64_in _ (by omega)
  have hm5 : IntKind.i64.wrap ((gt l j).y + qq) = (gt l j).y + qq := i64_in _ (by omega)
  have HNO := Lib.hid hi.gt'
  have HLE := Lib.hid hi.le
  have HA := Lib.hid hA
  have HR := Lib.hid (And.intro hm1 (And.intro hm2 (And.intro hm3 (And.intro hm4 hm5))))
  clear r1 r2 r3 r4 r5 r6 r7 r8 hnn hup HV hi h0 h1 hG hm1 hm2 hm3 hm4 hm5 hqq hnq
  go_enter Try.func32, Try.ntmps32
  go_wp2
  have hEp : Ext w (w.alloc (.cells #[.string s, .int .i64 hold, .slice A l.length c] 24)) := by (repeat (first | with_reducible exact Ext.rfl' _ | with_reducible assumption | with_reducible refine Ext.al ?_ _ | with_reducible refine Ext.dr ?_ | with_reducible refine Ext.st ?_ (by simp) _ | with_reducible refine Ext.tr ?_ (by assumption)))
  have k2 : (w.alloc (.cells #[.string s, .int .i64 hold, .slice A l.length c] 24)).cell? ⟨w.heap.size, 2, none⟩ = some (.slice A l.length c) := by simp [World.cell?_alloc_new, go_sem]
  have zp : w.heap.size < (w.alloc (.cells #[.string s, .int .i64 hold, .slice A l.length c] 24)).heap.size := by simp
  generalize w.alloc (.cells #[.string s, .int .i64 hold, .slice A l.length c] 24) = wp at *
  go_loopw [5] (fun q wr => Ext wp wr ∧ ∃ k : Nat, 1 ≤ k ∧ k ≤ i ∧ q = .int .i64 k) (fun q _ => i - (intOf q).toNat)
  case atStart => exact ⟨Ext.rfl' _, 1, by omega, by omega, rfl⟩
  case round =>
    obtain ⟨hr, k, hk1, hk, rfl⟩ := hrel
    have hE : Ext w wr := hEp.tr hr
    have e2 := (hr.ccell _ 2 zp).trans k2
    have hzp := hr.sz _ zp
    obtain ⟨b, off, rfl, hb0, hcell⟩ := HA.out.p2 (k := k) (by omega)
    have hz := hE.sz _ hb0
    have ck := hcell _ hE
    have hkl : (k : Int) < (l.length : Int) := by omega
    by_cases hlt : k < i
    · have hx : l[k].x < m := by rw [← gt_lt l k (by omega)]; exact HNO.out k hk1 hlt
      clear hcell
      go_wp2
      exact ⟨⟨by (repeat (first | with_reducible exact Ext.rfl' _ | with_reducible assumption | with_reducible refine Ext.al ?_ _ | with_reducible refine Ext.dr ?_ | with_reducible refine Ext.st ?_ (by simp) _ | with_reducible refine Ext.tr ?_ (by assumption))), k + 1, by omega, by omega, by go_num⟩, by simp [intOf]; omega⟩
    · have hki : k = i := by omega
      subst hki
      have hx : ¬ l[k].x < m := by have := HLE.out; rw [gt_lt l k (by omega)] at this; omega
      have hcj := HA.out.r2 hjl _ hE
      have gi := gt_lt l k hil
      have gj := gt_lt l j hjl
      have hj1 : IntKind.i64.wrap ((k : Int) - 1) = (j : Int) := by rw [i64_in _ (by omega)]; omega
      have hjlz : (j : Int) < (l.length : Int) := by omega
      rw [← gi] at ck hx
      rw [← gj] at hcj
      have HJ := Lib.hid hj
      have hEw := Lib.hid hE
      clear hcell gi gj hj hEp
      go_upto_region 4 with fail
      go_cut [6, 7] (fun s3 s4 wx => ∃ b2 b3 : Nat, s3 = .pointer (some ⟨b2, 0, none⟩) ∧ s4 = .pointer (some ⟨b3, 0, none⟩) ∧ Ext wr wx ∧ (b2 < wx.heap.size ∧ b3 < wx.heap.size) ∧
        (wx.cell? ⟨b2, 0, none⟩ = some (.int .i64 (gt l j).x) ∧ wx.cell? ⟨b2, 1, none⟩ = some (.int .i64 (gt l j).y)) ∧ (wx.cell? ⟨b3, 0, none⟩ = some (.int .i64 (gt l k).x) ∧ wx.cell? ⟨b3, 1, none⟩ = some (.int .i64 (gt l k).y)))
      case first =>
        clear HU HR
        go_region_held3 (fun w' => (∀ j : Nat, w'.cell? ⟨b, j, none⟩ = wr.cell? ⟨b, j, none⟩) ∧ (∀ j : Nat, w'.cell? ⟨w.heap.size, j, none⟩ = wr.cell? ⟨w.heap.size, j, none⟩)) ((refine ⟨?_, ?_⟩ <;> (intro j; (repeat (first | with_reducible rfl | (exact (by assumption : (∀ j : Nat, _) ∧ (∀ j : Nat, _)).1 j) | (exact (by assumption : (∀ j : Nat, _) ∧ (∀ j : Nat, _)).2 j) | rw [World.cell?_drew] | rw [World.cell?_alloc_past _ _ _ (by first | omega | (simp; omega) | (simp; done))] | rw [World.cell?_setCell_far _ _ _ _ (by first | omega | (simp; omega) | (simp; done))]))))) (fail)
        all_goals
          rename_i hJ hK h1 h2 hH
          clear hH
          refine h2 _ _ (Met.intro (h1 _ _ ?_))
          (repeat apply Exists.intro)
          refine ⟨?_, rfl⟩
          refine ⟨_, _, rfl, rfl, ?_, ⟨?_, ?_⟩, ?_⟩
          all_goals first | ((repeat (first | with_reducible exact Ext.rfl' _ | with_reducible assumption | with_reducible refine Ext.al ?_ _ | with_reducible refine Ext.dr ?_ | with_reducible refine Ext.st ?_ (by simp) _ | with_reducible refine Ext.tr ?_ (by assumption))); done) | (simp; done) | (simp; omega) | (simp [go_sem]; done) | (simp [World.cell?_alloc_past, World.cell?_alloc_new, go_sem]; done)
      case rest =>
        obtain ⟨b2, b3, rfl, rfl, hx', ⟨hb2, hb3⟩, ⟨m4, m5⟩, ⟨m6, m7⟩⟩ := hcut
        have hEx : Ext w wc := hEw.out.tr hx'
        clear ck hcj e2 hzp hz
        obtain ⟨hm1, hm2, hm3, hm4, hm5⟩ := HR.out
        clear HR HNO HLE HA HJ
        go_upto_region 5 with fail
        refine region_grow (by kernel_rfl) (by kernel_rfl) ?_
        repeat (first | go_big_quiet_step (first | (go_at_call 53; with_reducible exact callsStay (HU.out _)) | fail) | quiet_step (first | (go_at_call 53; with_reducible exact callsStay (HU.out _)) | fail))
        refine wpQuiet_nil ?_
        intro w1 hb
        have hc := hb.ccell
        have hf := hb.frz
        have hs := hb.sz
        (try simp at hs); (try have hs0 := hs w.heap.size (by omega)); (try have hs1 := hs (w.heap.size + 1) (by omega)); (try have hs2 := hs (w.heap.size + 1 + 1) (by omega)); (try have hs3 := hs (w.heap.size + 1 + 1 + 1) (by omega))
        (try simp only [IntWalk.i64_left])
        go_wp2
        go_ret
        exact ⟨by first | rfl | exact ret_int (by omega), by (repeat (first | with_reducible exact Ext.rfl' _ | with_reducible assumption | with_reducible refine Ext.al ?_ _ | with_reducible refine Ext.dr ?_ | with_reducible refine Ext.st ?_ (by simp) _ | with_reducible refine Ext.tr ?_ (by assumption)))⟩
end Go.Proofs.Ytmhmfjgahhgbpaa
