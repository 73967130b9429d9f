/- The contracts of the reference's Wedge and Undermined. -/
import Derived.Test.YtgbkjioajmnjbaaGreatSwe
import Derived.Test.YtgbkjioajmnjbaaGreatSslumps
import Derived.Test.YtgbkjioajmnjbaaGreatSbed
namespace Go.Proofs.YtgbkjioajmnjbaaGreat
open Go Go.RowKit Go.IntWalk

/-- The result is g's frame with levels M that the call has made. -/
def OutGL (base : Nat) (g : Gr) (M : List Int) (e : Ending) (w' : World) : Prop :=
  ∃ A c, e = .returned (.agg #[.int .i64 g.X, .int .i64 g.Y, .int .i64 g.S, .int .i64 g.C, .int .i64 g.R, .slice A g.L.length c]) ∧ NewZ base w' A c M
theorem known_w (g : Gr) (L : List Int) (k : Nat) (w : World) (A : Option Addr) (c : Nat) (hn : L.length = g.L.length) (hk : k < g.L.length) (hA : Row 1 encZ w A L) :
    Calls Tryz.prog 35 #[.agg #[.int .i64 g.X, .int .i64 g.Y, .int .i64 g.S, .int .i64 g.C, .int .i64 g.R, .slice A g.L.length c], .int .i64 k] w fun e w' => e = .returned (.bool (knB L k)) ∧ Ext w w' := by
  have h := known_c (withL g L) k w A c (by show k < L.length; omega) hA
  rw [show (withL g L).L = L from rfl, hn] at h
  exact h
set_option maxHeartbeats 8000000 in
set_option maxRecDepth 100000 in
theorem rwedge_c (q : Qu) (g : Gr) (cn : Nat) (w : World) (A : Option Addr) (c : Nat) (hq0 : quE q = 0) (hg0 : chkG g = 0) (hC : g.C = cn) (hA : Row 1 encZ w A g.L) :
    Calls Tryz.prog 14 #[.agg #[.string q.s, .int .i64 q.a.x, .int .i64 q.a.y, .int .i64 q.b.x, .int .i64 q.b.y, .int .i64 q.lev, .int .i64 q.run], .agg #[.int .i64 g.X, .int .i64 g.Y, .int .i64 g.S, .int .i64 g.C, .int .i64 g.R, .slice A g.L.length c]] w fun e w' => OutGL w.heap.size g (wdL q g cn) e w' ∧ Ext w w' := by
  have vg := chkG_ok hg0
  obtain ⟨cn', rn, e1, e2, e3, e4, e5, e6, e7, e8⟩ := vg.nat
  have hn : g.L.length ≤ 1024 := by omega
  have hpos : 0 < g.L.length := by rw [e7]; exact Nat.mul_pos e3 e5
  have HCL := Lib.hid (fun w' (hw : Ext w w') => copyGrid_c g w' A c (by omega) (hA.ext hw))
  have HCT := Lib.hid (fun k (hk : k < g.L.length) w' => rcentre_c g cn k w' A c vg hC hk)
  have HWD := Lib.hid (fun i (hi : i < g.L.length) w' => rwedgeAt_c q ⟨ctX g cn i, ctY g cn i⟩ w' hq0 (ct_in vg hC hi))
  obtain ⟨F, hF⟩ : ∃ F : Nat → Int, F = wdC q g cn := ⟨_, rfl⟩
  have HFF : Hid (∀ i, wdV q ⟨ctX g cn i, ctY g cn i⟩ = F i) := Lib.hid (fun i => by rw [hF]; rfl)
  unfold wdL
  rw [← hF]
  clear hF vg hA hg0 hq0 e1 e2 e3 e4 e5 e6 e7 e8 hC
  go_enter Tryz.func14, Tryz.ntmps14
  go_upto_region 2 with (first | (go_at_call 32; (with_reducible refine Calls.mono (HCL.out _ (by (repeat (first | with_reducible exact Ext.rfl' _ | with_reducible assumption | with_reducible refine Ext.al ?_ _ | with_reducible refine Ext.dr ?_ | with_reducible refine Ext.st ?_ (by simp) _ | with_reducible refine Ext.tr ?_ (by assumption))))) ?_); rintro e w1 ⟨⟨A2, c2, rfl, hN2⟩, hb⟩; have hc := hb.ccell; have hf := hb.frz; have hs := hb.sz; (try simp at hs); (try have t0 := hs (w.heap.size) (by first | assumption | omega)); (try have t1 := hs (w.heap.size + 1) (by first | assumption | omega)); (try have t2 := hs (w.heap.size + 1 + 1) (by first | assumption | omega)); (try have t3 := hs (w.heap.size) (by first | assumption | omega)); (try have t4 := hs (w.heap.size) (by first | assumption | omega)); (try have t5 := hs (w.heap.size) (by first | assumption | omega))))
  obtain ⟨g2, hA2, hg2, hO2⟩ := newz_some hpos hN2
  subst hA2
  simp at hg2
  have hg21 := hO2.lt
  refine wp_name (fun W hW => ?_)
  have hE1 : Ext w1 W := by rw [hW]; (repeat (first | with_reducible exact Ext.rfl' _ | with_reducible assumption | with_reducible refine Ext.al ?_ _ | with_reducible refine Ext.dr ?_ | with_reducible refine Ext.st ?_ (by simp) _ | with_reducible refine Ext.tr ?_ (by assumption)))
  have hEW : Ext w W := by rw [hW]; (repeat (first | with_reducible exact Ext.rfl' _ | with_reducible assumption | with_reducible refine Ext.al ?_ _ | with_reducible refine Ext.dr ?_ | with_reducible refine Ext.st ?_ (by simp) _ | with_reducible refine Ext.tr ?_ (by assumption)))
  have kq : CellsAt W w.heap.size 0 [.string q.s, .int .i64 q.a.x, .int .i64 q.a.y, .int .i64 q.b.x, .int .i64 q.b.y, .int .i64 q.lev, .int .i64 q.run] := by rw [hW]; refine cells_seven ⟨?_, ?_, ?_, ?_, ?_, ?_, ?_⟩ <;> simp [*, go_sem]
  have km : CellsAt W (w.heap.size + 1) 0 [.int .i64 g.X, .int .i64 g.Y, .int .i64 g.S, .int .i64 g.C, .int .i64 g.R, .slice A g.L.length c] := by rw [hW]; refine cells_six ⟨?_, ?_, ?_, ?_, ?_, ?_⟩ <;> simp [*, go_sem]
  have kz : CellsAt W (w.heap.size + 1 + 1) 0 [.int .i64 0, .int .i64 0, .int .i64 0, .int .i64 0, .int .i64 0, .slice none 0 0] := by rw [hW]; refine cells_six ⟨?_, ?_, ?_, ?_, ?_, ?_⟩ <;> simp [*, go_sem]
  have ko : CellsAt W w1.heap.size 0 [.int .i64 g.X, .int .i64 g.Y, .int .i64 g.S, .int .i64 g.C, .int .i64 g.R, .slice (some ⟨g2, 0, none⟩) g.L.length c2] := by rw [hW]; refine cells_six ⟨?_, ?_, ?_, ?_, ?_, ?_⟩ <;> simp [*, go_sem]
  have fz : ∀ o, W.frozen? ⟨w.heap.size + 1 + 1, o, none⟩ = false := by intro o; rw [hW]; simp [*, go_sem]
  have hO := Lib.hid (hO2.ext hE1)
  have zo : w1.heap.size < W.heap.size := by rw [hW]; simp
  have z2 : w.heap.size + 1 + 1 < W.heap.size := by rw [hW]; simp; omega
  have z1 : w.heap.size + 1 < W.heap.size := by omega
  have z0 : w.heap.size < W.heap.size := by omega
  have n0 : w.heap.size ≠ g2 := by omega
  have n1 : w.heap.size + 1 ≠ g2 := by omega
  have n2 : w.heap.size + 1 + 1 ≠ g2 := by omega
  have n3 : w1.heap.size ≠ g2 := by omega
  have hwg : w.heap.size ≤ g2 := by omega
  clear hW hN2 hO2 hb hc hf hs t0 t1 t2 t3 t4 t5 hg2 hg21 hE1 HCL
  generalize w1.heap.size = no at *
  rw [← mkI_of g.L, ← mxL_0 F] at hO
  go_wp2
  go_loopw [6] (fun i wr => W.grownBy wr (some g2) ∧ ∃ k : Nat, k ≤ g.L.length ∧ i = .int .i64 k ∧ Hid (OwnK 3 1 encZ wr g2 c2 (mxL F (fun i => gi g.L i) g.L.length k))) (fun i _ => g.L.length - (intOf i).toNat)
  case atStart => exact ⟨tch_refl _ _, 0, Nat.zero_le _, rfl, hO⟩
  case round =>
    clear hO
    obtain ⟨hT, k, hk, rfl, hO⟩ := hrel
    have hEr := tch_to_ext hT hEW hwg
    have kqr := CellsAt.grown kq hT z0 (by intro e; injection e with e; exact n0 e)
    have kmr := CellsAt.grown km hT z1 (by intro e; injection e with e; exact n1 e)
    have kzr := CellsAt.grown kz hT z2 (by intro e; injection e with e; exact n2 e)
    have kor := CellsAt.grown ko hT zo (by intro e; injection e with e; exact n3 e)
    have fzr : ∀ o, wr.frozen? ⟨w.heap.size + 1 + 1, o, none⟩ = false := fun o => (grown_frzS hT z2 (by intro e; injection e with e; exact n2 e) o).trans (fz o)
    have y2 : w.heap.size + 1 + 1 < wr.heap.size := Nat.lt_of_lt_of_le z2 hT.size
    have yo : no < wr.heap.size := Nat.lt_of_lt_of_le zo hT.size
    have y1 : w.heap.size + 1 < wr.heap.size := by omega
    have y0 : w.heap.size < wr.heap.size := by omega
    obtain ⟨j0, j1, j2, j3, j4, j5, j6⟩ := kqr.seven
    obtain ⟨m0, m1, m2, m3, m4, m5⟩ := kmr.six
    obtain ⟨o0, o1, o2, o3, o4, o5⟩ := kor.six
    have zg := hO.out.lt
    by_cases hlt : k < g.L.length
    · have HK := Lib.hid (fun w' => HCT.out k hlt w')
      have HD := Lib.hid (fun w' => HWD.out k hlt w')
      rw [HFF.out] at HD
      have hki : (k : Int) < (g.L.length : Int) := by omega
      have hOS : Hid (∀ w', Ext wr w' → OwnK 3 1 encZ (w'.setCell ⟨g2, k, none⟩ (.int .i64 (F k))) g2 c2 (mxL F (fun i => gi g.L i) g.L.length (k + 1))) := Lib.hid (fun w' hw => by
        have h1 := (hO.out.ext hw).setZ k (by rw [mxL_len]; exact hlt) (F k)
        rw [mxL_set] at h1
        exact h1)
      have lz : ∀ w', Ext wr w' → w'.cell? ⟨g2, k, none⟩ = some (.int .i64 (gi g.L k)) := fun w' hw => by
        have h1 := (hO.out.ext hw).z (i := k) (by rw [mxL_len]; exact hlt)
        rw [mxL_gi _ _ hlt] at h1
        exact h1
      have fg : ∀ w', Ext wr w' → w'.frozen? ⟨g2, k, none⟩ = false := fun w' hw => (hO.out.ext hw).frozen encZ_len k
      have HLZ := Lib.hid (And.intro lz fg)
      clear lz fg hO
      generalize ctX g cn k = cx at *
      generalize ctY g cn k = cy at *
      generalize F k = fk at *
      generalize gi g.L k = gk at *
      go_upto_region 5 with fail
      refine region_grow_tail 9 (by kernel_rfl) (by kernel_rfl) ?_
      simp only [List.take_succ_cons, List.take_zero, List.drop_succ_cons, List.drop_zero]
      repeat (first | go_big_quiet_step (first | (go_at_call 34; with_reducible exact callsGrow (HK.out _)) | (go_at_call 33; with_reducible exact callsGrow (HD.out _)) | fail) | quiet_step (first | (go_at_call 34; with_reducible exact callsGrow (HK.out _)) | (go_at_call 33; with_reducible exact callsGrow (HD.out _)) | fail))
      refine wpQuiet_nil ?_
      intro w1 hb
      have hc := hb.ccell
      have hf := hb.frz
      have hs := hb.sz
      (try simp at hs); (try have hs0 := hs w.heap.size (by omega)); (try have hs1 := hs (w.heap.size + 1) (by omega)); (try have hs2 := hs (w.heap.size + 1 + 1) (by omega)); (try have hs3 := hs (w.heap.size + 1 + 1 + 1) (by omega))
      have hE4 : Ext wr w1 := by assumption
      have c1 := HLZ.out.1 _ hE4
      have f1 := HLZ.out.2 _ hE4
      have xg1 := hs g2 zg
      have hT4 := tch_set (tch_ext hT hE4) k (.int .i64 fk)
      have hO4 := Lib.hid (hOS.out _ hE4)
      clear hc hf hs hb
      go_wp2
      exact ⟨⟨hT4, k + 1, by omega, by go_num, hO4⟩, by simp [intOf]; omega⟩
    · have hks : k = g.L.length := by omega
      have hN := Lib.hid (show OwnK 3 1 encZ wr g2 c2 (mkI F g.L.length) by rw [← mxL_end F (fun i => gi g.L i)]; rw [hks] at hO; exact hO.out)
      obtain ⟨q0, q1, q2, q3, q4, q5⟩ := kzr.six
      clear hO hks hk
      go_wp2
      have hN4 := stL_own (w.heap.size + 1 + 1) (Ne.symm n2) [.int .i64 g.X, .int .i64 g.Y, .int .i64 g.S, .int .i64 g.C, .int .i64 g.R, .slice (some ⟨g2, 0, none⟩) g.L.length c2] 0 wr hN.out
      have hSL := stL_at (w.heap.size + 1 + 1) [.int .i64 g.X, .int .i64 g.Y, .int .i64 g.S, .int .i64 g.C, .int .i64 g.R, .slice (some ⟨g2, 0, none⟩) g.L.length c2] _ 0 wr kzr rfl
      have hXL := stL_ext (w.heap.size + 1 + 1) (by omega) [.int .i64 g.X, .int .i64 g.Y, .int .i64 g.S, .int .i64 g.C, .int .i64 g.R, .slice (some ⟨g2, 0, none⟩) g.L.length c2] 0 wr hEr
      show bodyPost _ _ _ _ _ (stL wr (w.heap.size + 1 + 1) 0 [.int .i64 g.X, .int .i64 g.Y, .int .i64 g.S, .int .i64 g.C, .int .i64 g.R, .slice (some ⟨g2, 0, none⟩) g.L.length c2])
      generalize stL wr (w.heap.size + 1 + 1) 0 [.int .i64 g.X, .int .i64 g.Y, .int .i64 g.S, .int .i64 g.C, .int .i64 g.R, .slice (some ⟨g2, 0, none⟩) g.L.length c2] = WL at hSL hXL hN4 ⊢
      obtain ⟨s0, s1, s2, s3, s4, s5⟩ := hSL.six
      refine bodyPost_ret (v := .agg #[.int .i64 g.X, .int .i64 g.Y, .int .i64 g.S, .int .i64 g.C, .int .i64 g.R, .slice (some ⟨g2, 0, none⟩) g.L.length c2]) (by simp [results, Tryz.results14, go_sem, s0, s1, s2, s3, s4, s5]) rfl ⟨⟨some ⟨g2, 0, none⟩, c2, rfl, newZ_own hN4 hwg⟩, hXL⟩
set_option maxHeartbeats 16000000 in
set_option maxRecDepth 100000 in
theorem runder_c (q : Qu) (g : Gr) (cn : Nat) (w : World) (A : Option Addr) (c : Nat) (hq0 : quE q = 0) (hg0 : chkG g = 0) (hC : g.C = cn) (hA : Row 1 encZ w A g.L) :
    Calls Tryz.prog 16 #[.agg #[.string q.s, .int .i64 q.a.x, .int .i64 q.a.y, .int .i64 q.b.x, .int .i64 q.b.y, .int .i64 q.lev, .int .i64 q.run], .agg #[.int .i64 g.X, .int .i64 g.Y, .int .i64 g.S, .int .i64 g.C, .int .i64 g.R, .slice A g.L.length c]] w fun e w' => OutZN w.heap.size (unK (wdC q g cn) g.L g.L.length) e w' ∧ Ext w w' := by
  have vg := chkG_ok hg0
  have hn : g.L.length ≤ 1024 := by have h1 := vg.len; have h2 := vg.hn; omega
  have HWS := Lib.hid (fun w' (hw : Ext w w') => rwedge_c q g cn w' A c hq0 hg0 hC (hA.ext hw))
  have HKN := Lib.hid (fun k (hk : k < g.L.length) w' (hw : Ext w w') => known_c g k w' A c hk (hA.ext hw))
  have hM : (wdL q g cn).length = g.L.length := mkI_len _ _
  have hMg : ∀ i, i < g.L.length → gi (wdL q g cn) i = wdC q g cn i := fun i hi => mkI_gi _ _ _ hi
  have HKM := Lib.hid (fun k (hk : k < g.L.length) w' A2 c2 hr => known_w g (wdL q g cn) k w' A2 c2 hM hk hr)
  generalize wdL q g cn = M at *
  generalize wdC q g cn = f at *
  unfold OutGL at HWS
  have HUL := Lib.hid (fun k => unK_le f g.L k)
  have HLM := Lib.hid hM
  have HMG := Lib.hid hMg
  obtain ⟨i0, hi, hzi0, hzi1, hzi2⟩ := info_parts infoZ
  have HI := Lib.hid (And.intro hi (And.intro hzi0 (And.intro hzi1 hzi2)))
  have HAA := Lib.hid hA
  clear hi hzi0 hzi1 hzi2 hA hq0 hg0 hC vg hM hMg
  go_enter Tryz.func16, Tryz.ntmps16
  go_upto_region 2 with (first | (go_at_call 14; (with_reducible refine Calls.mono (HWS.out _ (by (repeat (first | with_reducible exact Ext.rfl' _ | with_reducible assumption | with_reducible refine Ext.al ?_ _ | with_reducible refine Ext.dr ?_ | with_reducible refine Ext.st ?_ (by simp) _ | with_reducible refine Ext.tr ?_ (by assumption))))) ?_); rintro e w2 ⟨⟨A2, c2, rfl, hN2⟩, hb⟩; have hc := hb.ccell; have hf := hb.frz; have hs := hb.sz; (try simp at hs); (try have t0 := hs (w.heap.size) (by first | assumption | omega)); (try have t1 := hs (w.heap.size + 1) (by first | assumption | omega)); (try have t2 := hs (w.heap.size) (by first | assumption | omega)); (try have t3 := hs (w.heap.size) (by first | assumption | omega)); (try have t4 := hs (w.heap.size) (by first | assumption | omega)); (try have t5 := hs (w.heap.size) (by first | assumption | omega))))
  refine wp_name (fun W hW => ?_)
  have hEW : Ext w W := by rw [hW]; (repeat (first | with_reducible exact Ext.rfl' _ | with_reducible assumption | with_reducible refine Ext.al ?_ _ | with_reducible refine Ext.dr ?_ | with_reducible refine Ext.st ?_ (by simp) _ | with_reducible refine Ext.tr ?_ (by assumption)))
  have hE2 : Ext w2 W := by rw [hW]; (repeat (first | with_reducible exact Ext.rfl' _ | with_reducible assumption | with_reducible refine Ext.al ?_ _ | with_reducible refine Ext.dr ?_ | with_reducible refine Ext.st ?_ (by simp) _ | with_reducible refine Ext.tr ?_ (by assumption)))
  have km : CellsAt W (w.heap.size + 1) 0 [.int .i64 g.X, .int .i64 g.Y, .int .i64 g.S, .int .i64 g.C, .int .i64 g.R, .slice A g.L.length c] := by rw [hW]; refine cells_six ⟨?_, ?_, ?_, ?_, ?_, ?_⟩ <;> simp [*, go_sem]
  have ko : CellsAt W w2.heap.size 0 [.int .i64 g.X, .int .i64 g.Y, .int .i64 g.S, .int .i64 g.C, .int .i64 g.R, .slice A2 g.L.length c2] := by rw [hW]; refine cells_six ⟨?_, ?_, ?_, ?_, ?_, ?_⟩ <;> simp [*, go_sem]
  have zo : w2.heap.size < W.heap.size := by rw [hW]; simp
  have z1 : w.heap.size + 1 < W.heap.size := by rw [hW]; simp; omega
  have hRW := Lib.hid (hN2.row.ext hE2)
  clear hW hb hc hf hs t0 t1 t2 t3 t4 t5 HWS hN2 hE2
  generalize w2.heap.size = no at *
  go_wp2
  go_loopw [6, 7] (fun s i wr => Ext W wr ∧ ∃ k : Nat, k ≤ g.L.length ∧ i = .int .i64 k ∧ Hid (wr.ownsRow W.heap.size 3 1 s (unK f g.L k).length ((zl (unK f g.L k)).flatMap encZ))) (fun _ i _ => g.L.length - (intOf i).toNat)
  case atStart => exact ⟨Ext.rfl' _, 0, Nat.zero_le _, rfl, Lib.hid (World.ownsRow_nil _ _ _ _)⟩
  case round =>
    obtain ⟨hE, k, hk, rfl, hO⟩ := hrel
    have hEr := hEW.tr hE
    obtain ⟨m0, m1, m2, m3, m4, m5⟩ := (km.ext hE z1).six
    obtain ⟨o0, o1, o2, o3, o4, o5⟩ := (ko.ext hE zo).six
    have y1 := hE.sz _ z1
    have yo := hE.sz _ zo
    by_cases hlt : k < g.L.length
    · have HKO := Lib.hid (fun w' (hw : Ext wr w') => HKM.out k hlt w' A2 c2 (hRW.out.ext (hE.tr hw)))
      obtain ⟨bM, oM, rfl, hbM, hcM⟩ := hRW.out.p1 (k := k) (by rw [HLM.out]; exact hlt)
      obtain ⟨bA, oA, rfl, hbA, hcA⟩ := HAA.out.p1 (k := k) hlt
      have cM := hcM _ hE
      have cA := hcA _ hEr
      rw [← gi_lt] at cM cA
      rw [HMG.out k hlt] at cM
      have zM := hE.sz _ hbM
      have zA := hEr.sz _ hbA
      have HK := Lib.hid (fun w' (hw : Ext wr w') => HKN.out k hlt w' (hEr.tr hw))
      have HU := HUL.out k
      obtain ⟨hi, hzi0, hzi1, hzi2⟩ := HI.out
      have hB : Hid (unB f g.L k = (knB g.L k && (f k != 30000 && decide (gi g.L k < f k)))) := Lib.hid rfl
      have hY := Lib.hid (fun h => @unK_yes f g.L k h)
      have hN := Lib.hid (fun h => @unK_no f g.L k h)
      have hkM : Hid (knB M k = (f k != 30000)) := Lib.hid (by
        unfold knB
        rw [HMG.out k hlt]
        by_cases h : f k = 30000 <;> simp [h])
      have hki : (k : Int) < (g.L.length : Int) := by omega
      rw [hkM.out] at HKO
      clear hcM hcA
      generalize gi g.L k = la at *
      generalize f k = fk at *
      cases hkn : knB g.L k
      · rw [hkn] at HK hB
        have hn1 := hN.out (by rw [hB.out]; rfl)
        clear hkn hi hzi0 hzi1 hzi2
        go_upto_region 6 with fail
        refine region_grow (by kernel_rfl) (by kernel_rfl) ?_
        repeat (first | go_big_quiet_step (first | (go_at_call 35; with_reducible exact callsGrow (HK.out _ (Grow.ok _))) | fail) | quiet_step (first | (go_at_call 35; with_reducible exact callsGrow (HK.out _ (Grow.ok _))) | fail))
        refine wpQuiet_nil ?_
        intro w1 hb
        have hc := hb.ccell
        have hf := hb.frz
        have hs := hb.sz
        (try simp at hs); (try have hs0 := hs w.heap.size (by omega)); (try have hs1 := hs (w.heap.size + 1) (by omega)); (try have hs2 := hs (w.heap.size + 1 + 1) (by omega)); (try have hs3 := hs (w.heap.size + 1 + 1 + 1) (by omega))
        (try simp only [IntWalk.i64_left])
        have hE3 : Ext wr w1 := by assumption
        go_wp2
        exact ⟨⟨hE.tr hE3, k + 1, by omega, by go_num, Lib.hid (by rw [hn1]; exact ownsRow_ext hO.out hE3)⟩, by simp [intOf]; omega⟩
      rw [hkn] at HK hB
      clear hkn
      by_cases hu : fk = 30000
      · have hn1 := hN.out (by rw [hB.out]; simp [hu])
        subst hu
        rw [show ((30000 : Int) != 30000) = false from rfl] at HKO
        clear hi hzi0 hzi1 hzi2
        go_upto_region 6 with fail
        refine region_grow (by kernel_rfl) (by kernel_rfl) ?_
        repeat (first | go_big_quiet_step (first | (go_at_call 35; with_reducible exact callsGrow (HK.out _ (Grow.ok _))) | (go_at_call 35; with_reducible exact callsGrow (HKO.out _ (Grow.ok _))) | fail) | quiet_step (first | (go_at_call 35; with_reducible exact callsGrow (HK.out _ (Grow.ok _))) | (go_at_call 35; with_reducible exact callsGrow (HKO.out _ (Grow.ok _))) | fail))
        refine wpQuiet_nil ?_
        intro w1 hb
        have hc := hb.ccell
        have hf := hb.frz
        have hs := hb.sz
        (try simp at hs); (try have hs0 := hs w.heap.size (by omega)); (try have hs1 := hs (w.heap.size + 1) (by omega)); (try have hs2 := hs (w.heap.size + 1 + 1) (by omega)); (try have hs3 := hs (w.heap.size + 1 + 1 + 1) (by omega))
        (try simp only [IntWalk.i64_left])
        have hE3 : Ext wr w1 := by assumption
        go_wp2
        exact ⟨⟨hE.tr hE3, k + 1, by omega, by go_num, Lib.hid (by rw [hn1]; exact ownsRow_ext hO.out hE3)⟩, by simp [intOf]; omega⟩
      rw [show (fk != 30000) = true by simp [hu]] at HKO
      by_cases hlo : la < fk
      · have hy1 := hY.out (by rw [hB.out]; simp [hu, hlo])
        have HEr := hE.size
        go_upto_region 6 with fail
        refine region_grow (by kernel_rfl) (by kernel_rfl) ?_
        repeat (first | go_big_quiet_step (first | (go_at_call 35; with_reducible exact callsGrow (HK.out _ (Grow.ok _))) | (go_at_call 35; with_reducible exact callsGrow (HKO.out _ (Grow.ok _))) | fail) | quiet_step (first | (go_at_call 35; with_reducible exact callsGrow (HK.out _ (Grow.ok _))) | (go_at_call 35; with_reducible exact callsGrow (HKO.out _ (Grow.ok _))) | fail))
        refine wpQuiet_nil ?_
        intro w1 hb
        have hc := hb.ccell
        have hf := hb.frz
        have hs := hb.sz
        (try simp at hs); (try have hs0 := hs w.heap.size (by omega)); (try have hs1 := hs (w.heap.size + 1) (by omega)); (try have hs2 := hs (w.heap.size + 1 + 1) (by omega)); (try have hs3 := hs (w.heap.size + 1 + 1 + 1) (by omega))
        (try simp only [IntWalk.i64_left])
        have hE3 : Ext wr w1 := by assumption
        go_wp2_with (first | (at_builtin; refine wpList_append_own _ rfl _ _ 26 rfl W.heap.size 3 i0 _ 1 8 Tryz.underlying26 hi hzi0 hzi1 hzi2 rfl (by decide) _ _ _ rfl (World.ownsRow.alloc (ownsRow_ext hO.out hE3) _) ⟨_, 0, none⟩ 1 1 [.int .i64 (k : Int)] rfl rfl ?_ ?_ ?_ ?_ ?_ ?_))
        · exact one_newZ _ _ _
        · intro u hu; simp at hu; subst hu; rfl
        · unfold maxLen; omega
        · omega
        · have := hE3.size
          simp; omega
        intro v' w4 hown hgrow _
        have hE4 : Ext W w4 := grown_ext (Ext.al (hE.tr hE3) _) (World.ownsRow.alloc (ownsRow_ext hO.out hE3) _) (Nat.le_refl _) hgrow
        have hown2 : Hid (w4.ownsRow W.heap.size 3 1 v' (unK f g.L (k + 1)).length ((zl (unK f g.L (k + 1))).flatMap encZ)) := Lib.hid (by rw [hy1]; exact own_put hown)
        clear hown hgrow hi hzi0 hzi1 hzi2
        go_wp2
        exact ⟨⟨hE4, k + 1, by omega, by go_num, hown2⟩, by simp [intOf]; omega⟩
      · have hn1 := hN.out (by rw [hB.out]; simp [hlo])
        have hlo' : decide (la < fk) = false := decide_eq_false hlo
        clear hi hzi0 hzi1 hzi2
        go_upto_region 6 with fail
        refine region_grow (by kernel_rfl) (by kernel_rfl) ?_
        repeat (first | go_big_quiet_step (first | (go_at_call 35; with_reducible exact callsGrow (HK.out _ (Grow.ok _))) | (go_at_call 35; with_reducible exact callsGrow (HKO.out _ (Grow.ok _))) | fail) | quiet_step (first | (go_at_call 35; with_reducible exact callsGrow (HK.out _ (Grow.ok _))) | (go_at_call 35; with_reducible exact callsGrow (HKO.out _ (Grow.ok _))) | fail))
        refine wpQuiet_nil ?_
        intro w1 hb
        have hc := hb.ccell
        have hf := hb.frz
        have hs := hb.sz
        (try simp at hs); (try have hs0 := hs w.heap.size (by omega)); (try have hs1 := hs (w.heap.size + 1) (by omega)); (try have hs2 := hs (w.heap.size + 1 + 1) (by omega)); (try have hs3 := hs (w.heap.size + 1 + 1 + 1) (by omega))
        (try simp only [IntWalk.i64_left])
        have hE3 : Ext wr w1 := by assumption
        go_wp2
        exact ⟨⟨hE.tr hE3, k + 1, by omega, by go_num, Lib.hid (by rw [hn1]; exact ownsRow_ext hO.out hE3)⟩, by simp [intOf]; omega⟩
    · have hks : k = g.L.length := by omega
      subst hks
      obtain ⟨A6, c6, hv6, hN6⟩ := NewZ.of (l := zl (unK f g.L g.L.length)) rfl (zl_len _).symm hO.out
      subst hv6
      rw [zl_len]
      have hws := hEW.size
      go_wp2
      go_ret
      exact ⟨⟨A6, c6, rfl, hN6.mono hws⟩, hEr⟩
end Go.Proofs.YtgbkjioajmnjbaaGreat
