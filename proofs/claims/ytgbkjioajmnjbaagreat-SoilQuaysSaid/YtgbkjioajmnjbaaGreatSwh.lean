/- The contracts of soil.Undermined. -/
import Derived.Test.YtgbkjioajmnjbaaGreatSwf
namespace Go.Proofs.YtgbkjioajmnjbaaGreat
open Go Go.RowKit Go.IntWalk

def OutU (base : Nat) (l : List Nat) (e : Ending) (w' : World) : Prop :=
  ∃ A c, e = .returned (.tuple #[.slice A l.length c, .int .i64 0]) ∧ NewZ base w' A c (zl l)
theorem unK_congr {f f' : Nat → Int} {L : List Int} {k : Nat} (h : ∀ i, i < k → f i = f' i) : unK f L k = unK f' L k := by
  unfold unK
  apply List.filter_congr
  intro i hi
  unfold unB
  rw [h i (List.mem_range.1 hi)]
set_option maxHeartbeats 8000000 in
theorem gunder_err (q : Qu) (g : Gr) (w : World) (A : Option Addr) (c : Nat) (hl : g.L.length ≤ maxLen) (hA : Row 1 encZ w A g.L) (h0 : frE q g ≠ 0) :
    Calls Tryz.prog 7 #[.agg #[.string q.s, .int .i64 q.a.x, .int .i64 q.a.y, .int .i64 q.b.x, .int .i64 q.b.y, .int .i64 q.lev, .int .i64 q.run], .agg #[.int .i64 g.X, .int .i64 g.Y, .int .i64 g.S, .int .i64 g.C, .int .i64 g.R, .slice A g.L.length c]] w fun e w' => e = .returned (.tuple #[.slice none 0 0, .int .i64 (frE q g)]) ∧ Ext w w' := by
  have HC := Lib.hid (fun w' (hw : Ext w w') => checkFront_c q g w' A c hl (hA.ext hw))
  have h0' : (frE q g != 0) = true := by simp [h0]
  clear h0 hA hl
  generalize frE q g = E at *
  go_enter Tryz.func7, Tryz.ntmps7
  go_wp2_with (first | (go_at_call 20; with_reducible refine Calls.mono (HC.out _ (by (repeat (first | with_reducible exact Ext.rfl' _ | with_reducible assumption | with_reducible refine Ext.al ?_ _ | with_reducible refine Ext.dr ?_ | with_reducible refine Ext.st ?_ (by simp) _ | with_reducible refine Ext.tr ?_ (by assumption))))) ?_; rintro e wk ⟨rfl, hb⟩; have hc := hb.ccell; have hf := hb.frz; have hs := hb.sz; (try simp at hs); (try have t0 := hs (w.heap.size) (by first | assumption | omega)); (try have t1 := hs (w.heap.size + 1) (by first | assumption | omega)); (try have t2 := hs (w.heap.size) (by first | assumption | omega)); (try have t3 := hs (w.heap.size) (by first | assumption | omega)); (try have t4 := hs (w.heap.size) (by first | assumption | omega)); (try have t5 := hs (w.heap.size) (by first | assumption | omega))))
  exact bodyPost_ret (v := .tuple #[.slice none 0 0, .int .i64 E]) (by simp [results, Tryz.results7, go_sem]) rfl ⟨rfl, by (repeat (first | with_reducible exact Ext.rfl' _ | with_reducible assumption | with_reducible refine Ext.al ?_ _ | with_reducible refine Ext.dr ?_ | with_reducible refine Ext.st ?_ (by simp) _ | with_reducible refine Ext.tr ?_ (by assumption)))⟩
set_option maxHeartbeats 16000000 in
set_option maxRecDepth 100000 in
theorem gunder_ok (q : Qu) (g : Gr) (cn : Nat) (w : World) (A : Option Addr) (c : Nat) (hl : g.L.length ≤ maxLen) (hA : Row 1 encZ w A g.L) (h0 : frE q g = 0) (hC : g.C = cn) :
    Calls Tryz.prog 7 #[.agg #[.string q.s, .int .i64 q.a.x, .int .i64 q.a.y, .int .i64 q.b.x, .int .i64 q.b.y, .int .i64 q.lev, .int .i64 q.run], .agg #[.int .i64 g.X, .int .i64 g.Y, .int .i64 g.S, .int .i64 g.C, .int .i64 g.R, .slice A g.L.length c]] w fun e w' => OutU w.heap.size (unK (wdC q g cn) g.L g.L.length) e w' ∧ Ext w w' := by
  obtain ⟨hq0, hg0⟩ := frE_ok h0
  have vg := chkG_ok hg0
  have hn : g.L.length ≤ 1024 := by have h1 := vg.len; have h2 := vg.hn; omega
  have HC := Lib.hid (fun w' (hw : Ext w w') => checkFront_c q g w' A c hl (hA.ext hw))
  rw [h0] at HC
  have HWS := Lib.hid (fun w' (hw : Ext w w') => wedges_c q g cn w' A c hq0 hg0 hC (hA.ext hw))
  have HKN := Lib.hid (fun k (hk : k < g.L.length) w' (hw : Ext w w') => sKnown_c g k w' A c hk (by omega) (hA.ext hw))
  have hM : (wdL q g cn).length = g.L.length := mkI_len _ _
  have hMg : ∀ i, i < g.L.length → gi (wdL q g cn) i = wdC q g cn i := fun i hi => mkI_gi _ _ _ hi
  generalize wdL q g cn = M at *
  generalize wdC q g cn = f at *
  unfold OutZ at HWS
  rw [hM] at HWS
  have HUL := Lib.hid (fun k => unK_le f g.L k)
  have HLM := Lib.hid hM
  have HMG := Lib.hid hMg
  obtain ⟨i0, hi, hzi0, hzi1, hzi2⟩ := info_parts infoZ
  have HI := Lib.hid (And.intro hi (And.intro hzi0 (And.intro hzi1 hzi2)))
  have HAA := Lib.hid hA
  clear hi hzi0 hzi1 hzi2 h0 hA hl hq0 hg0 hC vg hM hMg
  go_enter Tryz.func7, Tryz.ntmps7
  go_upto_region 6 with (first | (go_at_call 20; with_reducible refine Calls.mono (HC.out _ (by (repeat (first | with_reducible exact Ext.rfl' _ | with_reducible assumption | with_reducible refine Ext.al ?_ _ | with_reducible refine Ext.dr ?_ | with_reducible refine Ext.st ?_ (by simp) _ | with_reducible refine Ext.tr ?_ (by assumption))))) ?_; rintro e wk ⟨rfl, hb⟩; have hc := hb.ccell; have hf := hb.frz; have hs := hb.sz; (try simp at hs); (try have t0 := hs (w.heap.size) (by first | assumption | omega)); (try have t1 := hs (w.heap.size + 1) (by first | assumption | omega)); (try have t2 := hs (w.heap.size) (by first | assumption | omega)); (try have t3 := hs (w.heap.size) (by first | assumption | omega)); (try have t4 := hs (w.heap.size) (by first | assumption | omega)); (try have t5 := hs (w.heap.size) (by first | assumption | omega))) | (go_at_call 22; (with_reducible refine Calls.mono (HWS.out _ (by (repeat (first | with_reducible exact Ext.rfl' _ | with_reducible assumption | with_reducible refine Ext.al ?_ _ | with_reducible refine Ext.dr ?_ | with_reducible refine Ext.st ?_ (by simp) _ | with_reducible refine Ext.tr ?_ (by assumption))))) ?_); rintro e w2 ⟨⟨A2, c2, rfl, hN2⟩, hb⟩; have hc := hb.ccell; have hf := hb.frz; have hs := hb.sz; (try simp at hs); (try have t0 := hs (w.heap.size) (by first | assumption | omega)); (try have t1 := hs (w.heap.size + 1) (by first | assumption | omega)); (try have t2 := hs (w.heap.size) (by first | assumption | omega)); (try have t3 := hs (w.heap.size) (by first | assumption | omega)); (try have t4 := hs (w.heap.size) (by first | assumption | omega)); (try have t5 := hs (w.heap.size) (by first | assumption | omega))))
  refine wp_name (fun W hW => ?_)
  have hEW : Ext w W := by rw [hW]; (repeat (first | with_reducible exact Ext.rfl' _ | with_reducible assumption | with_reducible refine Ext.al ?_ _ | with_reducible refine Ext.dr ?_ | with_reducible refine Ext.st ?_ (by simp) _ | with_reducible refine Ext.tr ?_ (by assumption)))
  have hE2 : Ext w2 W := by rw [hW]; (repeat (first | with_reducible exact Ext.rfl' _ | with_reducible assumption | with_reducible refine Ext.al ?_ _ | with_reducible refine Ext.dr ?_ | with_reducible refine Ext.st ?_ (by simp) _ | with_reducible refine Ext.tr ?_ (by assumption)))
  have km : CellsAt W (w.heap.size + 1) 0 [.int .i64 g.X, .int .i64 g.Y, .int .i64 g.S, .int .i64 g.C, .int .i64 g.R, .slice A g.L.length c] := by rw [hW]; refine cells_six ⟨?_, ?_, ?_, ?_, ?_, ?_⟩ <;> simp [*, go_sem]
  have z1 : w.heap.size + 1 < W.heap.size := by rw [hW]; first | assumption | (simp; omega)
  have hRW := Lib.hid (hN2.row.ext hE2)
  clear hW hb hc hf hs t0 t1 t2 t3 t4 t5 HC HWS hN2 hE2
  go_wp2
  go_loopw [7, 20] (fun s i wr => Ext W wr ∧ ∃ k : Nat, k ≤ g.L.length ∧ i = .int .i64 k ∧ Hid (wr.ownsRow W.heap.size 3 1 s (unK f g.L k).length ((zl (unK f g.L k)).flatMap encZ))) (fun _ i _ => g.L.length - (intOf i).toNat)
  case atStart => exact ⟨Ext.rfl' _, 0, Nat.zero_le _, rfl, Lib.hid (World.ownsRow_nil _ _ _ _)⟩
  case round =>
    obtain ⟨hE, k, hk, rfl, hO⟩ := hrel
    have hEr := hEW.tr hE
    obtain ⟨m0, m1, m2, m3, m4, m5⟩ := (km.ext hE z1).six
    have y1 := hE.sz _ z1
    by_cases hlt : k < g.L.length
    · obtain ⟨bM, oM, rfl, hbM, hcM⟩ := hRW.out.p1 (k := k) (by rw [HLM.out]; exact hlt)
      obtain ⟨bA, oA, rfl, hbA, hcA⟩ := HAA.out.p1 (k := k) hlt
      have cM := hcM _ hE
      have cA := hcA _ hEr
      rw [← gi_lt] at cM cA
      rw [HMG.out k hlt] at cM
      have zM := hE.sz _ hbM
      have zA := hEr.sz _ hbA
      have HK := Lib.hid (fun w' (hw : Ext wr w') => HKN.out k hlt w' (hEr.tr hw))
      have HU := HUL.out k
      obtain ⟨hi, hzi0, hzi1, hzi2⟩ := HI.out
      have hB : Hid (unB f g.L k = (knB g.L k && (f k != 30000 && decide (gi g.L k < f k)))) := Lib.hid rfl
      have hY := Lib.hid (fun h => @unK_yes f g.L k h)
      have hN := Lib.hid (fun h => @unK_no f g.L k h)
      have hki : (k : Int) < (g.L.length : Int) := by omega
      clear hcM hcA
      generalize gi g.L k = la at *
      generalize f k = fk at *
      cases hkn : knB g.L k
      · rw [hkn] at HK hB
        have hn1 := hN.out (by rw [hB.out]; rfl)
        clear hkn hi hzi0 hzi1 hzi2
        go_wp2_with (first | (go_at_call 23; with_reducible refine Calls.mono (HK.out _ (by (repeat (first | with_reducible exact Ext.rfl' _ | with_reducible assumption | with_reducible refine Ext.al ?_ _ | with_reducible refine Ext.dr ?_ | with_reducible refine Ext.st ?_ (by simp) _ | with_reducible refine Ext.tr ?_ (by assumption))))) ?_; rintro e w3 ⟨rfl, hb⟩; have hc := hb.ccell; have hf := hb.frz; have hs := hb.sz; (try simp at hs); (try have t0 := hs (w.heap.size) (by first | assumption | omega)); (try have t1 := hs (w.heap.size + 1) (by first | assumption | omega)); (try have t2 := hs (bA) (by first | assumption | omega)); (try have t3 := hs (bM) (by first | assumption | omega)); (try have t4 := hs (w.heap.size) (by first | assumption | omega)); (try have t5 := hs (w.heap.size) (by first | assumption | omega))))
        have hE3 : Ext wr w3 := by assumption
        exact ⟨⟨hE.tr hE3, k + 1, by omega, by go_num, Lib.hid (by rw [hn1]; exact ownsRow_ext hO.out hE3)⟩, by simp [intOf]; omega⟩
      rw [hkn] at HK hB
      clear hkn
      by_cases hu : fk = 30000
      · have hn1 := hN.out (by rw [hB.out]; simp [hu])
        subst hu
        clear hi hzi0 hzi1 hzi2
        go_wp2_with (first | (go_at_call 23; with_reducible refine Calls.mono (HK.out _ (by (repeat (first | with_reducible exact Ext.rfl' _ | with_reducible assumption | with_reducible refine Ext.al ?_ _ | with_reducible refine Ext.dr ?_ | with_reducible refine Ext.st ?_ (by simp) _ | with_reducible refine Ext.tr ?_ (by assumption))))) ?_; rintro e w3 ⟨rfl, hb⟩; have hc := hb.ccell; have hf := hb.frz; have hs := hb.sz; (try simp at hs); (try have t0 := hs (w.heap.size) (by first | assumption | omega)); (try have t1 := hs (w.heap.size + 1) (by first | assumption | omega)); (try have t2 := hs (bA) (by first | assumption | omega)); (try have t3 := hs (bM) (by first | assumption | omega)); (try have t4 := hs (w.heap.size) (by first | assumption | omega)); (try have t5 := hs (w.heap.size) (by first | assumption | omega))))
        have hE3 : Ext wr w3 := by assumption
        exact ⟨⟨hE.tr hE3, k + 1, by omega, by go_num, Lib.hid (by rw [hn1]; exact ownsRow_ext hO.out hE3)⟩, by simp [intOf]; omega⟩
      have hu' : (fk != 30000) = true := by simp [hu]
      by_cases hlo : la < fk
      · have hy1 := hY.out (by rw [hB.out]; simp [hu, hlo])
        have HEr := hE.size
        go_wp2_with (first | (go_at_call 23; with_reducible refine Calls.mono (HK.out _ (by (repeat (first | with_reducible exact Ext.rfl' _ | with_reducible assumption | with_reducible refine Ext.al ?_ _ | with_reducible refine Ext.dr ?_ | with_reducible refine Ext.st ?_ (by simp) _ | with_reducible refine Ext.tr ?_ (by assumption))))) ?_; rintro e w3 ⟨rfl, hb⟩; have hc := hb.ccell; have hf := hb.frz; have hs := hb.sz; (try simp at hs); (try have t0 := hs (w.heap.size) (by first | assumption | omega)); (try have t1 := hs (w.heap.size + 1) (by first | assumption | omega)); (try have t2 := hs (bA) (by first | assumption | omega)); (try have t3 := hs (bM) (by first | assumption | omega)); (try have t4 := hs (w.heap.size) (by first | assumption | omega)); (try have t5 := hs (w.heap.size) (by first | assumption | omega))) | (at_builtin; refine wpList_append_own _ rfl _ _ 26 rfl W.heap.size 3 i0 _ 1 8 Tryz.underlying26 hi hzi0 hzi1 hzi2 rfl (by decide) _ _ _ rfl (World.ownsRow.alloc (ownsRow_ext hO.out (show Ext wr w3 by (repeat (first | with_reducible exact Ext.rfl' _ | with_reducible assumption | with_reducible refine Ext.al ?_ _ | with_reducible refine Ext.dr ?_ | with_reducible refine Ext.st ?_ (by simp) _ | with_reducible refine Ext.tr ?_ (by assumption))))) _) ⟨_, 0, none⟩ 1 1 [.int .i64 (k : Int)] rfl rfl ?_ ?_ ?_ ?_ ?_ ?_))
        · exact one_newZ _ _ _
        · intro u hu; simp at hu; subst hu; rfl
        · unfold maxLen; omega
        · omega
        · have hE3 : Ext wr w3 := by assumption
          have := hE3.size
          simp; omega
        intro v' w4 hown hgrow _
        have hE3 : Ext wr w3 := by assumption
        have hE4 : Ext W w4 := grown_ext (Ext.al (hE.tr hE3) _) (World.ownsRow.alloc (ownsRow_ext hO.out hE3) _) (Nat.le_refl _) hgrow
        have hown2 : Hid (w4.ownsRow W.heap.size 3 1 v' (unK f g.L (k + 1)).length ((zl (unK f g.L (k + 1))).flatMap encZ)) := Lib.hid (by rw [hy1]; exact own_put hown)
        clear hown hgrow hi hzi0 hzi1 hzi2
        go_wp2
        exact ⟨⟨hE4, k + 1, by omega, by go_num, hown2⟩, by simp [intOf]; omega⟩
      · have hn1 := hN.out (by rw [hB.out]; simp [hlo])
        have hlo' : decide (la < fk) = false := decide_eq_false hlo
        clear hi hzi0 hzi1 hzi2
        go_wp2_with (first | (go_at_call 23; with_reducible refine Calls.mono (HK.out _ (by (repeat (first | with_reducible exact Ext.rfl' _ | with_reducible assumption | with_reducible refine Ext.al ?_ _ | with_reducible refine Ext.dr ?_ | with_reducible refine Ext.st ?_ (by simp) _ | with_reducible refine Ext.tr ?_ (by assumption))))) ?_; rintro e w3 ⟨rfl, hb⟩; have hc := hb.ccell; have hf := hb.frz; have hs := hb.sz; (try simp at hs); (try have t0 := hs (w.heap.size) (by first | assumption | omega)); (try have t1 := hs (w.heap.size + 1) (by first | assumption | omega)); (try have t2 := hs (bA) (by first | assumption | omega)); (try have t3 := hs (bM) (by first | assumption | omega)); (try have t4 := hs (w.heap.size) (by first | assumption | omega)); (try have t5 := hs (w.heap.size) (by first | assumption | omega))))
        have hE3 : Ext wr w3 := by assumption
        exact ⟨⟨hE.tr hE3, k + 1, by omega, by go_num, Lib.hid (by rw [hn1]; exact ownsRow_ext hO.out hE3)⟩, by simp [intOf]; omega⟩
    · have hks : k = g.L.length := by omega
      subst hks
      obtain ⟨A6, c6, hv6, hN6⟩ := NewZ.of (l := zl (unK f g.L g.L.length)) rfl (zl_len _).symm hO.out
      subst hv6
      rw [zl_len]
      have hws := hEW.size
      go_wp2
      exact bodyPost_ret (v := .tuple #[.slice A6 (unK f g.L g.L.length).length c6, .int .i64 0]) (by simp [results, Tryz.results7, go_sem]) rfl ⟨⟨A6, c6, rfl, hN6.mono hws⟩, hEr⟩
end Go.Proofs.YtgbkjioajmnjbaaGreat
