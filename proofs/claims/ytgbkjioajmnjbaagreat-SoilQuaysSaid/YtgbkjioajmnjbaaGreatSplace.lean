/- The contracts of checkPlace, At, Nearest. -/
import Derived.Test.YtgbkjioajmnjbaaGreatSat
namespace Go.Proofs.YtgbkjioajmnjbaaGreat
open Go Go.RowKit Go.IntWalk

def lvE (zs : List Int) (k : Nat) : Int := if lvB (gi zs k) = true then 0 else 2
/-- The error of a ground, a place and levels. -/
def pcE (soils : List So) (bos : List Bo) (x y : Int) (zs : List Int) : Int := if chkGr soils bos ≠ 0 then chkGr soils bos else if plB x y = false then 2 else firstE (lvE zs) zs.length
theorem pcE_ok {soils : List So} {bos : List Bo} {x y : Int} {zs : List Int} (h : pcE soils bos x y zs = 0) : VGd soils bos ∧ plB x y = true ∧ ∀ k, k < zs.length → lvB (gi zs k) = true := by
  unfold pcE at h
  by_cases h1 : chkGr soils bos = 0
  · rw [if_neg (by omega)] at h
    by_cases h2 : plB x y = false
    · rw [if_pos h2] at h; cases h
    · rw [if_neg h2] at h
      refine ⟨chkGr_ok h1, by simpa using h2, fun k hk => ?_⟩
      have := firstE_zero _ h k hk
      unfold lvE at this
      by_cases h3 : lvB (gi zs k) = true
      · exact h3
      · rw [if_neg h3] at this; cases this
  · rw [if_pos h1] at h; exact absurd h h1
set_option maxHeartbeats 4000000 in
theorem checkPlace_c (soils : List So) (bos : List Bo) (x y : Int) (zs : List Int) (w : World) (AS AB AZ : Option Addr) (cS cB cZ : Nat) (g : GrW w soils AS bos AB) (hz : zs.length ≤ 1000) (hZ : Row 1 encZ w AZ zs) :
    Calls Tryz.prog 36 #[.agg #[.slice AS soils.length cS, .slice AB bos.length cB], .agg #[.int .i64 x, .int .i64 y], .slice AZ zs.length cZ] w fun e w' => e = .returned (.int .i64 (pcE soils bos x y zs)) ∧ Ext w w' := by
  have HG := Lib.hid (fun w' (hw : Ext w w') => checkGround_c soils bos w' AS AB cS cB (g.ext hw))
  have HP := Lib.hid (fun w' => sPlace_c x y w')
  unfold pcE
  clear g
  by_cases h0 : chkGr soils bos = 0
  case neg =>
    rw [if_pos h0]
    have h0' : (chkGr soils bos != 0) = true := by simp [h0]
    clear h0
    generalize chkGr soils bos = E at *
    go_enter Tryz.func36, Tryz.ntmps36
    go_wp2_with (first | (go_at_call 54; with_reducible refine Calls.mono (HG.out _ (by (repeat (first | with_reducible exact Ext.rfl' _ | with_reducible assumption | with_reducible refine Ext.al ?_ _ | with_reducible refine Ext.dr ?_ | with_reducible refine Ext.st ?_ (by simp) _ | with_reducible refine Ext.tr ?_ (by assumption))))) ?_; rintro e w1 ⟨rfl, hb⟩; have hc := hb.ccell; have hf := hb.frz; have hs := hb.sz; (try simp at hs); (try have hs0 := hs w.heap.size (by omega)); (try have hs1 := hs (w.heap.size + 1) (by omega)); (try have hs2 := hs (w.heap.size + 1 + 1) (by omega)); (try have hs3 := hs (w.heap.size + 1 + 1 + 1) (by omega))))
    go_ret
    exact ⟨rfl, by (repeat (first | with_reducible exact Ext.rfl' _ | with_reducible assumption | with_reducible refine Ext.al ?_ _ | with_reducible refine Ext.dr ?_ | with_reducible refine Ext.st ?_ (by simp) _ | with_reducible refine Ext.tr ?_ (by assumption)))⟩
  rw [if_neg (by omega)]
  rw [h0] at HG
  clear h0
  cases hp : plB x y
  · rw [hp] at HP
    rw [if_pos rfl]
    clear hp
    go_enter Tryz.func36, Tryz.ntmps36
    go_wp2_with (first | (go_at_call 54; with_reducible refine Calls.mono (HG.out _ (by (repeat (first | with_reducible exact Ext.rfl' _ | with_reducible assumption | with_reducible refine Ext.al ?_ _ | with_reducible refine Ext.dr ?_ | with_reducible refine Ext.st ?_ (by simp) _ | with_reducible refine Ext.tr ?_ (by assumption))))) ?_; rintro e w1 ⟨rfl, hb⟩; have hc := hb.ccell; have hf := hb.frz; have hs := hb.sz; (try simp at hs); (try have t0 := hs (w.heap.size) (by first | assumption | omega)); (try have t1 := hs (w.heap.size + 1) (by first | assumption | omega)); (try have t2 := hs (w.heap.size) (by first | assumption | omega)); (try have t3 := hs (w.heap.size) (by first | assumption | omega)); (try have t4 := hs (w.heap.size) (by first | assumption | omega)); (try have t5 := hs (w.heap.size) (by first | assumption | omega))) | (go_at_call 25; with_reducible refine Calls.mono (HP.out _) ?_; rintro e w1 ⟨rfl, hb⟩; have hc := hb.ccell; have hf := hb.frz; have hs := hb.sz; (try simp at hs); (try have hs0 := hs w.heap.size (by omega)); (try have hs1 := hs (w.heap.size + 1) (by omega)); (try have hs2 := hs (w.heap.size + 1 + 1) (by omega)); (try have hs3 := hs (w.heap.size + 1 + 1 + 1) (by omega))))
    go_ret
    exact ⟨rfl, by (repeat (first | with_reducible exact Ext.rfl' _ | with_reducible assumption | with_reducible refine Ext.al ?_ _ | with_reducible refine Ext.dr ?_ | with_reducible refine Ext.st ?_ (by simp) _ | with_reducible refine Ext.tr ?_ (by assumption)))⟩
  rw [hp] at HP
  rw [if_neg (by decide)]
  obtain ⟨E, hE0⟩ : ∃ E, firstE (lvE zs) zs.length = E := ⟨_, rfl⟩
  rw [hE0]
  have HE := Lib.hid hE0
  clear hE0 hp
  go_enter Tryz.func36, Tryz.ntmps36
  go_upto_region 6 with (first | (go_at_call 54; with_reducible refine Calls.mono (HG.out _ (by (repeat (first | with_reducible exact Ext.rfl' _ | with_reducible assumption | with_reducible refine Ext.al ?_ _ | with_reducible refine Ext.dr ?_ | with_reducible refine Ext.st ?_ (by simp) _ | with_reducible refine Ext.tr ?_ (by assumption))))) ?_; rintro e w1 ⟨rfl, hb⟩; have hc := hb.ccell; have hf := hb.frz; have hs := hb.sz; (try simp at hs); (try have t0 := hs (w.heap.size) (by first | assumption | omega)); (try have t1 := hs (w.heap.size + 1) (by first | assumption | omega)); (try have t2 := hs (w.heap.size) (by first | assumption | omega)); (try have t3 := hs (w.heap.size) (by first | assumption | omega)); (try have t4 := hs (w.heap.size) (by first | assumption | omega)); (try have t5 := hs (w.heap.size) (by first | assumption | omega))) | (go_at_call 25; with_reducible refine Calls.mono (HP.out _) ?_; rintro e w2 ⟨rfl, hb⟩; have hc := hb.ccell; have hf := hb.frz; have hs := hb.sz; (try simp at hs); (try have t0 := hs (w.heap.size) (by first | assumption | omega)); (try have t1 := hs (w.heap.size + 1) (by first | assumption | omega)); (try have t2 := hs (w.heap.size) (by first | assumption | omega)); (try have t3 := hs (w.heap.size) (by first | assumption | omega)); (try have t4 := hs (w.heap.size) (by first | assumption | omega)); (try have t5 := hs (w.heap.size) (by first | assumption | omega))))
  have hEW : Ext w w2 := by (repeat (first | with_reducible exact Ext.rfl' _ | with_reducible assumption | with_reducible refine Ext.al ?_ _ | with_reducible refine Ext.dr ?_ | with_reducible refine Ext.st ?_ (by simp) _ | with_reducible refine Ext.tr ?_ (by assumption)))
  clear hb hc hf hs t0 t1 t2 t3 t4 t5
  go_wp2
  go_loopw [9, 20] (fun _ i wr => Ext w wr ∧ ∃ k : Nat, k ≤ zs.length ∧ i = .int .i64 k ∧ Hid (firstE (lvE zs) k = 0)) (fun _ i _ => zs.length - (intOf i).toNat)
  case atStart => exact ⟨hEW, 0, Nat.zero_le _, rfl, rfl⟩
  case round =>
    obtain ⟨hE, k, hk, rfl, hF⟩ := hrel
    by_cases hlt : k < zs.length
    · obtain ⟨b, off, rfl, hb0, hcell⟩ := hZ.p1 hlt
      have c1 := hcell _ hE
      rw [← gi_lt] at c1
      have hzb := hE.sz _ hb0
      have HLE : Hid (lvE zs k = if lvB (gi zs k) = true then 0 else 2) := rfl
      have HL := Lib.hid (fun w => sLevel_c (gi zs k) w)
      clear hcell
      generalize gi zs k = z at *
      cases hl : lvB z
      · rw [hl] at HL HLE
        have HT : Hid ((2 : Int) = E) := Lib.hid (by rw [← HE.out, firstE_at (lvE zs) hF.out (by rw [HLE.out]; simp) hlt, HLE.out]; rfl)
        clear hl
        go_wp2_with (first | (go_at_call 26; with_reducible refine Calls.mono (HL.out _) ?_; rintro e w' ⟨rfl, rfl⟩))
        go_ret
        exact ⟨ret_int HT.out, by (repeat (first | with_reducible exact Ext.rfl' _ | with_reducible assumption | with_reducible refine Ext.al ?_ _ | with_reducible refine Ext.dr ?_ | with_reducible refine Ext.st ?_ (by simp) _ | with_reducible refine Ext.tr ?_ (by assumption)))⟩
      · rw [hl] at HL HLE
        clear hl
        go_wp2_with (first | (go_at_call 26; with_reducible refine Calls.mono (HL.out _) ?_; rintro e w' ⟨rfl, rfl⟩))
        exact ⟨⟨by (repeat (first | with_reducible exact Ext.rfl' _ | with_reducible assumption | with_reducible refine Ext.al ?_ _ | with_reducible refine Ext.dr ?_ | with_reducible refine Ext.st ?_ (by simp) _ | with_reducible refine Ext.tr ?_ (by assumption))), k + 1, by omega, by go_num, firstE_step _ hF.out (by rw [HLE.out]; rfl)⟩, by simp [intOf]; omega⟩
    · have hks : k = zs.length := by omega
      have HT : Hid ((0 : Int) = E) := Lib.hid (by rw [← HE.out, ← hks, hF.out])
      go_wp2
      go_ret
      exact ⟨ret_int HT.out, hE⟩
/-- The soil at a place and level. -/
def soilB (bos : List Bo) (x y z : Int) : ByteArray := (el (el bos (nearB bos x y)).l (layN (el bos (nearB bos x y)).l z (el bos (nearB bos x y)).l.length)).s
set_option maxHeartbeats 4000000 in
theorem at_c (soils : List So) (bos : List Bo) (x y z : Int) (w : World) (AS AB : Option Addr) (cS cB : Nat) (g : GrW w soils AS bos AB) :
    Calls Tryz.prog 17 #[.agg #[.slice AS soils.length cS, .slice AB bos.length cB], .agg #[.int .i64 x, .int .i64 y], .int .i64 z] w
      fun e w' => e = .returned (.tuple #[.string (if pcE soils bos x y [z] = 0 then soilB bos x y z else ⟨#[]⟩), .int .i64 (pcE soils bos x y [z])]) ∧ Ext w w' := by
  have HC := Lib.hid (fun w' AZ cZ (hw : Ext w w') hZ => checkPlace_c soils bos x y [z] w' AS AB AZ cS cB cZ (g.ext hw) (by simp) hZ)
  simp only [List.length_cons, List.length_nil] at HC
  by_cases h0 : pcE soils bos x y [z] = 0
  case neg =>
    rw [if_neg h0]
    have h0' : (pcE soils bos x y [z] != 0) = true := by simp [h0]
    clear h0 g
    generalize pcE soils bos x y [z] = E at *
    go_enter Tryz.func17, Tryz.ntmps17
    go_wp2_with (first | (go_at_call 36; with_reducible refine Calls.mono (HC.out _ _ _ (by (repeat (first | with_reducible exact Ext.rfl' _ | with_reducible assumption | with_reducible refine Ext.al ?_ _ | with_reducible refine Ext.dr ?_ | with_reducible refine Ext.st ?_ (by simp) _ | with_reducible refine Ext.tr ?_ (by assumption)))) (Row.new' encZ_len _ _ _ _ _ (by simp) rfl)) ?_; rintro e w1 ⟨rfl, hb⟩; have hc := hb.ccell; have hf := hb.frz; have hs := hb.sz; (try simp at hs); (try have hs0 := hs w.heap.size (by omega)); (try have hs1 := hs (w.heap.size + 1) (by omega)); (try have hs2 := hs (w.heap.size + 1 + 1) (by omega)); (try have hs3 := hs (w.heap.size + 1 + 1 + 1) (by omega))))
    exact bodyPost_ret (v := .tuple #[.string ⟨#[]⟩, .int .i64 E]) (by simp [results, Tryz.results17, go_sem]) rfl ⟨rfl, by (repeat (first | with_reducible exact Ext.rfl' _ | with_reducible assumption | with_reducible refine Ext.al ?_ _ | with_reducible refine Ext.dr ?_ | with_reducible refine Ext.st ?_ (by simp) _ | with_reducible refine Ext.tr ?_ (by assumption)))⟩
  obtain ⟨v, hp, _⟩ := pcE_ok h0
  rw [if_pos h0]
  rw [h0] at HC
  rw [h0]
  have HL := Lib.hid (fun w' (hw : Ext w w') => layersAt_c soils bos x y w' AS AB cS cB (g.ext hw) v hp)
  have hn := nearB_lt v x y
  have vb := v.b _ hn
  have hla := g.la _ hn
  have HS := Lib.hid (fun w' (hw : Ext w w') => soilAt_c (el bos (nearB bos x y)).l z w' (el bos (nearB bos x y)).A (el bos (nearB bos x y)).c hla.2.1 vb.pos (hla.1.ext hw))
  unfold soilB
  generalize (el (el bos (nearB bos x y)).l (layN (el bos (nearB bos x y)).l z (el bos (nearB bos x y)).l.length)).s = s at *
  generalize el bos (nearB bos x y) = u at *
  clear h0 v hp hn vb hla g
  go_enter Tryz.func17, Tryz.ntmps17
  go_wp2_with (first | (go_at_call 36; with_reducible refine Calls.mono (HC.out _ _ _ (by (repeat (first | with_reducible exact Ext.rfl' _ | with_reducible assumption | with_reducible refine Ext.al ?_ _ | with_reducible refine Ext.dr ?_ | with_reducible refine Ext.st ?_ (by simp) _ | with_reducible refine Ext.tr ?_ (by assumption)))) (Row.new' encZ_len _ _ _ _ _ (by simp) rfl)) ?_; rintro e w1 ⟨rfl, hb⟩; have hc := hb.ccell; have hf := hb.frz; have hs := hb.sz; (try simp at hs); (try have t0 := hs (w.heap.size) (by first | assumption | omega)); (try have t1 := hs (w.heap.size + 1) (by first | assumption | omega)); (try have t2 := hs (w.heap.size) (by first | assumption | omega)); (try have t3 := hs (w.heap.size) (by first | assumption | omega)); (try have t4 := hs (w.heap.size) (by first | assumption | omega)); (try have t5 := hs (w.heap.size) (by first | assumption | omega))) | (go_at_call 38; with_reducible refine Calls.mono (HL.out _ (by (repeat (first | with_reducible exact Ext.rfl' _ | with_reducible assumption | with_reducible refine Ext.al ?_ _ | with_reducible refine Ext.dr ?_ | with_reducible refine Ext.st ?_ (by simp) _ | with_reducible refine Ext.tr ?_ (by assumption))))) ?_; rintro e w1 ⟨rfl, hb⟩; have hc := hb.ccell; have hf := hb.frz; have hs := hb.sz; (try simp at hs); (try have hs0 := hs w.heap.size (by omega)); (try have hs1 := hs (w.heap.size + 1) (by omega)); (try have hs2 := hs (w.heap.size + 1 + 1) (by omega)); (try have hs3 := hs (w.heap.size + 1 + 1 + 1) (by omega))) | (go_at_call 37; with_reducible refine Calls.mono (HS.out _ (by (repeat (first | with_reducible exact Ext.rfl' _ | with_reducible assumption | with_reducible refine Ext.al ?_ _ | with_reducible refine Ext.dr ?_ | with_reducible refine Ext.st ?_ (by simp) _ | with_reducible refine Ext.tr ?_ (by assumption))))) ?_; rintro e w1 ⟨rfl, hb⟩; have hc := hb.ccell; have hf := hb.frz; have hs := hb.sz; (try simp at hs); (try have hs0 := hs w.heap.size (by omega)); (try have hs1 := hs (w.heap.size + 1) (by omega)); (try have hs2 := hs (w.heap.size + 1 + 1) (by omega)); (try have hs3 := hs (w.heap.size + 1 + 1 + 1) (by omega))))
  exact bodyPost_ret (v := .tuple #[.string s, .int .i64 0]) (by simp [results, Tryz.results17, go_sem]) rfl ⟨rfl, by (repeat (first | with_reducible exact Ext.rfl' _ | with_reducible assumption | with_reducible refine Ext.al ?_ _ | with_reducible refine Ext.dr ?_ | with_reducible refine Ext.st ?_ (by simp) _ | with_reducible refine Ext.tr ?_ (by assumption)))⟩
end Go.Proofs.YtgbkjioajmnjbaaGreat
