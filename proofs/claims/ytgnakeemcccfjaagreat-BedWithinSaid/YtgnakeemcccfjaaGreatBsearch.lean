/- The contracts of the closure of Clear and of sort.Search with it. -/
import Derived.Test.YtgnakeemcccfjaaGreatBends
import Derived.Deep.RegionHeld3
namespace Go.Proofs.YtgnakeemcccfjaaGreat
open Go Go.RowKit Go.IntWalk

def BoolOf (P : Prop) (e : Ending) : Prop := ∃ b : Bool, e = .returned (.bool b) ∧ (b = true ↔ P)
/-- What is held while a region goes on: all old cells. -/
theorem keepX {W w' : World} (h : Ext W w') : (∀ b j : Nat, b < W.heap.size → w'.cell? ⟨b, j, none⟩ = W.cell? ⟨b, j, none⟩) ∧ Ext W w' := ⟨h.ccell, h⟩
/-- What Clear has laid into boxes. -/
structure ClW (w : World) (g : Gr) (A : Option Addr) (cA : Nat) (F T : List Nat) (B D : Option Addr) (cB cD : Nat) (Ls : List Int) (L : Option Addr) (cL p1 p2 p3 p4 : Nat) : Prop where
  k1 : BoxG w p1 g A cA
  k2 : w.cell? ⟨p2, 0, none⟩ = some (.slice B F.length cB)
  k3 : w.cell? ⟨p3, 0, none⟩ = some (.slice D T.length cD)
  k4 : w.cell? ⟨p4, 0, none⟩ = some (.slice L Ls.length cL)
  z2 : p2 < w.heap.size
  z3 : p3 < w.heap.size
  z4 : p4 < w.heap.size
  rA : Row 1 encZ w A g.L
  rB : Row 1 encZ w B (zl F)
  rD : Row 1 encZ w D (zl T)
  rL : Row 1 encZ w L Ls
theorem ClW.ext {w w' : World} {g : Gr} {A : Option Addr} {cA : Nat} {F T : List Nat} {B D : Option Addr} {cB cD : Nat} {Ls : List Int} {L : Option Addr} {cL p1 p2 p3 p4 : Nat} (h : ClW w g A cA F T B D cB cD Ls L cL p1 p2 p3 p4) (hw : Ext w w') : ClW w' g A cA F T B D cB cD Ls L cL p1 p2 p3 p4 :=
  ⟨h.k1.ext hw, (hw.ccell _ _ h.z2).trans h.k2, (hw.ccell _ _ h.z3).trans h.k3, (hw.ccell _ _ h.z4).trans h.k4, hw.sz _ h.z2, hw.sz _ h.z3, hw.sz _ h.z4, h.rA.ext hw, h.rB.ext hw, h.rD.ext hw, h.rL.ext hw⟩
/-- The ends of ways in a grid. -/
structure EndsOk (g : Gr) (cn rn : Nat) (F T : List Nat) : Prop where
  hC : g.C = cn
  hR : g.R = rn
  c0 : 0 < cn
  c1 : cn ≤ 1024
  r1 : rn ≤ 1024
  n1 : cn * rn ≤ 1024
  len : g.L.length = cn * rn
  fF : ∀ x ∈ F, x < cn * rn
  fT : ∀ x ∈ T, x < cn * rn
  lF : F.length ≤ 50000
  lT : T.length ≤ 50000
def wayA (g : Gr) (cn rn : Nat) (F T : List Nat) (lev : Int) : Prop := ∃ p, IsWay (adjN cn rn) (naP g lev) (cn * rn) F T p
theorem findA_c {g : Gr} {cn rn : Nat} {F T : List Nat} (E : EndsOk g cn rn F T) (lev : Int) (p q : Nat) (w : World) (A B D : Option Addr) (cA cB cD : Nat) (hA : Row 1 encZ w A g.L) (hB : Row 1 encZ w B (zl F)) (hD : Row 1 encZ w D (zl T))
    (hp : BoxG w p g A cA) (hq : w.cell? ⟨q, 0, none⟩ = some (.int .i64 lev)) (hqz : q < w.heap.size) :
    Calls Tryz.prog 65 #[.agg #[.int .i64 g.X, .int .i64 g.Y, .int .i64 g.S, .int .i64 g.C, .int .i64 g.R, .slice A g.L.length cA], .slice B F.length cB, .slice D T.length cD, .func (.func 94) #[] #[.pointer (some ⟨p, 0, none⟩), .pointer (some ⟨q, 0, none⟩)]] w
      fun e w' => OutFind w.heap.size (adjN cn rn) (naP g lev) (cn * rn) F T e w' ∧ Ext w w' :=
  findWay_c g cn rn F T (naP g lev) p q w A B D cA cB cD E.hC E.hR E.c0 E.c1 E.r1 E.n1 E.fF E.fT E.lF E.lT hB hD (fun k hk w' hw => notAbove1_c g lev k p q w' A cA (by rw [E.len]; exact hk) (by rw [E.len]; have := E.n1; omega) (hA.ext hw) (hp.ext hw) ((hw.ccell _ _ hqz).trans hq) (hw.sz _ hqz))
/-- findWay's result, asked whether it is nil. -/
def NilOr (base : Nat) (adj : Nat → Nat → Prop) (op : Nat → Bool) (n : Nat) (F T : List Nat) (e : Ending) (w' : World) : Prop :=
  ∃ A m c, e = .returned (.slice A m c) ∧ ((A = none ∧ m = 0 ∧ c = 0 ∧ NoWay adj op n F T) ∨ ∃ p g, A = some ⟨g, 0, none⟩ ∧ m = p.length ∧ IsWay adj op n F T p ∧ p.length ≤ n ∧ NewZ base w' A c (zl p))
theorem NilOr.of {base : Nat} {adj : Nat → Nat → Prop} {op : Nat → Bool} {n : Nat} {F T : List Nat} {e : Ending} {w' : World} (h : OutFind base adj op n F T e w') : NilOr base adj op n F T e w' := by
  rcases h with ⟨h1, h2⟩ | ⟨p, A, c, h1, h2, h3, h4⟩
  · exact ⟨none, 0, 0, h2, .inl ⟨rfl, rfl, rfl, h1⟩⟩
  · refine ⟨A, p.length, c, h3, .inr ?_⟩
    rcases h4.2.2 with ⟨h5, _⟩ | ⟨g, h5, _⟩
    · have h6 := h1.1
      have h7 := zl_len p
      rw [h5] at h7
      simp at h7
      omega
    · exact ⟨p, g, h5, rfl, h1, h2, h4⟩
set_option maxHeartbeats 8000000 in
theorem clear1_c {g : Gr} {cn rn : Nat} {F T : List Nat} (E : EndsOk g cn rn F T) (k : Nat) (w : World) (A B D L : Option Addr) (cA cB cD cL p1 p2 p3 p4 : Nat) (Ls : List Int) (hk : k < Ls.length) (_hLs : Ls.length ≤ 2000) (hW : ClW w g A cA F T B D cB cD Ls L cL p1 p2 p3 p4) :
    Calls Tryz.prog 64 #[.int .i64 k, .pointer (some ⟨p1, 0, none⟩), .pointer (some ⟨p2, 0, none⟩), .pointer (some ⟨p3, 0, none⟩), .pointer (some ⟨p4, 0, none⟩)] w
      fun e w' => BoolOf (wayA g cn rn F T (gi Ls k)) e ∧ Ext w w' := by
  obtain ⟨bl, ol, hL, hbl, hcell⟩ := hW.rL.p1 hk
  have e6 := hcell _ (Ext.rfl' w)
  rw [← gi_lt] at e6
  subst hL
  obtain ⟨lev, hlev⟩ : ∃ lev, gi Ls k = lev := ⟨_, rfl⟩
  rw [hlev] at e6 ⊢
  have HN := Lib.hid (fun w' => notAbove_c g lev w' A cA)
  have HF := Lib.hid (fun p q w' (hw : Ext w w') (hp : BoxG w' p g A cA) (hq : w'.cell? ⟨q, 0, none⟩ = some (.int .i64 lev)) (hqz : q < w'.heap.size) => (findA_c E lev p q w' A B D cA cB cD (hW.rA.ext hw) (hW.rB.ext hw) (hW.rD.ext hw) hp hq hqz).mono fun e w'' h => (⟨NilOr.of h.1, h.2⟩ : NilOr w'.heap.size (adjN cn rn) (naP g lev) (cn * rn) F T e w'' ∧ Ext w' w''))
  obtain ⟨hz1, hp1⟩ := hW.k1
  obtain ⟨g0, g1, g2, g3, g4, g5⟩ := hp1.six
  have k2 := hW.k2
  have k3 := hW.k3
  have k4 := hW.k4
  have z2 := hW.z2
  have z3 := hW.z3
  have z4 := hW.z4
  have hk0 : (0 : Int) ≤ k := by omega
  clear hlev hcell hp1 hW E
  go_enter Tryz.func64, Tryz.ntmps64
  go_upto_region 1 with fail
  refine wp_region_held_drew (S := (fun w' => (∀ b j : Nat, b < w.heap.size → w'.cell? ⟨b, j, none⟩ = w.cell? ⟨b, j, none⟩) ∧ Ext w w')) (by kernel_rfl) ?_ (fun hHeld => ?_)
  · (try dsimp only); exact keepX (Ext.dr (Ext.rfl' w))
  refine wpAnyH_take (i := 0) (v := _) rfl (by kernel_rfl) (by kernel_rfl) (by kernel_rfl) (fun _ _ _ h => h) (Or.inl ⟨by kernel_rfl, by intro w hSw; (try dsimp only at hSw); go_simp; (try with_reducible rfl)⟩) (by assumption) ?_
  (try simp only [Act.put, List.getElem_toArray, List.getElem_cons_zero, List.setIfInBounds_toArray, List.set_cons_zero, List.set_cons_succ])
  refine wpAnyH_take (i := 1) (v := _) rfl (by kernel_rfl) (by kernel_rfl) (by kernel_rfl) (fun _ _ _ h => h) (Or.inl ⟨by kernel_rfl, by intro w hSw; (try dsimp only at hSw); go_simp; (try with_reducible rfl)⟩) (by assumption) ?_
  (try simp only [Act.put, List.getElem_toArray, List.getElem_cons_zero, List.getElem_cons_succ, List.setIfInBounds_toArray, List.set_cons_zero, List.set_cons_succ])
  refine wpAnyH_take (i := 2) (v := _) rfl (by kernel_rfl) (by kernel_rfl) (by kernel_rfl) (fun _ _ _ h => h) (Or.inl ⟨by kernel_rfl, by intro w hSw; (try dsimp only at hSw); go_simp; (try with_reducible rfl)⟩) (by assumption) ?_
  (try simp only [Act.put, List.getElem_toArray, List.getElem_cons_zero, List.getElem_cons_succ, List.setIfInBounds_toArray, List.set_cons_zero, List.set_cons_succ])
  refine wpAnyH_take (i := 3) (v := _) rfl (by kernel_rfl) (by kernel_rfl) (by kernel_rfl) (fun _ _ _ h => h) (Or.inl ⟨by kernel_rfl, by intro w hSw; (try dsimp only at hSw); go_simp; (try with_reducible rfl)⟩) (by assumption) ?_
  (try simp only [Act.put, List.getElem_toArray, List.getElem_cons_zero, List.getElem_cons_succ, List.setIfInBounds_toArray, List.set_cons_zero, List.set_cons_succ])
  refine wpAnyH_take (i := 4) (v := _) rfl (by kernel_rfl) (by kernel_rfl) (by kernel_rfl) (fun _ _ _ h => h) (Or.inl ⟨by kernel_rfl, by intro w hSw; (try dsimp only at hSw); go_simp; (try with_reducible rfl)⟩) (by assumption) ?_
  (try simp only [Act.put, List.getElem_toArray, List.getElem_cons_zero, List.getElem_cons_succ, List.setIfInBounds_toArray, List.set_cons_zero, List.set_cons_succ])
  refine wpAnyH_take (i := 5) (v := _) rfl (by kernel_rfl) (by kernel_rfl) (by kernel_rfl) (fun _ _ _ h => h) (Or.inl ⟨by kernel_rfl, by intro w hSw; (try dsimp only at hSw); go_simp; (try with_reducible rfl)⟩) (by assumption) ?_
  (try simp only [Act.put, List.getElem_toArray, List.getElem_cons_zero, List.getElem_cons_succ, List.setIfInBounds_toArray, List.set_cons_zero, List.set_cons_succ])
  refine wpAnyH_take (i := 6) (v := _) rfl (by kernel_rfl) (by kernel_rfl) (by kernel_rfl) (fun _ _ _ h => h) (Or.inl ⟨by kernel_rfl, by intro w hSw; (try dsimp only at hSw); go_simp; (try with_reducible rfl)⟩) (by assumption) ?_
  (try simp only [Act.put, List.getElem_toArray, List.getElem_cons_zero, List.getElem_cons_succ, List.setIfInBounds_toArray, List.set_cons_zero, List.set_cons_succ])
  refine wpAnyH_take (i := 7) (v := _) rfl (by kernel_rfl) (by kernel_rfl) (by kernel_rfl) (fun _ _ _ h => h) (Or.inl ⟨by kernel_rfl, by intro w hSw; (try dsimp only at hSw); go_simp; (try with_reducible rfl)⟩) (by assumption) ?_
  (try simp only [Act.put, List.getElem_toArray, List.getElem_cons_zero, List.getElem_cons_succ, List.setIfInBounds_toArray, List.set_cons_zero, List.set_cons_succ])
  refine wpAnyH_ready (rs := [8]) (by kernel_rfl) (by simp) ?_
  refine AllReadyH.cons (o := _) rfl (fun K hK => ?_) AllReadyH.nil
  go_simp
  (go_at_call 66; refine Calls.mono (HN.out _) ?_; rintro e w1 ⟨⟨pc, qc, rfl, hpb, hqb, hqz⟩, hb⟩; have hE1 := Ext.tr hHeld.2 hb)
  refine hK.out _ _ ?_ (fun hHeld => ?_)
  · (try dsimp only); exact keepX hE1
  clear hK K
  (try simp only [Act.put, List.getElem_toArray, List.getElem_cons_zero, List.getElem_cons_succ, List.setIfInBounds_toArray, List.set_cons_zero, List.set_cons_succ])
  have HR := Lib.hid (HF.out pc qc _ hE1 hpb hqb hqz)
  clear hpb hqb hqz HF HN hb
  refine wpAnyH_ready (rs := [9]) (by kernel_rfl) (by simp) ?_
  refine AllReadyH.cons (o := _) rfl (fun K hK => ?_) AllReadyH.nil
  go_simp
  (go_at_call 65; refine Calls.mono HR.out ?_; rintro e w2 ⟨⟨Aw, mw, cw, rfl, hW2⟩, hb⟩; have hE2 := Ext.tr hE1 hb)
  refine hK.out _ _ ?_ (fun hHeld => ?_)
  · (try dsimp only); exact keepX hE2
  clear hK K
  (try simp only [Act.put, List.getElem_toArray, List.getElem_cons_zero, List.getElem_cons_succ, List.setIfInBounds_toArray, List.set_cons_zero, List.set_cons_succ])
  rcases hW2 with ⟨rfl, rfl, rfl, hno⟩ | ⟨pw, gw, rfl, rfl, hway, _⟩
  · have hneq := fun (w : World) => run_neq_slice_nil_any (P := Tryz.prog) w 22 3 none 0 0 0 0 Tryz.underlying22
    have HNO := Lib.hid hno
    clear hno HR hb
    refine wpAnyH_take (i := 10) (v := _) rfl (by kernel_rfl) (by kernel_rfl) (by kernel_rfl) (fun _ _ _ h => h) (Or.inl ⟨by kernel_rfl, by intro w hSw; (try dsimp only at hSw); go_simp; (try with_reducible rfl)⟩) (by assumption) ?_
    (try simp only [Act.put, List.getElem_toArray, List.getElem_cons_zero, List.getElem_cons_succ, List.setIfInBounds_toArray, List.set_cons_zero, List.set_cons_succ])
    refine wpAnyH_take (i := 11) (v := _) rfl (by kernel_rfl) (by kernel_rfl) (by kernel_rfl) (fun _ _ _ h => h) (Or.inl ⟨by kernel_rfl, by intro w hSw; (try dsimp only at hSw); go_simp; (try with_reducible rfl)⟩) (by assumption) ?_
    (try simp only [Act.put, List.getElem_toArray, List.getElem_cons_zero, List.getElem_cons_succ, List.setIfInBounds_toArray, List.set_cons_zero, List.set_cons_succ])
    refine wpAnyH_done (by kernel_rfl) ?_ _
    go_wp2
    go_ret
    exact ⟨⟨false, rfl, by simp; exact fun ⟨p, hp⟩ => HNO.out p hp⟩, hHeld.2⟩
  · have hneq := fun (w : World) => run_neq_slice_nil_any (P := Tryz.prog) w 22 3 (some ⟨gw, 0, none⟩) pw.length cw 0 0 Tryz.underlying22
    have HWY := Lib.hid hway
    clear hway HR hb
    refine wpAnyH_take (i := 10) (v := _) rfl (by kernel_rfl) (by kernel_rfl) (by kernel_rfl) (fun _ _ _ h => h) (Or.inl ⟨by kernel_rfl, by intro w hSw; (try dsimp only at hSw); go_simp; (try with_reducible rfl)⟩) (by assumption) ?_
    (try simp only [Act.put, List.getElem_toArray, List.getElem_cons_zero, List.getElem_cons_succ, List.setIfInBounds_toArray, List.set_cons_zero, List.set_cons_succ])
    refine wpAnyH_take (i := 11) (v := _) rfl (by kernel_rfl) (by kernel_rfl) (by kernel_rfl) (fun _ _ _ h => h) (Or.inl ⟨by kernel_rfl, by intro w hSw; (try dsimp only at hSw); go_simp; (try with_reducible rfl)⟩) (by assumption) ?_
    (try simp only [Act.put, List.getElem_toArray, List.getElem_cons_zero, List.getElem_cons_succ, List.setIfInBounds_toArray, List.set_cons_zero, List.set_cons_succ])
    refine wpAnyH_done (by kernel_rfl) ?_ _
    go_wp2
    go_ret
    exact ⟨⟨true, rfl, by simp; exact ⟨pw, HWY.out⟩⟩, hHeld.2⟩
/-- The least number from which on something holds. -/
def IsLeast (P : Nat → Prop) (n m : Nat) : Prop := m ≤ n ∧ (m < n → P m) ∧ ∀ k, k < m → ¬ P k
def OutLeast (P : Nat → Prop) (n : Nat) (e : Ending) : Prop := ∃ m : Nat, e = .returned (.int .i64 (m : Int)) ∧ IsLeast P n m
set_option maxHeartbeats 4000000 in
theorem search_c (P : Nat → Prop) (n p1 p2 p3 p4 : Nat) (w : World) (hn : n ≤ 100000) (hmono : ∀ i j, i ≤ j → j < n → P i → P j)
    (hf : ∀ k, k < n → ∀ w', Ext w w' → Calls Tryz.prog 64 #[.int .i64 (k : Int), .pointer (some ⟨p1, 0, none⟩), .pointer (some ⟨p2, 0, none⟩), .pointer (some ⟨p3, 0, none⟩), .pointer (some ⟨p4, 0, none⟩)] w' fun e w'' => BoolOf (P k) e ∧ Ext w' w'') :
    Calls Tryz.prog 63 #[.int .i64 n, .func (.func 64) #[] #[.pointer (some ⟨p1, 0, none⟩), .pointer (some ⟨p2, 0, none⟩), .pointer (some ⟨p3, 0, none⟩), .pointer (some ⟨p4, 0, none⟩)]] w
      fun e w' => OutLeast P n e ∧ Ext w w' := by
  have HMO := Lib.hid hmono
  have HFN := Lib.hid hf
  clear hmono hf
  go_enter Tryz.func63, Tryz.ntmps63
  go_wp2
  go_loopw [5, 6, 7] (fun i j _ wr => Ext w wr ∧ ∃ a b : Nat, i = .int .i64 (a : Int) ∧ j = .int .i64 (b : Int) ∧ a ≤ b ∧ b ≤ n ∧ Hid ((∀ k, k < a → ¬ P k) ∧ (b < n → P b))) (fun i j _ _ => (intOf j).toNat - (intOf i).toNat)
  case atStart => exact ⟨Ext.rfl' _, 0, n, rfl, rfl, Nat.zero_le _, Nat.le_refl _, Lib.hid ⟨fun k hk => absurd hk (Nat.not_lt_zero _), fun h => absurd h (Nat.lt_irrefl _)⟩⟩
  case round =>
    obtain ⟨hE, a, b, rfl, rfl, hab, hbn, hI⟩ := hrel
    by_cases hlt : a < b
    · obtain ⟨h, hh⟩ : ∃ h : Nat, (a + b) / 2 = h := ⟨_, rfl⟩
      have hh1 : a ≤ h := by omega
      have hh2 : h < b := by omega
      have hcv : ((a : Int) + (b : Int)) / 2 = (h : Int) := by omega
      have HC := Lib.hid (HFN.out h (by omega) wr hE)
      go_upto_region 4 with fail
      clear hcv hh
      go_wp2_with (first | (go_at_call 64; (with_reducible refine Calls.mono HC.out ?_); rintro e w2 ⟨⟨bb, rfl, hbb⟩, hb⟩; have HBB := Lib.hid hbb; clear hbb; cases bb))
      · have hE2 : Ext wr w2 := by assumption
        refine ⟨⟨hE.tr hE2, h + 1, b, by go_num, rfl, by omega, hbn, Lib.hid ⟨fun k hk hP => ?_, hI.out.2⟩⟩, by simp [intOf]; omega⟩
        have hPh : P h := HMO.out k h (by omega) (by omega) hP
        have := HBB.out.2 hPh
        cases this
      · have hE2 : Ext wr w2 := by assumption
        refine ⟨⟨hE.tr hE2, a, h, rfl, rfl, hh1, by omega, Lib.hid ⟨hI.out.1, fun _ => by have h9 := HBB.out; simpa using h9⟩⟩, by simp [intOf]; omega⟩
    · have hab2 : a = b := by omega
      subst hab2
      have HL : Hid (IsLeast P n a) := Lib.hid ⟨hbn, hI.out.2, hI.out.1⟩
      clear hI
      go_wp2
      go_ret
      exact ⟨⟨a, rfl, HL.out⟩, hE⟩
end Go.Proofs.YtgnakeemcccfjaaGreat
