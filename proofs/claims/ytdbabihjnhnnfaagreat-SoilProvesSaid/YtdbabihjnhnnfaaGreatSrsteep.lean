/- The steeps in the reference's order. The contract of the reference's Steeps. -/
import Derived.Test.YtdbabihjnhnnfaaGreatSallow
import Derived.Maps.AppendAt

namespace Go.Proofs.YtdbabihjnhnnfaaGreat
open Go Go.RowKit Go.IntWalk

theorem asc_ext : ∀ {l m : List Nat}, l.Pairwise (· < ·) → m.Pairwise (· < ·) → (∀ x, x ∈ l ↔ x ∈ m) → l = m
  | [], [], _, _, _ => rfl
  | [], y :: m, _, _, h => absurd ((h y).2 (List.mem_cons_self ..)) (by simp)
  | x :: l, [], _, _, h => absurd ((h x).1 (List.mem_cons_self ..)) (by simp)
  | x :: l, y :: m, hl, hm, h => by
    rw [List.pairwise_cons] at hl hm
    have hxy : x = y := by
      rcases List.mem_cons.1 ((h x).1 (List.mem_cons_self ..)) with h1 | h1
      · exact h1
      · rcases List.mem_cons.1 ((h y).2 (List.mem_cons_self ..)) with h2 | h2
        · exact h2.symm
        · have := hl.1 y h2; have := hm.1 x h1; omega
    subst hxy
    congr 1
    refine asc_ext hl.2 hm.2 fun z => ?_
    constructor
    · intro hz
      rcases List.mem_cons.1 ((h z).1 (List.mem_cons_of_mem _ hz)) with h1 | h1
      · have := hl.1 z hz; omega
      · exact h1
    · intro hz
      rcases List.mem_cons.1 ((h z).2 (List.mem_cons_of_mem _ hz)) with h1 | h1
      · have := hm.1 z hz; omega
      · exact h1
theorem nbr_chs {cn rn i : Nat} (h0 : 0 < cn) (hi : i < cn * rn) : nbr cn rn i = chs (nbB cn i) (cn * rn) := by
  refine asc_ext (nbr_asc h0) ?_ fun x => ?_
  · unfold chs
    exact List.pairwise_lt_range.sublist List.filter_sublist
  · rw [nbr_mem h0 hi x]
    unfold chs
    rw [List.mem_filter, List.mem_range]

def stOne (L : List Int) (al : Nat → Nat → Int) (p : Nat × Nat) : List St := if 0 < ovP L al p then [⟨hiP L p, loP L p, ovP L al p⟩] else []
theorem stN_take (L : List Int) (al : Nat → Nat → Int) (ps : List (Nat × Nat)) : ∀ k, k ≤ ps.length → stN L al ps k = (ps.take k).flatMap (stOne L al)
  | 0, _ => by simp [stN]
  | k + 1, hk => by
    rw [stN, stN_take L al ps k (by omega), List.take_succ_eq_append_getElem (show k < ps.length by omega), List.flatMap_append, el_lt _ _ (show k < ps.length by omega)]
    simp only [List.flatMap_cons, List.flatMap_nil, List.append_nil]
    unfold stOne
    split
    · rfl
    · simp
theorem stN_all (L : List Int) (al : Nat → Nat → Int) (ps : List (Nat × Nat)) : stN L al ps ps.length = ps.flatMap (stOne L al) := by
  rw [stN_take L al ps _ (Nat.le_refl _), List.take_length]
/-- What the reference's round of cell a and its neighbour b adds. -/
def rstO (L : List Int) (al : Nat → Nat → Int) (a b : Nat) : List St := if b < a ∨ knB L a = false ∨ knB L b = false then [] else stOne L al (a, b)
def rstM (L : List Int) (al : Nat → Nat → Int) (a : Nat) (M : List Nat) : List St := M.flatMap (rstO L al a)
theorem rstM_nbr (L : List Int) (al : Nat → Nat → Int) {cn rn a : Nat} (h0 : 0 < cn) (ha : a < cn * rn) : rstM L al a (nbr cn rn a) = (prsAt cn (cn * rn) (knB L) a).flatMap (stOne L al) := by
  have c1 : a % cn + 1 < cn ↔ (a + 1) % cn ≠ 0 := by
    rw [Nat.add_mod]
    have h1 := Nat.mod_lt a h0
    by_cases hc : cn = 1
    · subst hc; simp [Nat.mod_one]
    · rw [Nat.mod_eq_of_lt (show 1 < cn by omega)]
      by_cases h2 : a % cn + 1 < cn
      · rw [Nat.mod_eq_of_lt h2]; omega
      · have : a % cn + 1 = cn := by omega
        rw [this, Nat.mod_self]; omega
  have c2 : a / cn + 1 < rn ↔ a + cn < cn * rn := by
    rw [← Nat.add_div_right _ h0, Nat.div_lt_iff_lt_mul h0, Nat.mul_comm]
  unfold rstM nbr prsAt
  simp only [List.flatMap_append]
  have e1 : (if 0 < a / cn then [a - cn] else []).flatMap (rstO L al a) = [] := by
    split
    · rename_i h
      have h2 : cn ≤ a := by
        rcases Nat.lt_or_ge a cn with h3 | h3
        · rw [Nat.div_eq_of_lt h3] at h; omega
        · exact h3
      simp only [List.flatMap_cons, List.flatMap_nil, List.append_nil]
      unfold rstO
      rw [if_pos (.inl (by omega))]
    · rfl
  have e2 : (if 0 < a % cn then [a - 1] else []).flatMap (rstO L al a) = [] := by
    split
    · rename_i h
      have h2 := Nat.mod_le a cn
      simp only [List.flatMap_cons, List.flatMap_nil, List.append_nil]
      unfold rstO
      rw [if_pos (.inl (by omega))]
    · rfl
  have e3 : ∀ b, a ≤ b → ∀ (p q : Prop) [Decidable p] [Decidable q], (p ↔ q) → (if p then [b] else []).flatMap (rstO L al a) = (if q ∧ knB L a = true ∧ knB L b = true then [(a, b)] else []).flatMap (stOne L al) := by
    intro b hb p q _ _ hpq
    by_cases hp : p
    · have hq := hpq.1 hp
      rw [if_pos hp]
      simp only [List.flatMap_cons, List.flatMap_nil, List.append_nil]
      unfold rstO
      by_cases hk : knB L a = true ∧ knB L b = true
      · rw [if_neg (by rw [hk.1, hk.2]; simp; omega), if_pos ⟨hq, hk.1, hk.2⟩]
        simp
      · rw [if_pos, if_neg (fun h => hk h.2)]
        · rfl
        · right
          cases h1 : knB L a
          · exact .inl rfl
          · cases h2 : knB L b
            · exact .inr rfl
            · exact absurd ⟨h1, h2⟩ hk
    · rw [if_neg hp, if_neg (fun h => hp (hpq.2 h.1))]
      rfl
  rw [e1, e2, e3 (a + 1) (by omega) _ _ c1, e3 (a + cn) (by omega) _ _ c2]
  rfl
theorem rst_all (L : List Int) (al : Nat → Nat → Int) {cn rn : Nat} (h0 : 0 < cn) : ∀ k, k ≤ cn * rn → (List.range k).flatMap (fun a => rstM L al a (chs (nbB cn a) (cn * rn))) = (prsN cn (cn * rn) (knB L) k).flatMap (stOne L al)
  | 0, _ => rfl
  | k + 1, hk => by
    rw [prsN_succ, List.flatMap_append, List.range_succ, List.flatMap_append, rst_all L al h0 k (by omega), ← rstM_nbr L al h0 (show k < cn * rn by omega), nbr_chs h0 (show k < cn * rn by omega)]
    simp
/-- The reference's way to say it. -/
theorem rstO_ref (L : List Int) (al : Nat → Nat → Int) (hc : ∀ a b, al a b = al b a) (a b : Nat) (hp : 1 ≤ al a b) (h : ¬ (b < a ∨ knB L a = false ∨ knB L b = false)) :
    rstO L al a b = if 0 < ((gi L a - gi L b).natAbs : Int) - al a b ∧ gi L b < gi L a then [⟨a, b, ((gi L a - gi L b).natAbs : Int) - al a b⟩] else if 0 < ((gi L a - gi L b).natAbs : Int) - al a b then [⟨b, a, ((gi L a - gi L b).natAbs : Int) - al a b⟩] else [] := by
  unfold rstO stOne ovP hiP loP
  rw [if_neg h]
  dsimp only
  have h2 := hc a b
  have hnn : ¬ gi L b < gi L a → ¬ (0 < ((gi L a - gi L b).natAbs : Int) - al a b ∧ gi L b < gi L a) := fun h1 q => h1 q.2
  rcases Int.lt_trichotomy (gi L a) (gi L b) with h1 | h1 | h1
  · rw [if_pos h1, if_pos h1, if_neg (hnn (by omega)), show ((gi L a - gi L b).natAbs : Int) = gi L b - gi L a by omega, ← h2]
  · rw [if_neg (show ¬ gi L a < gi L b by omega), if_neg (show ¬ gi L a < gi L b by omega), if_neg (show ¬ 0 < gi L a - gi L b - al a b by omega), if_neg (hnn (by omega)), if_neg (show ¬ 0 < ((gi L a - gi L b).natAbs : Int) - al a b by omega)]
  · rw [if_neg (show ¬ gi L a < gi L b by omega), if_neg (show ¬ gi L a < gi L b by omega), show ((gi L a - gi L b).natAbs : Int) = gi L a - gi L b by omega]
    by_cases h3 : 0 < gi L a - gi L b - al a b
    · rw [if_pos h3, if_pos ⟨h3, h1⟩]
    · rw [if_neg h3, if_neg (fun q => h3 q.1), if_neg h3]
end Go.Proofs.YtdbabihjnhnnfaaGreat

namespace Go.Proofs.YtdbabihjnhnnfaaGreat
open Go Go.RowKit Go.IntWalk

theorem row_grow {α : Type} {k : Nat} {enc : α → List Value} {W w1 : World} {row : Option Nat} {A : Option Addr} {l : List α} (h : W.grownBy w1 row) (hR : Row k enc W A l) (hne : ∀ q off, A = some ⟨q, off, none⟩ → some q ≠ row) : Row k enc w1 A l := by
  rcases hR with hR | ⟨b', off', h1, h2, h3⟩
  · exact .inl hR
  · refine .inr ⟨_, _, h1, Nat.lt_of_lt_of_le h2 h.size, fun i hi j u hu => ?_⟩
    rw [grown_cellS h h2 (hne _ _ h1)]
    exact h3 i hi j u hu
theorem abs_x (n : Int) (w : World) (h0 : -9000000000000000000 ≤ n) (h1 : n ≤ 9000000000000000000) :
    Calls Tryz.prog 59 #[.int .i64 n] w fun e w' => e = .returned (.int .i64 n.natAbs) ∧ Ext w w' :=
  (abs_c n w h0 h1).mono fun _ _ h => ⟨h.1, h.2 ▸ Ext.rfl' _⟩
theorem rstO_len (L : List Int) (al : Nat → Nat → Int) (a b : Nat) : (rstO L al a b).length ≤ 1 := by
  unfold rstO stOne
  split
  · simp
  · split <;> simp
theorem rstM_len (L : List Int) (al : Nat → Nat → Int) (a : Nat) : ∀ M : List Nat, (rstM L al a M).length ≤ M.length
  | [] => by simp [rstM]
  | b :: M => by
    have h1 := rstM_len L al a M
    have h2 := rstO_len L al a b
    unfold rstM at h1 ⊢
    rw [List.flatMap_cons, List.length_append, List.length_cons]
    omega
/-- What the reference has after the first cells. -/
def rsL (L : List Int) (al : Nat → Nat → Int) (cn n k : Nat) : List St := (List.range k).flatMap (fun a => rstM L al a (chs (nbB cn a) n))
theorem rsL_len (L : List Int) (al : Nat → Nat → Int) (cn n : Nat) (hn : n ≤ 1024) : ∀ k, (rsL L al cn n k).length ≤ 1024 * k
  | 0 => by simp [rsL]
  | k + 1 => by
    have h1 := rsL_len L al cn n hn k
    have h2 := rstM_len L al k (chs (nbB cn k) n)
    have h3 := chs_len (nbB cn k) n
    unfold rsL at h1 ⊢
    rw [List.range_succ, List.flatMap_append, List.length_append]
    simp only [List.flatMap_cons, List.flatMap_nil, List.append_nil]
    omega
theorem rsL_succ (L : List Int) (al : Nat → Nat → Int) (cn n k : Nat) : rsL L al cn n (k + 1) = rsL L al cn n k ++ rstM L al k (chs (nbB cn k) n) := by
  unfold rsL
  rw [List.range_succ, List.flatMap_append]
  simp
theorem rstM_take (L : List Int) (al : Nat → Nat → Int) (a : Nat) (M : List Nat) {m : Nat} (h : m < M.length) : rstM L al a (M.take (m + 1)) = rstM L al a (M.take m) ++ rstO L al a M[m] := by
  unfold rstM
  rw [List.take_succ_eq_append_getElem h, List.flatMap_append]
  simp

/-- Steeps that the call has made. -/
def OutStN (base : Nat) (l : List St) (e : Ending) (w' : World) : Prop := ∃ A c, e = .returned (.slice A l.length c) ∧ Row 3 encSt w' A l ∧ ∀ q off, A = some ⟨q, off, none⟩ → base ≤ q
set_option maxHeartbeats 32000000 in
set_option maxRecDepth 100000 in
theorem rsteepsN_c (soils : List So) (bos : List Bo) (g : Gr) (cn : Nat) (w : World) (AS AB A : Option Addr) (cS cB c : Nat) (gw : GrW w soils AS bos AB) (v : VGd soils bos) (vg : VG g) (hC : g.C = cn) (hA : Row 1 encZ w A g.L) :
    Calls Tryz.prog 35 #[.agg #[.slice AS soils.length cS, .slice AB bos.length cB], .agg #[.int .i64 g.X, .int .i64 g.Y, .int .i64 g.S, .int .i64 g.C, .int .i64 g.R, .slice A g.L.length c]] w fun e w' => OutStN w.heap.size (stL6 soils bos g cn) e w' ∧ Ext w w' := by
  obtain ⟨cn', rn, e1, e2, e3, e4, e5, e6, e7, e8⟩ := vg.nat
  have hcc : cn' = cn := by omega
  subst hcc
  have hn : g.L.length ≤ 1024 := by omega
  have hal : stL6 soils bos g cn' = rsL g.L (alw g.S (rL soils bos g cn')) cn' g.L.length g.L.length := by
    unfold stL6 prsG rsL
    rw [stN_all, e7, rst_all g.L _ e3 _ (Nat.le_refl _)]
  rw [hal]
  have hrv : ∀ i, i < g.L.length → 1 ≤ gi (rL soils bos g cn') i ∧ gi (rL soils bos g cn') i ≤ 1000 := by
    intro i hi
    rw [gi_mkI_rF _ _ _ _ _ hi]
    exact runB_pos v _ _
  have HAP := Lib.hid (fun a b (ha : a < g.L.length) (hb : b < g.L.length) => alw_pos vg.hs (hrv a ha) (hrv b hb))
  have HAL := Lib.hid (fun a b (ha : a < g.L.length) (hb : b < g.L.length) w' (hw : Ext w w') => rallowed_c soils bos g cn' a b w' AS AB A cS cB c (gw.ext hw) v vg hC ha hb)
  have HCO := Lib.hid (fun a b => alw_comm g.S (rL soils bos g cn') a b)
  have HNE := Lib.hid (fun a (ha : a < g.L.length) w' => rnear_c g cn' a w' A c hC e3 e4 (by omega) (by omega))
  have HKN := Lib.hid (fun k (hk : k < g.L.length) w' (hw : Ext w w') => known_c g k w' A c hk (hA.ext hw))
  have HLV := Lib.hid vg.lev
  have HRA := Lib.hid hA
  obtain ⟨i0, hi, hzi0, hzi1, hzi2⟩ := info_parts infoSt
  have HI := Lib.hid (And.intro hi (And.intro hzi0 (And.intro hzi1 hzi2)))
  generalize alw g.S (rL soils bos g cn') = al at *
  clear hi hzi0 hzi1 hzi2 e1 e2 e3 e4 e5 e6 e7 e8 vg v gw hrv hC hA hal
  go_enter Tryz.func35, Tryz.ntmps35
  go_upto_region 3 with fail
  refine wp_name (fun W hW => ?_)
  have hEW : Ext w W := by rw [hW]; (repeat (first | with_reducible exact Ext.rfl' _ | with_reducible assumption | with_reducible refine Ext.al ?_ _ | with_reducible refine Ext.dr ?_ | with_reducible refine Ext.st ?_ (by simp) _ | with_reducible refine Ext.tr ?_ (by assumption)))
  have r0 : W.cell? ⟨w.heap.size, 0, none⟩ = some (.slice AS soils.length cS) := by rw [hW]; simp [go_sem]
  have r1 : W.cell? ⟨w.heap.size, 1, none⟩ = some (.slice AB bos.length cB) := by rw [hW]; simp [go_sem]
  have km : CellsAt W (w.heap.size + 1) 0 [.int .i64 g.X, .int .i64 g.Y, .int .i64 g.S, .int .i64 g.C, .int .i64 g.R, .slice A g.L.length c] := by rw [hW]; refine cells_six ⟨?_, ?_, ?_, ?_, ?_, ?_⟩ <;> simp [go_sem]
  have hz1 : w.heap.size + 1 < W.heap.size := by rw [hW]; simp
  have hz0 : w.heap.size < W.heap.size := by omega
  clear hW
  go_loopw [5, 6] (fun o i wr => Ext W wr ∧ ∃ k : Nat, k ≤ g.L.length ∧ i = .int .i64 k ∧ Hid (wr.ownsRow W.heap.size 90 3 o (rsL g.L al cn' g.L.length k).length ((rsL g.L al cn' g.L.length k).flatMap encSt))) (fun _ i _ => g.L.length - (intOf i).toNat)
  case atStart => exact ⟨Ext.rfl' _, 0, Nat.zero_le _, rfl, Lib.hid (World.ownsRow_nil _ _ _ _)⟩
  case round =>
    obtain ⟨hE, k, hk, rfl, hO⟩ := hrel
    have hEr := hEW.tr hE
    have q0 := (hE.ccell _ 0 hz0).trans r0
    have q1 := (hE.ccell _ 1 hz0).trans r1
    have kq := km.ext hE hz1
    obtain ⟨m0, m1, m2, m3, m4, m5⟩ := kq.six
    have z0 := hE.sz _ hz0
    have z1 := hE.sz _ hz1
    by_cases hlt : k < g.L.length
    · have HNK := Lib.hid (fun w' => HNE.out k hlt w')
      have hPl := rsL_len g.L al cn' g.L.length hn k
      have HS := Lib.hid (rsL_succ g.L al cn' g.L.length k)
      have hMl := chs_len (nbB cn' k) g.L.length
      have HMB : Hid (∀ b ∈ chs (nbB cn' k) g.L.length, b < g.L.length) := Lib.hid (fun b hb => (chs_mem.1 hb).1)
      generalize rsL g.L al cn' g.L.length k = PN at *
      generalize chs (nbB cn' k) g.L.length = M at *
      obtain ⟨wk, hwk⟩ : ∃ x, x = wr := ⟨_, rfl⟩
      subst hwk
      go_upto_region 7 with (first | (go_at_call 33; (with_reducible refine Calls.mono (HNK.out _) ?_); rintro e w2 ⟨⟨A2, c2, rfl, hN2⟩, hb⟩; have hc := hb.ccell; have hf := hb.frz; have hs := hb.sz; (try simp at hs); (try have t0 := hs (w.heap.size) (by first | assumption | omega)); (try have t1 := hs (w.heap.size + 1) (by first | assumption | omega)); (try have t2 := hs (w.heap.size) (by first | assumption | omega)); (try have t3 := hs (w.heap.size) (by first | assumption | omega)); (try have t4 := hs (w.heap.size) (by first | assumption | omega)); (try have t5 := hs (w.heap.size) (by first | assumption | omega))))
      refine wp_name (fun W1 hW1 => ?_)
      have hE1 : Ext wk W1 := by rw [hW1]; (repeat (first | with_reducible exact Ext.rfl' _ | with_reducible assumption | with_reducible refine Ext.al ?_ _ | with_reducible refine Ext.dr ?_ | with_reducible refine Ext.st ?_ (by simp) _ | with_reducible refine Ext.tr ?_ (by assumption)))
      have hR1 : Row 1 encZ W1 A2 (zl M) := by rw [hW1]; exact hN2.row
      have hs1 : W1 = w2 := hW1
      have HNB : Hid (∀ q off, A2 = some ⟨q, off, none⟩ → wk.heap.size ≤ q ∧ q < W1.heap.size) := Lib.hid (by
        intro q off hq
        rw [hs1]
        rcases hN2.2.2 with ⟨_, h, _⟩ | ⟨g9, h, h3, h4⟩
        · rw [h] at hq; cases hq
        · rw [h] at hq
          injection hq with hq
          injection hq with hq _
          subst hq
          exact ⟨h3, h4.lt⟩)
      have HOB := Lib.hid (fun x hx => Or.inl (b := W1.heap.size ≤ x) (World.ownsRow.lt hO.out x hx).2)
      have hO1 := Lib.hid (ownsRow_ext hO.out hE1)
      have y0 := (hE1.ccell _ 0 z0).trans q0
      have y1 := (hE1.ccell _ 1 z0).trans q1
      have ky := kq.ext hE1 z1
      have x0 := hE1.sz _ z0
      have x1 := hE1.sz _ z1
      have hEx := hE.tr hE1
      have hWW := hEx.size
      clear hW1 hs1 hN2 hb hc hf hs t0 t1 t2 t3 t4 t5 m0 m1 m2 m3 m4 m5 q0 q1
      go_loopw [5, 8] (fun o i wr => Ext W wr ∧ W1.heap.size ≤ wr.heap.size ∧ Hid (Row 1 encZ wr A2 (zl M)) ∧ Hid (∀ x, o.ownBlock = some x → x < wk.heap.size ∨ W1.heap.size ≤ x) ∧ ∃ m : Nat, m ≤ M.length ∧ i = .int .i64 m ∧ Hid (wr.ownsRow W.heap.size 90 3 o (PN ++ rstM g.L al k (M.take m)).length ((PN ++ rstM g.L al k (M.take m)).flatMap encSt))) (fun _ i _ => M.length - (intOf i).toNat)
      case atStart => exact ⟨hEx, Nat.le_refl _, Lib.hid hR1, HOB, 0, Nat.zero_le _, rfl, by rw [show PN ++ rstM g.L al k (M.take 0) = PN by simp [rstM]]; exact hO1⟩
      case round =>
        clear hO hO1 hR1 HOB
        obtain ⟨hy, hws, hR, hB, m, hm, rfl, hO⟩ := hrel
        have hEy := hEW.tr hy
        obtain ⟨hi, hzi0, hzi1, hzi2⟩ := HI.out
        have g0 := (hy.ccell _ 0 hz0).trans r0
        have g1 := (hy.ccell _ 1 hz0).trans r1
        have kg := km.ext hy hz1
        obtain ⟨m0, m1, m2, m3, m4, m5⟩ := kg.six
        have b0' := hy.sz _ hz0
        have b1' := hy.sz _ hz1
        by_cases hml : m < M.length
        · obtain ⟨bn, on, rfl, hbn, hcn⟩ := hR.out.p1 (k := m) (by rw [zl_len]; exact hml)
          have cb := hcn _ (Ext.rfl' _)
          have zbn := hbn
          rw [show (zl M)[m]'(by rw [zl_len]; exact hml) = (M[m] : Int) by simp [zl]] at cb
          have hbl := HMB.out _ (List.getElem_mem hml)
          have HP := Lib.hid (show PN ++ rstM g.L al k (M.take (m + 1)) = (PN ++ rstM g.L al k (M.take m)) ++ rstO g.L al k M[m] by rw [rstM_take _ _ _ _ hml, List.append_assoc])
          have hQl : (PN ++ rstM g.L al k (M.take m)).length ≤ 1024 * k + 1024 := by
            rw [List.length_append]
            have h1 := rstM_len g.L al k (M.take m)
            rw [List.length_take] at h1
            omega
          have HPO : Hid (∀ (h : ¬ (M[m] < k ∨ knB g.L k = false ∨ knB g.L M[m] = false)), rstO g.L al k M[m] = if 0 < ((gi g.L k - gi g.L M[m]).natAbs : Int) - al k M[m] ∧ gi g.L M[m] < gi g.L k then [⟨k, M[m], ((gi g.L k - gi g.L M[m]).natAbs : Int) - al k M[m]⟩] else if 0 < ((gi g.L k - gi g.L M[m]).natAbs : Int) - al k M[m] then [⟨M[m], k, ((gi g.L k - gi g.L M[m]).natAbs : Int) - al k M[m]⟩] else []) := Lib.hid (fun h => rstO_ref g.L al HCO.out k M[m] (HAP.out k M[m] hlt hbl).1 h)
          have HPZ : Hid ((M[m] < k ∨ knB g.L k = false ∨ knB g.L M[m] = false) → rstO g.L al k M[m] = []) := Lib.hid (fun h => by unfold rstO; rw [if_pos h])
          generalize M[m] = b at *
          generalize PN ++ rstM g.L al k (M.take m) = QN at *
          obtain ⟨QS, hQS⟩ : ∃ QS, PN ++ rstM g.L al k (M.take (m + 1)) = QS := ⟨_, rfl⟩
          rw [hQS] at HP
          have HQS := Lib.hid hQS
          clear hQS
          have HKA := Lib.hid (fun w' (hw : Ext wr w') => HKN.out k hlt w' (hEy.tr hw))
          have HKB := Lib.hid (fun w' (hw : Ext wr w') => HKN.out b hbl w' (hEy.tr hw))
          have HAK := Lib.hid (fun w' (hw : Ext wr w') => HAL.out k b hlt hbl w' (hEy.tr hw))
          clear hcn
          by_cases hbk : b < k
          · rw [HPZ.out (.inl hbk), List.append_nil] at HP
            clear HPO HPZ HKA HKB HAK
            have hbk' : (b : Int) < (k : Int) := by omega
            go_wp2
            first
              | exact ⟨⟨hy, hws, hR, hB, m + 1, by omega, by go_num, by rw [HQS.out, HP.out]; exact hO⟩, by simp [intOf]; omega⟩
              | (have hX : Ext wr wa := by (repeat (first | with_reducible exact Ext.rfl' _ | with_reducible assumption | with_reducible refine Ext.al ?_ _ | with_reducible refine Ext.dr ?_ | with_reducible refine Ext.st ?_ (by simp) _ | with_reducible refine Ext.tr ?_ (by assumption)))
                 exact ⟨⟨hy.tr hX, Nat.le_trans hws hX.size, Lib.hid (hR.out.ext hX), hB, m + 1, by omega, by go_num, by rw [HQS.out, HP.out]; exact Lib.hid (ownsRow_ext hO.out hX)⟩, by simp [intOf]; omega⟩)
              | (have hX : Ext wr wb := by (repeat (first | with_reducible exact Ext.rfl' _ | with_reducible assumption | with_reducible refine Ext.al ?_ _ | with_reducible refine Ext.dr ?_ | with_reducible refine Ext.st ?_ (by simp) _ | with_reducible refine Ext.tr ?_ (by assumption)))
                 exact ⟨⟨hy.tr hX, Nat.le_trans hws hX.size, Lib.hid (hR.out.ext hX), hB, m + 1, by omega, by go_num, by rw [HQS.out, HP.out]; exact Lib.hid (ownsRow_ext hO.out hX)⟩, by simp [intOf]; omega⟩)
          have hbk' : ¬ (b : Int) < (k : Int) := by omega
          cases hka : knB g.L k
          · rw [HPZ.out (.inr (.inl hka)), List.append_nil] at HP
            rw [hka] at HKA
            clear HPO HPZ HKB HAK hka
            go_wp2_with (first | (go_at_call 32; with_reducible refine Calls.mono (HKA.out _ (by (repeat (first | with_reducible exact Ext.rfl' _ | with_reducible assumption | with_reducible refine Ext.al ?_ _ | with_reducible refine Ext.dr ?_ | with_reducible refine Ext.st ?_ (by simp) _ | with_reducible refine Ext.tr ?_ (by assumption))))) ?_; rintro e wa ⟨rfl, hb⟩; have hc := hb.ccell; have hf := hb.frz; have hs := hb.sz; (try simp at hs); (try have t0 := hs (w.heap.size) (by first | assumption | omega)); (try have t1 := hs (w.heap.size + 1) (by first | assumption | omega)); (try have t2 := hs (w.heap.size) (by first | assumption | omega)); (try have t3 := hs (w.heap.size) (by first | assumption | omega)); (try have t4 := hs (w.heap.size) (by first | assumption | omega)); (try have t5 := hs (w.heap.size) (by first | assumption | omega))))
            first
              | exact ⟨⟨hy, hws, hR, hB, m + 1, by omega, by go_num, by rw [HQS.out, HP.out]; exact hO⟩, by simp [intOf]; omega⟩
              | (have hX : Ext wr wa := by (repeat (first | with_reducible exact Ext.rfl' _ | with_reducible assumption | with_reducible refine Ext.al ?_ _ | with_reducible refine Ext.dr ?_ | with_reducible refine Ext.st ?_ (by simp) _ | with_reducible refine Ext.tr ?_ (by assumption)))
                 exact ⟨⟨hy.tr hX, Nat.le_trans hws hX.size, Lib.hid (hR.out.ext hX), hB, m + 1, by omega, by go_num, by rw [HQS.out, HP.out]; exact Lib.hid (ownsRow_ext hO.out hX)⟩, by simp [intOf]; omega⟩)
              | (have hX : Ext wr wb := by (repeat (first | with_reducible exact Ext.rfl' _ | with_reducible assumption | with_reducible refine Ext.al ?_ _ | with_reducible refine Ext.dr ?_ | with_reducible refine Ext.st ?_ (by simp) _ | with_reducible refine Ext.tr ?_ (by assumption)))
                 exact ⟨⟨hy.tr hX, Nat.le_trans hws hX.size, Lib.hid (hR.out.ext hX), hB, m + 1, by omega, by go_num, by rw [HQS.out, HP.out]; exact Lib.hid (ownsRow_ext hO.out hX)⟩, by simp [intOf]; omega⟩)
          cases hkb : knB g.L b
          · rw [HPZ.out (.inr (.inr hkb)), List.append_nil] at HP
            rw [hka] at HKA
            rw [hkb] at HKB
            clear HPO HPZ HAK hka hkb
            go_wp2_with (first | (go_at_call 32; with_reducible refine Calls.mono (HKA.out _ (by (repeat (first | with_reducible exact Ext.rfl' _ | with_reducible assumption | with_reducible refine Ext.al ?_ _ | with_reducible refine Ext.dr ?_ | with_reducible refine Ext.st ?_ (by simp) _ | with_reducible refine Ext.tr ?_ (by assumption))))) ?_; rintro e wa ⟨rfl, hb⟩; have hc := hb.ccell; have hf := hb.frz; have hs := hb.sz; (try simp at hs); (try have t0 := hs (w.heap.size) (by first | assumption | omega)); (try have t1 := hs (w.heap.size + 1) (by first | assumption | omega)); (try have t2 := hs (w.heap.size) (by first | assumption | omega)); (try have t3 := hs (w.heap.size) (by first | assumption | omega)); (try have t4 := hs (w.heap.size) (by first | assumption | omega)); (try have t5 := hs (w.heap.size) (by first | assumption | omega))) | (go_at_call 32; with_reducible refine Calls.mono (HKB.out _ (by (repeat (first | with_reducible exact Ext.rfl' _ | with_reducible assumption | with_reducible refine Ext.al ?_ _ | with_reducible refine Ext.dr ?_ | with_reducible refine Ext.st ?_ (by simp) _ | with_reducible refine Ext.tr ?_ (by assumption))))) ?_; rintro e wb ⟨rfl, hb⟩; have hc := hb.ccell; have hf := hb.frz; have hs := hb.sz; (try simp at hs); (try have t0 := hs (w.heap.size) (by first | assumption | omega)); (try have t1 := hs (w.heap.size + 1) (by first | assumption | omega)); (try have t2 := hs (w.heap.size) (by first | assumption | omega)); (try have t3 := hs (w.heap.size) (by first | assumption | omega)); (try have t4 := hs (w.heap.size) (by first | assumption | omega)); (try have t5 := hs (w.heap.size) (by first | assumption | omega))))
            first
              | exact ⟨⟨hy, hws, hR, hB, m + 1, by omega, by go_num, by rw [HQS.out, HP.out]; exact hO⟩, by simp [intOf]; omega⟩
              | (have hX : Ext wr wa := by (repeat (first | with_reducible exact Ext.rfl' _ | with_reducible assumption | with_reducible refine Ext.al ?_ _ | with_reducible refine Ext.dr ?_ | with_reducible refine Ext.st ?_ (by simp) _ | with_reducible refine Ext.tr ?_ (by assumption)))
                 exact ⟨⟨hy.tr hX, Nat.le_trans hws hX.size, Lib.hid (hR.out.ext hX), hB, m + 1, by omega, by go_num, by rw [HQS.out, HP.out]; exact Lib.hid (ownsRow_ext hO.out hX)⟩, by simp [intOf]; omega⟩)
              | (have hX : Ext wr wb := by (repeat (first | with_reducible exact Ext.rfl' _ | with_reducible assumption | with_reducible refine Ext.al ?_ _ | with_reducible refine Ext.dr ?_ | with_reducible refine Ext.st ?_ (by simp) _ | with_reducible refine Ext.tr ?_ (by assumption)))
                 exact ⟨⟨hy.tr hX, Nat.le_trans hws hX.size, Lib.hid (hR.out.ext hX), hB, m + 1, by omega, by go_num, by rw [HQS.out, HP.out]; exact Lib.hid (ownsRow_ext hO.out hX)⟩, by simp [intOf]; omega⟩)
          rw [HPO.out (by rw [hka, hkb]; simp; omega)] at HP
          rw [hka] at HKA
          rw [hkb] at HKB
          clear HPO HPZ hka hkb
          obtain ⟨q, off, rfl, hq, hca⟩ := HRA.out.p1 hlt
          obtain ⟨q', off', hqe, _, hcb⟩ := HRA.out.p1 hbl
          injection hqe with hqe
          injection hqe with h1 h2
          subst h1 h2
          have xa := hca _ hEy
          have xb := hcb _ hEy
          have zq := hEy.sz _ hq
          rw [← gi_lt] at xa xb
          have l1 := HLV.out k hlt
          have l2 := HLV.out b hbl
          have A1 := HAP.out k b hlt hbl
          have hki : (k : Int) < (g.L.length : Int) := by omega
          have hbi : (b : Int) < (g.L.length : Int) := by omega
          clear hca hcb
          generalize al k b = u at *
          generalize gi g.L k = la at *
          generalize gi g.L b = lb at *
          obtain ⟨D, hD⟩ : ∃ D, la - lb = D := ⟨_, rfl⟩
          have hw1 : IntKind.i64.wrap (la - lb) = D := by rw [hD]; exact IntWalk.i64_in _ (by omega)
          have HAB := Lib.hid (fun w' => abs_x D w' (by omega) (by omega))
          rw [hD] at HP
          obtain ⟨N, hN⟩ : ∃ N : Int, (D.natAbs : Int) = N := ⟨_, rfl⟩
          rw [hN] at HP HAB
          obtain ⟨O, hOv⟩ : ∃ O, N - u = O := ⟨_, rfl⟩
          have hw2 : IntKind.i64.wrap (N - u) = O := by rw [hOv]; exact IntWalk.i64_in _ (by omega)
          rw [hOv] at HP
          clear hD hN hOv l1 l2 A1
          go_upto_region 11 with (first | (go_at_call 32; with_reducible refine Calls.mono (HKA.out _ (by (repeat (first | with_reducible exact Ext.rfl' _ | with_reducible assumption | with_reducible refine Ext.al ?_ _ | with_reducible refine Ext.dr ?_ | with_reducible refine Ext.st ?_ (by simp) _ | with_reducible refine Ext.tr ?_ (by assumption))))) ?_; rintro e wa ⟨rfl, hb⟩; have hc := hb.ccell; have hf := hb.frz; have hs := hb.sz; (try simp at hs); (try have t0 := hs (w.heap.size) (by first | assumption | omega)); (try have t1 := hs (w.heap.size + 1) (by first | assumption | omega)); (try have t2 := hs (w.heap.size) (by first | assumption | omega)); (try have t3 := hs (w.heap.size) (by first | assumption | omega)); (try have t4 := hs (w.heap.size) (by first | assumption | omega)); (try have t5 := hs (w.heap.size) (by first | assumption | omega))) | (go_at_call 32; with_reducible refine Calls.mono (HKB.out _ (by (repeat (first | with_reducible exact Ext.rfl' _ | with_reducible assumption | with_reducible refine Ext.al ?_ _ | with_reducible refine Ext.dr ?_ | with_reducible refine Ext.st ?_ (by simp) _ | with_reducible refine Ext.tr ?_ (by assumption))))) ?_; rintro e wb ⟨rfl, hb⟩; have hc := hb.ccell; have hf := hb.frz; have hs := hb.sz; (try simp at hs); (try have t0 := hs (w.heap.size) (by first | assumption | omega)); (try have t1 := hs (w.heap.size + 1) (by first | assumption | omega)); (try have t2 := hs (w.heap.size) (by first | assumption | omega)); (try have t3 := hs (w.heap.size) (by first | assumption | omega)); (try have t4 := hs (w.heap.size) (by first | assumption | omega)); (try have t5 := hs (w.heap.size) (by first | assumption | omega))))
          refine wp_name (fun W2 hW2 => ?_)
          have hE2 : Ext wr W2 := by rw [hW2]; (repeat (first | with_reducible exact Ext.rfl' _ | with_reducible assumption | with_reducible refine Ext.al ?_ _ | with_reducible refine Ext.dr ?_ | with_reducible refine Ext.st ?_ (by simp) _ | with_reducible refine Ext.tr ?_ (by assumption)))
          have kw := kg.ext hE2 b1'
          have f0 := (hE2.ccell _ 0 b0').trans g0
          have f1 := (hE2.ccell _ 1 b0').trans g1
          have ya := (hE2.ccell _ _ zq).trans xa
          have yb := (hE2.ccell _ _ zq).trans xb
          have d0 := hE2.sz _ b0'
          have d1 := hE2.sz _ b1'
          have dq := hE2.sz _ zq
          clear hW2 m0 m1 m2 m3 m4 m5 xa xb g0 g1 cb hb hc hf hs t0 t1 t2 t3 t4 t5
          obtain ⟨m0, m1, m2, m3, m4, m5⟩ := kw.six
          refine region_grow (by kernel_rfl) (by kernel_rfl) ?_
          repeat (first | go_big_quiet_step (first | (go_at_call 59; with_reducible exact callsGrow (HAB.out _)) | (go_at_call 34; with_reducible exact callsGrow (HAK.out _ (hE2.tr (Grow.ok _)))) | fail) | quiet_step (first | (go_at_call 59; with_reducible exact callsGrow (HAB.out _)) | (go_at_call 34; with_reducible exact callsGrow (HAK.out _ (hE2.tr (Grow.ok _)))) | fail))
          refine wpQuiet_nil ?_
          intro w1 hb
          have hc := hb.ccell
          have hf := hb.frz
          have hs := hb.sz
          (try simp at hs); (try have hs0 := hs w.heap.size (by omega)); (try have hs1 := hs (w.heap.size + 1) (by omega)); (try have hs2 := hs (w.heap.size + 1 + 1) (by omega)); (try have hs3 := hs (w.heap.size + 1 + 1 + 1) (by omega))
          (try simp only [IntWalk.i64_left])
          have hE3 : Ext W2 w1 := by assumption
          have n5 := (hE3.ccell _ 5 d1).trans m5
          have za := (hE3.ccell _ _ dq).trans ya
          have zb := (hE3.ccell _ _ dq).trans yb
          have s1 := hE3.sz _ d1
          have sq := hE3.sz _ dq
          clear m0 m1 m2 m3 m4 m5 ya yb f0 f1 hb hc hf hs hs0 hs1
          obtain ⟨w5, hw5⟩ : ∃ x, x = w1 := ⟨_, rfl⟩
          subst hw5
          by_cases ho : 0 < O
          · by_cases hab : lb < la
            · rw [if_pos ⟨ho, hab⟩] at HP
              go_upto_region 12 with fail
              refine region_grow (by kernel_rfl) (by kernel_rfl) ?_
              repeat (first | go_big_quiet_step (first  | fail) | quiet_step (first  | fail))
              refine wpQuiet_nil ?_
              intro w1 hb
              have hc := hb.ccell
              have hf := hb.frz
              have hs := hb.sz
              (try simp at hs); (try have hs0 := hs w.heap.size (by omega)); (try have hs1 := hs (w.heap.size + 1) (by omega)); (try have hs2 := hs (w.heap.size + 1 + 1) (by omega)); (try have hs3 := hs (w.heap.size + 1 + 1 + 1) (by omega))
              (try simp only [IntWalk.i64_left])
              have hE6 : Ext w5 w1 := by assumption
              have hE4 := (hE2.tr hE3).tr hE6
              have hO4 := Lib.hid (ownsRow_ext hO.out hE4)
              have hx4 := hy.tr hE4
              have hz4 := hx4.size
              clear hb hc hf hs
              go_wp2_with (first | (at_builtin; refine wpList_append_own_at _ rfl _ _ 60 rfl W.heap.size 90 i0 _ 3 24 Tryz.underlying60 hi hzi0 hzi1 hzi2 rfl (by decide) _ _ _ rfl (World.ownsRow.alloc hO4.out _) ⟨_, 0, none⟩ 1 1 [.int .i64 (k : Int), .int .i64 (b : Int), .int .i64 O] rfl rfl ?ra1 ?ra2 ?ra3 ?ra4 ?ra5 ?_))
              try case ra1 =>
                intro j u hu
                match j with
                | 0 => simpa [Addr.add, go_sem] using hu
                | 1 => simpa [Addr.add, go_sem] using hu
                | 2 => simpa [Addr.add, go_sem] using hu
                | j + 3 => simp at hu
              try case ra2 => first | exact ⟨rfl, rfl, rfl⟩ | (intro u hu; simp at hu; rcases hu with rfl | rfl | rfl <;> rfl)
              try case ra3 => unfold maxLen; omega
              try case ra4 => omega
              try case ra5 => first | omega | (simp; omega)
              intro v' w4 hown hgrow _ hblk
              have hRX := hR.out.ext (Ext.al hE4 (.cells #[.int .i64 (k : Int), .int .i64 (b : Int), .int .i64 O] 90))
              have hE5 : Ext W w4 := grown_ext (Ext.al hx4 _) (World.ownsRow.alloc hO4.out _) (Nat.le_refl _) hgrow
              have hsz := hgrow.size
              have hzX := hE4.size
              have hR5 := Lib.hid (row_grow hgrow hRX (fun q off hq e => by have h1 := HNB.out q off hq; have h2 := hB.out q e.symm; omega))
              have hB5 : Hid (∀ x, v'.ownBlock = some x → x < wk.heap.size ∨ W1.heap.size ≤ x) := Lib.hid (by
                intro x hx
                rcases hblk with h | h
                · rw [h] at hx; exact hB.out x hx
                · rw [h] at hx
                  injection hx with hx
                  (try simp at hx)
                  omega)
              have hsz5 : W1.heap.size ≤ w4.heap.size := by simp at hsz; omega
              have hown2 := Lib.hid (st_put HP.out rfl rfl rfl rfl hown)
              clear hown hgrow hblk hRX hi hzi0 hzi1 hzi2
              go_wp2
              exact ⟨⟨hE5, hsz5, hR5, hB5, m + 1, by omega, by go_num, by rw [HQS.out]; exact hown2⟩, by simp [intOf]; omega⟩
            · rw [if_neg (fun q => hab q.2), if_pos ho] at HP
              go_upto_region 12 with fail
              refine region_grow (by kernel_rfl) (by kernel_rfl) ?_
              repeat (first | go_big_quiet_step (first  | fail) | quiet_step (first  | fail))
              refine wpQuiet_nil ?_
              intro w1 hb
              have hc := hb.ccell
              have hf := hb.frz
              have hs := hb.sz
              (try simp at hs); (try have hs0 := hs w.heap.size (by omega)); (try have hs1 := hs (w.heap.size + 1) (by omega)); (try have hs2 := hs (w.heap.size + 1 + 1) (by omega)); (try have hs3 := hs (w.heap.size + 1 + 1 + 1) (by omega))
              (try simp only [IntWalk.i64_left])
              have hE6 : Ext w5 w1 := by assumption
              have hE4 := (hE2.tr hE3).tr hE6
              have hO4 := Lib.hid (ownsRow_ext hO.out hE4)
              have hx4 := hy.tr hE4
              have hz4 := hx4.size
              clear hb hc hf hs
              go_wp2_with (first | (at_builtin; refine wpList_append_own_at _ rfl _ _ 60 rfl W.heap.size 90 i0 _ 3 24 Tryz.underlying60 hi hzi0 hzi1 hzi2 rfl (by decide) _ _ _ rfl (World.ownsRow.alloc hO4.out _) ⟨_, 0, none⟩ 1 1 [.int .i64 (b : Int), .int .i64 (k : Int), .int .i64 O] rfl rfl ?rb1 ?rb2 ?rb3 ?rb4 ?rb5 ?_))
              try case rb1 =>
                intro j u hu
                match j with
                | 0 => simpa [Addr.add, go_sem] using hu
                | 1 => simpa [Addr.add, go_sem] using hu
                | 2 => simpa [Addr.add, go_sem] using hu
                | j + 3 => simp at hu
              try case rb2 => first | exact ⟨rfl, rfl, rfl⟩ | (intro u hu; simp at hu; rcases hu with rfl | rfl | rfl <;> rfl)
              try case rb3 => unfold maxLen; omega
              try case rb4 => omega
              try case rb5 => first | omega | (simp; omega)
              intro v' w4 hown hgrow _ hblk
              have hRX := hR.out.ext (Ext.al hE4 (.cells #[.int .i64 (b : Int), .int .i64 (k : Int), .int .i64 O] 90))
              have hE5 : Ext W w4 := grown_ext (Ext.al hx4 _) (World.ownsRow.alloc hO4.out _) (Nat.le_refl _) hgrow
              have hsz := hgrow.size
              have hzX := hE4.size
              have hR5 := Lib.hid (row_grow hgrow hRX (fun q off hq e => by have h1 := HNB.out q off hq; have h2 := hB.out q e.symm; omega))
              have hB5 : Hid (∀ x, v'.ownBlock = some x → x < wk.heap.size ∨ W1.heap.size ≤ x) := Lib.hid (by
                intro x hx
                rcases hblk with h | h
                · rw [h] at hx; exact hB.out x hx
                · rw [h] at hx
                  injection hx with hx
                  (try simp at hx)
                  omega)
              have hsz5 : W1.heap.size ≤ w4.heap.size := by simp at hsz; omega
              have hown2 := Lib.hid (st_put HP.out rfl rfl rfl rfl hown)
              clear hown hgrow hblk hRX hi hzi0 hzi1 hzi2
              go_wp2
              exact ⟨⟨hE5, hsz5, hR5, hB5, m + 1, by omega, by go_num, by rw [HQS.out]; exact hown2⟩, by simp [intOf]; omega⟩
          · rw [if_neg (fun q => ho q.1), if_neg ho, List.append_nil] at HP
            go_upto_region 12 with fail
            refine region_grow (by kernel_rfl) (by kernel_rfl) ?_
            repeat (first | go_big_quiet_step (first  | fail) | quiet_step (first  | fail))
            refine wpQuiet_nil ?_
            intro w1 hb
            have hc := hb.ccell
            have hf := hb.frz
            have hs := hb.sz
            (try simp at hs); (try have hs0 := hs w.heap.size (by omega)); (try have hs1 := hs (w.heap.size + 1) (by omega)); (try have hs2 := hs (w.heap.size + 1 + 1) (by omega)); (try have hs3 := hs (w.heap.size + 1 + 1 + 1) (by omega))
            (try simp only [IntWalk.i64_left])
            have hE6 : Ext w5 w1 := by assumption
            have hE4 := (hE2.tr hE3).tr hE6
            clear hb hc hf hs
            go_wp2
            exact ⟨⟨hy.tr hE4, Nat.le_trans hws hE4.size, Lib.hid (hR.out.ext hE4), hB, m + 1, by omega, by go_num, by rw [HQS.out, HP.out]; exact Lib.hid (ownsRow_ext hO.out hE4)⟩, by simp [intOf]; omega⟩
        · have hms : m = M.length := by omega
          subst hms
          rw [List.take_length, ← HS.out] at hO
          go_wp2
          exact ⟨⟨hy, k + 1, by omega, by go_num, hO⟩, by simp [intOf]; omega⟩
    · have hks : k = g.L.length := by omega
      subst hks
      obtain ⟨A', c', hv, _, _, hcase⟩ := ownK_cases encSt_len rfl rfl hO.out
      subst hv
      have hrw := Lib.hid (ownK_row encSt_len hcase)
      have hfr : Hid (∀ q off, A' = some ⟨q, off, none⟩ → w.heap.size ≤ q) := Lib.hid (by
        intro q off hq
        have h1 := hEW.size
        rcases hcase with ⟨_, h2, _⟩ | ⟨g9, h2, h3, _⟩
        · rw [h2] at hq; cases hq
        · rw [h2] at hq
          injection hq with hq
          injection hq with hq _
          omega)
      clear hO hcase
      go_wp2
      go_ret
      exact ⟨⟨A', c', rfl, hrw.out, hfr.out⟩, hEr⟩
theorem rsteeps_c (soils : List So) (bos : List Bo) (g : Gr) (cn : Nat) (w : World) (AS AB A : Option Addr) (cS cB c : Nat) (gw : GrW w soils AS bos AB) (v : VGd soils bos) (vg : VG g) (hC : g.C = cn) (hA : Row 1 encZ w A g.L) :
    Calls Tryz.prog 35 #[.agg #[.slice AS soils.length cS, .slice AB bos.length cB], .agg #[.int .i64 g.X, .int .i64 g.Y, .int .i64 g.S, .int .i64 g.C, .int .i64 g.R, .slice A g.L.length c]] w fun e w' => OutSt (stL6 soils bos g cn) e w' ∧ Ext w w' := by
  refine (rsteepsN_c soils bos g cn w AS AB A cS cB c gw v vg hC hA).mono ?_
  rintro e w' ⟨⟨A', c', he, hR, _⟩, hE⟩
  exact ⟨⟨A', c', he, hR⟩, hE⟩
end Go.Proofs.YtdbabihjnhnnfaaGreat
