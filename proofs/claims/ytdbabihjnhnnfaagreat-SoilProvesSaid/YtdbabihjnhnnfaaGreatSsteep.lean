/- The contracts of the reference's Neighbours, Near. The contract of steeps. -/
import Derived.Test.YtdbabihjnhnnfaaGreatSrsoft
import Derived.Test.YtdbabihjnhnnfaaGreatSpairs

namespace Go.Proofs.YtdbabihjnhnnfaaGreat
open Go Go.RowKit Go.IntWalk

def chs (P : Nat → Bool) (n : Nat) : List Nat := (List.range n).filter P
theorem chs_succ (P : Nat → Bool) (k : Nat) : chs P (k + 1) = chs P k ++ (if P k then [k] else []) := by
  unfold chs
  rw [List.range_succ, List.filter_append]
  congr 1
  cases h : P k <;> simp [h]
theorem chs_len (P : Nat → Bool) (n : Nat) : (chs P n).length ≤ n := by
  have := List.length_filter_le P (List.range n)
  unfold chs
  simpa using this
theorem chs_mem {P : Nat → Bool} {n k : Nat} : k ∈ chs P n ↔ k < n ∧ P k = true := by
  unfold chs
  rw [List.mem_filter, List.mem_range]
variable {g : Gr} {cn rn : Nat} {F T : List Nat}
set_option maxHeartbeats 4000000 in
theorem neigh_c (g : Gr) (cn i k : Nat) (w : World) (A : Option Addr) (c : Nat) (hC : g.C = cn) (h0 : 0 < cn) (h1 : cn ≤ 1024) (hi : i ≤ 2000) (hk : k ≤ 2000) :
    Calls Tryz.prog 56 #[.agg #[.int .i64 g.X, .int .i64 g.Y, .int .i64 g.S, .int .i64 g.C, .int .i64 g.R, .slice A g.L.length c], .int .i64 i, .int .i64 k] w fun e w' => e = .returned (.bool (nbB cn i k)) ∧ Ext w w' := by
  have ed : (i : Int) / (cn : Int) = ((i / cn : Nat) : Int) := by simp
  have em : (i : Int) % (cn : Int) = ((i % cn : Nat) : Int) := by simp
  have fd : (k : Int) / (cn : Int) = ((k / cn : Nat) : Int) := by simp
  have fm : (k : Int) % (cn : Int) = ((k % cn : Nat) : Int) := by simp
  have b1 : i / cn ≤ i := Nat.div_le_self _ _
  have b2 : i % cn ≤ i := Nat.mod_le _ _
  have b3 : k / cn ≤ k := Nat.div_le_self _ _
  have b4 : k % cn ≤ k := Nat.mod_le _ _
  unfold nbB
  generalize i / cn = d at *
  generalize i % cn = m at *
  generalize k / cn = e at *
  generalize k % cn = n at *
  rw [hC]
  clear hC
  have A1 := Lib.hid (fun w => abs_c ((m : Int) - (n : Int)) w (by omega) (by omega))
  have A2 := Lib.hid (fun w => abs_c ((d : Int) - (e : Int)) w (by omega) (by omega))
  go_enter Tryz.func56, Tryz.ntmps56
  go_wp2
  refine region_grow (by kernel_rfl) (by kernel_rfl) ?_
  repeat (first | go_big_quiet_step (first | (go_at_call 59; exact callsStay (abs_c _ _ (by omega) (by omega))) | fail) | quiet_step (first | (go_at_call 59; exact callsStay (abs_c _ _ (by omega) (by omega))) | fail))
  refine wpQuiet_nil ?_
  intro w1 hb
  have hc := hb.ccell
  have hf := hb.frz
  have hs := hb.sz
  (try simp at hs); (try have hs0 := hs w.heap.size (by omega)); (try have hs1 := hs (w.heap.size + 1) (by omega)); (try have hs2 := hs (w.heap.size + 1 + 1) (by omega)); (try have hs3 := hs (w.heap.size + 1 + 1 + 1) (by omega))
  (try simp only [IntWalk.i64_left])
  go_wp2
  go_ret
  exact ⟨ret_bool (by rw [Bool.eq_iff_iff, beq_iff_eq, decide_eq_true_eq]; omega), by (repeat (first | with_reducible exact Ext.rfl' _ | with_reducible assumption | with_reducible refine Ext.al ?_ _ | with_reducible refine Ext.dr ?_ | with_reducible refine Ext.st ?_ (by simp) _ | with_reducible refine Ext.tr ?_ (by assumption)))⟩
set_option maxHeartbeats 4000000 in
theorem rnear_c (g : Gr) (cn i : Nat) (w : World) (A : Option Addr) (c : Nat) (hC : g.C = cn) (h0 : 0 < cn) (h1 : cn ≤ 1024) (hi : i ≤ 2000) (hl : g.L.length ≤ 2000) :
    Calls Tryz.prog 33 #[.agg #[.int .i64 g.X, .int .i64 g.Y, .int .i64 g.S, .int .i64 g.C, .int .i64 g.R, .slice A g.L.length c], .int .i64 i] w fun e w' => OutZN w.heap.size (chs (nbB cn i) g.L.length) e w' ∧ Ext w w' := by
  have HN := Lib.hid (fun (k : Nat) (hk : k ≤ 2000) w' => neigh_c g cn i k w' A c hC h0 h1 hi hk)
  obtain ⟨i0, hi0, hzi0, hzi1, hzi2⟩ := info_parts infoZ
  have HI := Lib.hid (And.intro hi0 (And.intro hzi0 (And.intro hzi1 hzi2)))
  clear hi0 hzi0 hzi1 hzi2 hC
  go_enter Tryz.func33, Tryz.ntmps33
  go_wp2
  have hEp : Ext w (w.alloc (.cells #[.int .i64 g.X, .int .i64 g.Y, .int .i64 g.S, .int .i64 g.C, .int .i64 g.R, .slice A g.L.length c] 28)) := by (repeat (first | with_reducible exact Ext.rfl' _ | with_reducible assumption | with_reducible refine Ext.al ?_ _ | with_reducible refine Ext.dr ?_ | with_reducible refine Ext.st ?_ (by simp) _ | with_reducible refine Ext.tr ?_ (by assumption)))
  have kg : CellsAt (w.alloc (.cells #[.int .i64 g.X, .int .i64 g.Y, .int .i64 g.S, .int .i64 g.C, .int .i64 g.R, .slice A g.L.length c] 28)) w.heap.size 0 [.int .i64 g.X, .int .i64 g.Y, .int .i64 g.S, .int .i64 g.C, .int .i64 g.R, .slice A g.L.length c] := by
    refine cells_six ⟨?_, ?_, ?_, ?_, ?_, ?_⟩ <;> simp [World.cell?_alloc_new, go_sem]
  have zg : w.heap.size < (w.alloc (.cells #[.int .i64 g.X, .int .i64 g.Y, .int .i64 g.S, .int .i64 g.C, .int .i64 g.R, .slice A g.L.length c] 28)).heap.size := by simp
  generalize w.alloc (.cells #[.int .i64 g.X, .int .i64 g.Y, .int .i64 g.S, .int .i64 g.C, .int .i64 g.R, .slice A g.L.length c] 28) = wp at *
  go_loopw [5, 6] (fun v k wr => Ext wp wr ∧ ∃ m : Nat, m ≤ g.L.length ∧ k = .int .i64 m ∧ Hid (wr.ownsRow wp.heap.size 3 1 v (chs (nbB cn i) m).length ((zl (chs (nbB cn i) m)).flatMap encZ))) (fun _ k _ => g.L.length - (intOf k).toNat)
  case atStart => exact ⟨Ext.rfl' _, 0, Nat.zero_le _, rfl, Lib.hid (World.ownsRow_nil _ _ _ _)⟩
  case round =>
    obtain ⟨hr, k, hk, rfl, hO⟩ := hrel
    have hE : Ext w wr := hEp.tr hr
    obtain ⟨g0, g1, g2, g3, g4, g5⟩ := (kg.ext hr zg).six
    have zg2 := hr.sz _ zg
    by_cases hlt : k < g.L.length
    · have HK1 := Lib.hid (fun w' => HN.out k (by omega) w')
      have hln := chs_len (nbB cn i) k
      have hcs := chs_succ (nbB cn i) k
      cases hq : nbB cn i k
      · rw [hq] at HK1 hcs
        have HN : Hid (chs (nbB cn i) (k + 1) = chs (nbB cn i) k) := Lib.hid (by rw [hcs]; simp)
        clear hq hcs
        go_wp2_with (first | (go_at_call 56; with_reducible refine Calls.mono (HK1.out _) ?_; rintro e w3 ⟨rfl, hb⟩; have hc := hb.ccell; have hf := hb.frz; have hs := hb.sz; (try simp at hs); (try have t0 := hs (w.heap.size) (by first | assumption | omega)); (try have t1 := hs (w.heap.size) (by first | assumption | omega)); (try have t2 := hs (w.heap.size) (by first | assumption | omega)); (try have t3 := hs (w.heap.size) (by first | assumption | omega)); (try have t4 := hs (w.heap.size) (by first | assumption | omega)); (try have t5 := hs (w.heap.size) (by first | assumption | omega))))
        have hE3 : Ext wr w3 := by assumption
        refine ⟨⟨hr.tr hE3, k + 1, by omega, by go_num, Lib.hid ?_⟩, by simp [intOf]; omega⟩
        rw [HN.out]
        exact ownsRow_ext hO.out hE3
      · rw [hq] at HK1 hcs
        have HN : Hid (chs (nbB cn i) (k + 1) = chs (nbB cn i) k ++ [k]) := Lib.hid (by rw [hcs]; simp)
        obtain ⟨hi0, hzi0, hzi1, hzi2⟩ := HI.out
        generalize chs (nbB cn i) k = M at *
        clear hq hcs
        go_wp2_with (first | (go_at_call 56; with_reducible refine Calls.mono (HK1.out _) ?_; rintro e w3 ⟨rfl, hb⟩; have hc := hb.ccell; have hf := hb.frz; have hs := hb.sz; (try simp at hs); (try have t0 := hs (w.heap.size) (by first | assumption | omega)); (try have t1 := hs (w.heap.size) (by first | assumption | omega)); (try have t2 := hs (w.heap.size) (by first | assumption | omega)); (try have t3 := hs (w.heap.size) (by first | assumption | omega)); (try have t4 := hs (w.heap.size) (by first | assumption | omega)); (try have t5 := hs (w.heap.size) (by first | assumption | omega))) | (at_builtin; refine wpList_append_own _ rfl _ _ 26 rfl (wp.heap.size) 3 i0 _ 1 8 Tryz.underlying26 hi0 hzi0 hzi1 hzi2 rfl (by decide) _ _ _ rfl (World.ownsRow.alloc (ownsRow_ext (hO.out) (by assumption)) _) ⟨_, 0, none⟩ 1 1 [.int .i64 ((k : Int))] rfl rfl ?_ ?_ ?_ ?_ ?_ ?_))
        · exact one_newZ _ _ _
        · intro u hu; simp at hu; subst hu; rfl
        · unfold maxLen; omega
        · omega
        · have hE3 : Ext wr w3 := by assumption
          have := (hr.tr hE3).size
          simp; omega
        intro v' w4 hown hgrow _
        have hE3 : Ext wr w3 := by assumption
        have hE4 : Ext wp w4 := grown_ext (Ext.al (hr.tr hE3) _) (World.ownsRow.alloc (ownsRow_ext hO.out hE3) _) (Nat.le_refl _) hgrow
        have hown2 := Lib.hid hown
        clear hown hgrow hi0 hzi0 hzi1 hzi2
        go_wp2
        refine ⟨⟨hE4, k + 1, by omega, by go_num, Lib.hid ?_⟩, by simp [intOf]; omega⟩
        rw [HN.out]
        exact own_put hown2.out
    · have hks : k = g.L.length := by omega
      subst hks
      obtain ⟨A', c', hv, hN⟩ := NewZ.of (l := zl (chs (nbB cn i) g.L.length)) rfl (zl_len _).symm hO.out
      rw [zl_len] at hv
      subst hv
      have HN := Lib.hid hN
      clear hO hN
      go_wp2
      go_ret
      exact ⟨⟨A', c', rfl, HN.out.mono hEp.size⟩, hE⟩
end Go.Proofs.YtdbabihjnhnnfaaGreat

namespace Go.Proofs.YtdbabihjnhnnfaaGreat
open Go Go.RowKit Go.IntWalk

/-- A pair of cells that differs too much. -/
structure St where
  h : Nat
  l : Nat
  o : Int
instance : Inhabited St := ⟨⟨0, 0, 0⟩⟩
def encSt (x : St) : List Value := [.int .i64 (x.h : Int), .int .i64 (x.l : Int), .int .i64 x.o]
theorem encSt_len (x : St) : (encSt x).length = 3 := rfl
theorem infoSt : (Tryz.prog.info? 90).map (fun i => (i.zero, i.size, i.bytes)) = some (some (.agg #[.int .i64 0, .int .i64 0, .int .i64 0]), 3, 24) := by kernel_rfl
def OutSt (l : List St) (e : Ending) (w' : World) : Prop := ∃ A c, e = .returned (.slice A l.length c) ∧ Row 3 encSt w' A l
theorem st_put {w : World} {base n : Nat} {v : Value} {l l' : List St} {a b : Nat} {o x y z : Int} (hl : l' = l ++ [⟨a, b, o⟩]) (hx : x = a) (hy : y = b) (hz : z = o) (hn : n = l.length + 1) (h : w.ownsRow base 90 3 v n (l.flatMap encSt ++ [.int .i64 x, .int .i64 y, .int .i64 z])) : w.ownsRow base 90 3 v l'.length (l'.flatMap encSt) := by
  subst hl hx hy hz hn
  rw [List.length_append, List.flatMap_append]
  exact h
def hiP (L : List Int) (p : Nat × Nat) : Nat := if gi L p.1 < gi L p.2 then p.2 else p.1
def loP (L : List Int) (p : Nat × Nat) : Nat := if gi L p.1 < gi L p.2 then p.1 else p.2
def ovP (L : List Int) (al : Nat → Nat → Int) (p : Nat × Nat) : Int := gi L (hiP L p) - gi L (loP L p) - al (hiP L p) (loP L p)
/-- The steeps among the first pairs. -/
def stN (L : List Int) (al : Nat → Nat → Int) (ps : List (Nat × Nat)) : Nat → List St
  | 0 => []
  | k + 1 => if 0 < ovP L al (el ps k) then stN L al ps k ++ [⟨hiP L (el ps k), loP L (el ps k), ovP L al (el ps k)⟩] else stN L al ps k
theorem stN_len (L : List Int) (al : Nat → Nat → Int) (ps : List (Nat × Nat)) : ∀ k, (stN L al ps k).length ≤ k
  | 0 => Nat.le_refl _
  | k + 1 => by
    have := stN_len L al ps k
    rw [stN]
    split
    · rw [List.length_append]; simp; omega
    · omega

set_option maxHeartbeats 16000000 in
set_option maxRecDepth 100000 in
theorem steeps_c (g : Gr) (cn rn : Nat) (r : List Int) (w : World) (A B : Option Addr) (c d : Nat) (vg : VG g) (hC : g.C = cn) (hR : g.R = rn) (hrl : r.length = g.L.length) (hrv : ∀ i, i < g.L.length → 1 ≤ gi r i ∧ gi r i ≤ 1000) (hA : Row 1 encZ w A g.L) (hB : Row 1 encZ w B r) :
    Calls Tryz.prog 21 #[.agg #[.int .i64 g.X, .int .i64 g.Y, .int .i64 g.S, .int .i64 g.C, .int .i64 g.R, .slice A g.L.length c, .slice B r.length d]] w
      fun e w' => OutSt (stN g.L (alw g.S r) (prsN cn g.L.length (knB g.L) g.L.length) (prsN cn g.L.length (knB g.L) g.L.length).length) e w' ∧ Ext w w' := by
  obtain ⟨cn', rn', e1, e2, e3, e4, e5, e6, e7, e8⟩ := vg.nat
  have hcc : cn' = cn := by omega
  have hrr : rn' = rn := by omega
  subst hcc hrr
  have hn : g.L.length ≤ 1024 := by omega
  have HPA := Lib.hid (fun w' (hw : Ext w w') => pairs_c g cn' rn' r w' A B c d e3 e4 e1 e7 hn (hA.ext hw))
  have HPM : Hid (∀ p ∈ prsN cn' g.L.length (knB g.L) g.L.length, p.1 < g.L.length ∧ p.2 < g.L.length) := Lib.hid (by
    intro p hp
    have := (prs_mem (cn := cn') (rn := rn') (kn := knB g.L) (p := p)).1 (by rw [← e7]; exact hp)
    rw [← e7] at this
    exact ⟨this.1, this.2.1⟩)
  have hpl := prsN_len cn' g.L.length (knB g.L) g.L.length
  obtain ⟨ps, hps⟩ : ∃ ps, prsN cn' g.L.length (knB g.L) g.L.length = ps := ⟨_, rfl⟩
  rw [hps] at HPA HPM hpl ⊢
  have HAL := Lib.hid (fun a b (ha : a < g.L.length) (hb : b < g.L.length) => alw_pos vg.hs (hrv a ha) (hrv b hb))
  have HCA := Lib.hid (fun a b (ha : a < g.L.length) (hb : b < g.L.length) w' (hw : Ext w w') => allowed_c g r a b w' A B c d vg.hs (by omega) (by omega) (by omega) (hrv a ha) (hrv b hb) (hB.ext hw))
  have HLV := Lib.hid vg.lev
  obtain ⟨i0, hi, hzi0, hzi1, hzi2⟩ := info_parts infoSt
  have HI := Lib.hid (And.intro hi (And.intro hzi0 (And.intro hzi1 hzi2)))
  have HRA := Lib.hid hA
  generalize alw g.S r = al at *
  clear hi hzi0 hzi1 hzi2 hps e1 e2 e3 e4 e5 e6 e7 e8 vg hrv hC hR hA hB hrl
  go_enter Tryz.func21, Tryz.ntmps21
  go_upto_region 3 with (first | (go_at_call 45; (with_reducible refine Calls.mono (HPA.out _ (by (repeat (first | with_reducible exact Ext.rfl' _ | with_reducible assumption | with_reducible refine Ext.al ?_ _ | with_reducible refine Ext.dr ?_ | with_reducible refine Ext.st ?_ (by simp) _ | with_reducible refine Ext.tr ?_ (by assumption))))) ?_); rintro e w1 ⟨⟨Ap, cp, rfl, hRp, hbs⟩, hb⟩; have hc := hb.ccell; have hf := hb.frz; have hs := hb.sz; (try simp at hs); (try have t0 := hs (w.heap.size) (by first | assumption | omega)); (try have t1 := hs (w.heap.size) (by first | assumption | omega)); (try have t2 := hs (w.heap.size) (by first | assumption | omega)); (try have t3 := hs (w.heap.size) (by first | assumption | omega)); (try have t4 := hs (w.heap.size) (by first | assumption | omega)); (try have t5 := hs (w.heap.size) (by first | assumption | omega))))
  refine wp_name (fun W hW => ?_)
  have hEW : Ext w W := by rw [hW]; (repeat (first | with_reducible exact Ext.rfl' _ | with_reducible assumption | with_reducible refine Ext.al ?_ _ | with_reducible refine Ext.dr ?_ | with_reducible refine Ext.st ?_ (by simp) _ | with_reducible refine Ext.tr ?_ (by assumption)))
  have hRW : Row 2 encPr W Ap ps := by rw [hW]; exact hRp
  have k7 : CellsAt W w.heap.size 0 [.int .i64 g.X, .int .i64 g.Y, .int .i64 g.S, .int .i64 g.C, .int .i64 g.R, .slice A g.L.length c, .slice B r.length d] := by rw [hW]; refine cells_seven ⟨?_, ?_, ?_, ?_, ?_, ?_, ?_⟩ <;> simp [*, go_sem]
  have z0 : w.heap.size < W.heap.size := by rw [hW]; assumption
  have HRW := Lib.hid hRW
  clear hW hRW hRp hbs hb hc hf hs t0 t1 t2 t3 t4 t5
  go_loopw [3, 12] (fun o i wr => Ext W wr ∧ ∃ k : Nat, k ≤ ps.length ∧ i = .int .i64 k ∧ Hid (wr.ownsRow W.heap.size 90 3 o (stN g.L al ps k).length ((stN g.L al ps k).flatMap encSt))) (fun _ i _ => ps.length - (intOf i).toNat)
  case atStart => exact ⟨Ext.rfl' _, 0, Nat.zero_le _, rfl, Lib.hid (World.ownsRow_nil _ _ _ _)⟩
  case round =>
    obtain ⟨hE, k, hk, rfl, hO⟩ := hrel
    obtain ⟨m0, m1, m2, m3, m4, m5, m6⟩ := (k7.ext hE z0).seven
    have zr := hE.sz _ z0
    have hEr := hEW.tr hE
    have hwz := hE.size
    obtain ⟨hi, hzi0, hzi1, hzi2⟩ := HI.out
    by_cases hlt : k < ps.length
    · obtain ⟨bp, op, rfl, hbp, hcell⟩ := HRW.out.pr hlt
      obtain ⟨c0, c1⟩ := hcell _ hE
      have zp := hE.sz _ hbp
      obtain ⟨hpa, hpb⟩ := HPM.out _ (List.getElem_mem hlt)
      have hPl := stN_len g.L al ps k
      have HP : Hid (stN g.L al ps (k + 1) = if 0 < ovP g.L al (el ps k) then stN g.L al ps k ++ [⟨hiP g.L (el ps k), loP g.L (el ps k), ovP g.L al (el ps k)⟩] else stN g.L al ps k) := rfl
      rw [el_lt _ _ hlt] at HP
      generalize ps[k] = p at *
      obtain ⟨a, b⟩ := p
      unfold ovP hiP loP at HP
      dsimp only at *
      obtain ⟨q, off, rfl, hq, hca⟩ := HRA.out.p1 hpa
      obtain ⟨q', off', hqe, _, hcb⟩ := HRA.out.p1 hpb
      injection hqe with hqe
      injection hqe with h1 h2
      subst h1 h2
      have x0 := hca _ hEr
      have x1 := hcb _ hEr
      have zq := hEr.sz _ hq
      rw [← gi_lt] at x0 x1
      have l1 := HLV.out a hpa
      have l2 := HLV.out b hpb
      have hai : (a : Int) < (g.L.length : Int) := by omega
      have hbi : (b : Int) < (g.L.length : Int) := by omega
      have A1 := HAL.out a b hpa hpb
      have A2 := HAL.out b a hpb hpa
      have HC1 := Lib.hid (fun w' (hw : Ext wr w') => HCA.out a b hpa hpb w' (hEr.tr hw))
      have HC2 := Lib.hid (fun w' (hw : Ext wr w') => HCA.out b a hpb hpa w' (hEr.tr hw))
      clear hca hcb hcell HCA HAL HRA HPM HRW
      generalize stN g.L al ps k = PN at *
      by_cases hd : gi g.L a < gi g.L b
      · rw [if_pos hd, if_pos hd] at HP
        generalize al a b = u1 at *
        generalize al b a = u2 at *
        generalize gi g.L a = la at *
        generalize gi g.L b = lb at *
        obtain ⟨D, hD⟩ : ∃ D, lb - la = D := ⟨_, rfl⟩
        have hw1 : IntKind.i64.wrap (lb - la) = D := by rw [hD]; exact IntWalk.i64_in _ (by omega)
        rw [hD] at HP
        obtain ⟨O, hOv⟩ : ∃ O, D - u2 = O := ⟨_, rfl⟩
        have hw2 : IntKind.i64.wrap (D - u2) = O := by rw [hOv]; exact IntWalk.i64_in _ (by omega)
        rw [hOv] at HP
        clear hD hOv A1 A2 l1 l2
        go_upto_region 5 with fail
        go_region
        go_upto_region 6 with fail
        go_region
        go_upto_region 8 with fail
        refine wp_name (fun W2 hW2 => ?_)
        have hE2 : Ext wr W2 := by rw [hW2]; (repeat (first | with_reducible exact Ext.rfl' _ | with_reducible assumption | with_reducible refine Ext.al ?_ _ | with_reducible refine Ext.dr ?_ | with_reducible refine Ext.st ?_ (by simp) _ | with_reducible refine Ext.tr ?_ (by assumption)))
        have n2 := (hE2.ccell _ 2 zr).trans m2
        have n0 := (hE2.ccell _ 0 zr).trans m0
        have n1 := (hE2.ccell _ 1 zr).trans m1
        have n3 := (hE2.ccell _ 3 zr).trans m3
        have n4 := (hE2.ccell _ 4 zr).trans m4
        have n5 := (hE2.ccell _ 5 zr).trans m5
        have n6 := (hE2.ccell _ 6 zr).trans m6
        have y0 := (hE2.ccell _ _ zq).trans x0
        have y1 := (hE2.ccell _ _ zq).trans x1
        have yr := hE2.sz _ zr
        have yq := hE2.sz _ zq
        clear hW2 m0 m1 m2 m3 m4 m5 m6 x0 x1 c0 c1
        refine region_grow (by kernel_rfl) (by kernel_rfl) ?_
        repeat (first | go_big_quiet_step (first | (go_at_call 46; with_reducible exact callsGrow (HC2.out _ (hE2.tr (Grow.ok _)))) | fail) | quiet_step (first | (go_at_call 46; with_reducible exact callsGrow (HC2.out _ (hE2.tr (Grow.ok _)))) | fail))
        refine wpQuiet_nil ?_
        intro w1 hb
        have hc := hb.ccell
        have hf := hb.frz
        have hs := hb.sz
        (try simp at hs); (try have hs0 := hs w.heap.size (by omega)); (try have hs1 := hs (w.heap.size + 1) (by omega)); (try have hs2 := hs (w.heap.size + 1 + 1) (by omega)); (try have hs3 := hs (w.heap.size + 1 + 1 + 1) (by omega))
        (try simp only [IntWalk.i64_left])
        have hE3 : Ext W2 w1 := by assumption
        have hE4 := hE2.tr hE3
        have hO4 := Lib.hid (ownsRow_ext hO.out hE4)
        have hx4 := hE.tr hE4
        have hz4 := hx4.size
        clear hb hc hf hs
        by_cases ho : 0 < O
        · rw [if_pos ho] at HP
          go_wp2_with (first | (at_builtin; refine wpList_append_own _ rfl _ _ 60 rfl W.heap.size 90 i0 _ 3 24 Tryz.underlying60 hi hzi0 hzi1 hzi2 rfl (by decide) _ _ _ rfl (World.ownsRow.alloc hO4.out _) ⟨_, 0, none⟩ 1 1 [.int .i64 (b : Int), .int .i64 (a : Int), .int .i64 O] rfl rfl ?sp1 ?sp2 ?sp3 ?sp4 ?sp5 ?_))
          try case sp1 =>
            intro j u hu
            match j with
            | 0 => simpa [Addr.add, go_sem] using hu
            | 1 => simpa [Addr.add, go_sem] using hu
            | 2 => simpa [Addr.add, go_sem] using hu
            | j + 3 => simp at hu
          try case sp2 => first | exact ⟨rfl, rfl, rfl⟩ | (intro u hu; simp at hu; rcases hu with rfl | rfl | rfl <;> rfl)
          try case sp3 => unfold maxLen; omega
          try case sp4 => omega
          try case sp5 => first | omega | (simp; omega)
          intro v' w4 hown hgrow _
          have hE5 : Ext W w4 := grown_ext (Ext.al hx4 _) (World.ownsRow.alloc hO4.out _) (Nat.le_refl _) hgrow
          have hown2 := Lib.hid (st_put HP.out rfl rfl rfl rfl hown)
          clear hown hgrow hi hzi0 hzi1 hzi2
          go_wp2
          exact ⟨⟨hE5, k + 1, by omega, by go_num, hown2⟩, by simp [intOf]; omega⟩
        · rw [if_neg ho] at HP
          go_wp2
          exact ⟨⟨hx4, k + 1, by omega, by go_num, by rw [HP.out]; exact hO4⟩, by simp [intOf]; omega⟩
      · rw [if_neg hd, if_neg hd] at HP
        generalize al a b = u1 at *
        generalize al b a = u2 at *
        generalize gi g.L a = la at *
        generalize gi g.L b = lb at *
        obtain ⟨D, hD⟩ : ∃ D, la - lb = D := ⟨_, rfl⟩
        have hw1 : IntKind.i64.wrap (la - lb) = D := by rw [hD]; exact IntWalk.i64_in _ (by omega)
        rw [hD] at HP
        obtain ⟨O, hOv⟩ : ∃ O, D - u1 = O := ⟨_, rfl⟩
        have hw2 : IntKind.i64.wrap (D - u1) = O := by rw [hOv]; exact IntWalk.i64_in _ (by omega)
        rw [hOv] at HP
        clear hD hOv A1 A2 l1 l2
        go_upto_region 5 with fail
        go_region
        go_upto_region 6 with fail
        go_region
        go_upto_region 8 with fail
        refine wp_name (fun W2 hW2 => ?_)
        have hE2 : Ext wr W2 := by rw [hW2]; (repeat (first | with_reducible exact Ext.rfl' _ | with_reducible assumption | with_reducible refine Ext.al ?_ _ | with_reducible refine Ext.dr ?_ | with_reducible refine Ext.st ?_ (by simp) _ | with_reducible refine Ext.tr ?_ (by assumption)))
        have n2 := (hE2.ccell _ 2 zr).trans m2
        have n0 := (hE2.ccell _ 0 zr).trans m0
        have n1 := (hE2.ccell _ 1 zr).trans m1
        have n3 := (hE2.ccell _ 3 zr).trans m3
        have n4 := (hE2.ccell _ 4 zr).trans m4
        have n5 := (hE2.ccell _ 5 zr).trans m5
        have n6 := (hE2.ccell _ 6 zr).trans m6
        have y0 := (hE2.ccell _ _ zq).trans x0
        have y1 := (hE2.ccell _ _ zq).trans x1
        have yr := hE2.sz _ zr
        have yq := hE2.sz _ zq
        clear hW2 m0 m1 m2 m3 m4 m5 m6 x0 x1 c0 c1
        refine region_grow (by kernel_rfl) (by kernel_rfl) ?_
        repeat (first | go_big_quiet_step (first | (go_at_call 46; with_reducible exact callsGrow (HC1.out _ (hE2.tr (Grow.ok _)))) | fail) | quiet_step (first | (go_at_call 46; with_reducible exact callsGrow (HC1.out _ (hE2.tr (Grow.ok _)))) | fail))
        refine wpQuiet_nil ?_
        intro w1 hb
        have hc := hb.ccell
        have hf := hb.frz
        have hs := hb.sz
        (try simp at hs); (try have hs0 := hs w.heap.size (by omega)); (try have hs1 := hs (w.heap.size + 1) (by omega)); (try have hs2 := hs (w.heap.size + 1 + 1) (by omega)); (try have hs3 := hs (w.heap.size + 1 + 1 + 1) (by omega))
        (try simp only [IntWalk.i64_left])
        have hE3 : Ext W2 w1 := by assumption
        have hE4 := hE2.tr hE3
        have hO4 := Lib.hid (ownsRow_ext hO.out hE4)
        have hx4 := hE.tr hE4
        have hz4 := hx4.size
        clear hb hc hf hs
        by_cases ho : 0 < O
        · rw [if_pos ho] at HP
          go_wp2_with (first | (at_builtin; refine wpList_append_own _ rfl _ _ 60 rfl W.heap.size 90 i0 _ 3 24 Tryz.underlying60 hi hzi0 hzi1 hzi2 rfl (by decide) _ _ _ rfl (World.ownsRow.alloc hO4.out _) ⟨_, 0, none⟩ 1 1 [.int .i64 (a : Int), .int .i64 (b : Int), .int .i64 O] rfl rfl ?sn1 ?sn2 ?sn3 ?sn4 ?sn5 ?_))
          try case sn1 =>
            intro j u hu
            match j with
            | 0 => simpa [Addr.add, go_sem] using hu
            | 1 => simpa [Addr.add, go_sem] using hu
            | 2 => simpa [Addr.add, go_sem] using hu
            | j + 3 => simp at hu
          try case sn2 => first | exact ⟨rfl, rfl, rfl⟩ | (intro u hu; simp at hu; rcases hu with rfl | rfl | rfl <;> rfl)
          try case sn3 => unfold maxLen; omega
          try case sn4 => omega
          try case sn5 => first | omega | (simp; omega)
          intro v' w4 hown hgrow _
          have hE5 : Ext W w4 := grown_ext (Ext.al hx4 _) (World.ownsRow.alloc hO4.out _) (Nat.le_refl _) hgrow
          have hown2 := Lib.hid (st_put HP.out rfl rfl rfl rfl hown)
          clear hown hgrow hi hzi0 hzi1 hzi2
          go_wp2
          exact ⟨⟨hE5, k + 1, by omega, by go_num, hown2⟩, by simp [intOf]; omega⟩
        · rw [if_neg ho] at HP
          go_wp2
          exact ⟨⟨hx4, k + 1, by omega, by go_num, by rw [HP.out]; exact hO4⟩, by simp [intOf]; omega⟩
    · have hks : k = ps.length := by omega
      subst hks
      obtain ⟨A', c', hv, _, _, hcase⟩ := ownK_cases encSt_len rfl rfl hO.out
      subst hv
      have hrw := Lib.hid (ownK_row encSt_len hcase)
      clear hO hcase
      go_wp2
      go_ret
      exact ⟨⟨A', c', rfl, hrw.out⟩, hEr⟩
end Go.Proofs.YtdbabihjnhnnfaaGreat
