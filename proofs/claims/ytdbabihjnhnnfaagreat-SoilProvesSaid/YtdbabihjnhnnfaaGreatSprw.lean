/- What the reference's Proved asks is what CheckSlump asks. Plain mathematics, but for the names. The contract of the reference's Proved. -/
import Derived.Test.YtdbabihjnhnnfaaGreatSprt

namespace Go.Proofs.YtdbabihjnhnnfaaGreat
open Go Go.RowKit Go.IntWalk

/-- Cell i of L is held, among the neighbours nb. -/
def hdF (L : List Int) (al : Nat → Nat → Int) (nb : List Nat) (i : Nat) (k : Nat) : Bool := knB L (el nb k) && decide (gi L i = gi L (el nb k) + al i (el nb k))
/-- Cell i is not as the reference asks. -/
def bpF (M L : List Int) (al : Nat → Nat → Int) (nb : Nat → List Nat) (i : Nat) : Bool :=
  if knB M i != knB L i then true else if knB M i = false ∨ gi L i = gi M i then false else decide (gi M i < gi L i) || !anyN (hdF L al (nb i) i) (nb i).length
def proB (soils : List So) (bos : List Bo) (m : Gr) (L : List Int) (cn rn : Nat) : Bool := !anyN (bpF m.L L (alw m.S (rL soils bos m cn)) (nbr cn rn)) m.L.length && decide ((stL6 soils bos (withL m L) cn).length = 0)
theorem hd_hs (L : List Int) (al : Nat → Nat → Int) (nb : Nat → List Nat) (i : Nat) : hdF L al (nb i) i = fun k => hsF L al i (el (nb i) k) := by
  funext k
  unfold hdF hsF
  congr 1
  rw [decide_eq_decide]
  omega
theorem bp_or (m : Gr) (L : List Int) (al : Nat → Nat → Int) (nb : Nat → List Nat) (i : Nat) : bpF m.L L al nb i = (lwF m (withL m L) i || nhF L m.L al nb i) := by
  unfold bpF lwF nhF
  rw [hd_hs]
  generalize anyN (fun k => hsF L al i (el (nb i) k)) (nb i).length = h
  show _ = ((knB m.L i != knB L i) || decide (gi m.L i < gi L i) || (!decide (gi L i = gi m.L i) && !h))
  by_cases hk : (knB m.L i != knB L i) = true
  · rw [if_pos hk, hk]; simp
  rw [if_neg hk]
  have hk' : (knB m.L i != knB L i) = false := by simpa using hk
  have hke : knB m.L i = knB L i := by simpa using hk'
  rw [hk']
  by_cases he : gi L i = gi m.L i
  · rw [if_pos (.inr he), decide_eq_true he, decide_eq_false (by omega)]; rfl
  · have hkt : knB m.L i = true := by
      cases hm : knB m.L i
      · exfalso
        have h1 : knB L i = false := by rw [← hke, hm]
        unfold knB at hm h1
        simp only [decide_eq_false_iff_not, Decidable.not_not] at hm h1
        omega
      · rfl
    rw [if_neg (by rw [hkt]; simp [he]), decide_eq_false he]
    simp
theorem anyN_or (f g : Nat → Bool) (n : Nat) : anyN (fun i => f i || g i) n = (anyN f n || anyN g n) := by
  rw [Bool.eq_iff_iff, Bool.or_eq_true, anyN_iff, anyN_iff, anyN_iff]
  constructor
  · rintro ⟨i, hi, h⟩
    have h' : (f i || g i) = true := h
    rw [Bool.or_eq_true] at h'
    rcases h' with h | h
    · exact .inl ⟨i, hi, h⟩
    · exact .inr ⟨i, hi, h⟩
  · rintro (⟨i, hi, h⟩ | ⟨i, hi, h⟩)
    · exact ⟨i, hi, by show (f i || g i) = true; rw [h]; rfl⟩
    · exact ⟨i, hi, by show (f i || g i) = true; rw [h]; simp⟩
theorem pro_ok {soils : List So} {bos : List Bo} {m : Gr} {cn rn : Nat} {L : List Int} (hl : L.length = m.L.length) : proB soils bos m L cn rn = okS soils bos m (withL m L) cn rn := by
  unfold proB okS
  have e1 : alw (withL m L).S (rL soils bos (withL m L) cn) = alw m.S (rL soils bos m cn) := alG_withL soils bos m cn hl
  rw [e1]
  show (!anyN (bpF m.L L (alw m.S (rL soils bos m cn)) (nbr cn rn)) m.L.length && decide ((stL6 soils bos (withL m L) cn).length = 0)) = (!anyN (lwF m (withL m L)) m.L.length && (decide ((stZ soils bos (withL m L) cn).length = 0) && !anyN (nhF L m.L (alw m.S (rL soils bos m cn)) (nbr cn rn)) L.length))
  rw [hl, show bpF m.L L (alw m.S (rL soils bos m cn)) (nbr cn rn) = fun i => lwF m (withL m L) i || nhF L m.L (alw m.S (rL soils bos m cn)) (nbr cn rn) i from funext fun i => bp_or _ _ _ _ _, anyN_or]
  show (!(_ || _) && decide ((stZ soils bos (withL m L) cn).length = 0)) = _
  generalize anyN (lwF m (withL m L)) m.L.length = a
  generalize anyN (nhF L m.L (alw m.S (rL soils bos m cn)) (nbr cn rn)) m.L.length = b
  generalize decide ((stZ soils bos (withL m L) cn).length = 0) = d
  cases a <;> cases b <;> cases d <;> rfl
end Go.Proofs.YtdbabihjnhnnfaaGreat

namespace Go.Proofs.YtdbabihjnhnnfaaGreat
open Go Go.RowKit Go.IntWalk

theorem anyN_step {f : Nat → Bool} {k : Nat} {v : Bool} (h : (anyN f k || f k) = v) : anyN f (k + 1) = v := by rw [anyN]; exact h
set_option maxHeartbeats 64000000 in
set_option maxRecDepth 100000 in
theorem rproved_c (soils : List So) (bos : List Bo) (m : Gr) (L : List Int) (cn rn : Nat) (w : World) (AS AB A B : Option Addr) (cS cB c d : Nat) (gw : GrW w soils AS bos AB) (v : VGd soils bos) (hg : chkG m = 0) (hk : chkG (withL m L) = 0) (hl : L.length = m.L.length) (hC : m.C = cn) (hR : m.R = rn) (hA : Row 1 encZ w A m.L) (hB : Row 1 encZ w B L) :
    Calls Tryz.prog 14 #[.agg #[.slice AS soils.length cS, .slice AB bos.length cB], .agg #[.int .i64 m.X, .int .i64 m.Y, .int .i64 m.S, .int .i64 m.C, .int .i64 m.R, .slice A m.L.length c], .agg #[.int .i64 m.X, .int .i64 m.Y, .int .i64 m.S, .int .i64 m.C, .int .i64 m.R, .slice B L.length d]] w fun e w' => e = .returned (.bool (proB soils bos m L cn rn)) ∧ Ext w w' := by
  have vg := chkG_ok hg
  have vk := chkG_ok hk
  obtain ⟨cn', rn', e1, e2, e3, e4, e5, e6, e7, e8⟩ := vg.nat
  have hcc : cn' = cn := by omega
  have hrr : rn' = rn := by omega
  subst hcc hrr
  have hn : m.L.length ≤ 1024 := by omega
  have hrv : ∀ i, i < m.L.length → 1 ≤ gi (rL soils bos m cn') i ∧ gi (rL soils bos m cn') i ≤ 1000 := by
    intro i hi
    rw [gi_mkI_rF _ _ _ _ _ hi]
    exact runB_pos v _ _
  have HAP := Lib.hid (fun a b (ha : a < m.L.length) (hb : b < m.L.length) => alw_pos vg.hs (hrv a ha) (hrv b hb))
  have HAL := Lib.hid (fun a b (ha : a < m.L.length) (hb : b < m.L.length) w' (hw : Ext w w') => rallowed_c soils bos m cn' a b w' AS AB A cS cB c (gw.ext hw) v vg hC ha hb)
  have HNE := Lib.hid (fun a (ha : a < m.L.length) w' => rnear_c m cn' a w' A c hC e3 e4 (by omega) (by omega))
  have HNB : Hid (∀ i, i < m.L.length → nbr cn' rn' i = chs (nbB cn' i) m.L.length) := Lib.hid (fun i hi => by rw [e7] at hi ⊢; exact nbr_chs e3 hi)
  have HKM := Lib.hid (fun k (hk : k < m.L.length) w' (hw : Ext w w') => known_c m k w' A c hk (hA.ext hw))
  have HKL := Lib.hid (fun k (hk : k < L.length) w' (hw : Ext w w') => known_c (withL m L) k w' B d hk (hB.ext hw))
  have HST := Lib.hid (fun w' (hw : Ext w w') => rsteepsN_c soils bos (withL m L) cn' w' AS AB B cS cB d (gw.ext hw) v vk hC (hB.ext hw))
  have HLV := Lib.hid vk.lev
  have HRA := Lib.hid hA
  have HRB := Lib.hid hB
  unfold withL at HKL HST HLV
  dsimp only at HKL HST HLV
  unfold proB withL
  generalize (stL6 soils bos ⟨m.X, m.Y, m.S, m.C, m.R, L⟩ cn') = SL at *
  obtain ⟨E, hE0⟩ : ∃ E, (!anyN (bpF m.L L (alw m.S (rL soils bos m cn')) (nbr cn' rn')) m.L.length && decide (SL.length = 0)) = E := ⟨_, rfl⟩
  rw [hE0]
  have HT := Lib.hid hE0
  generalize alw m.S (rL soils bos m cn') = al at *
  have HLN := Lib.hid hl
  clear hE0 e1 e2 e3 e4 e5 e6 e7 e8 vg vk v gw hrv hC hR hA hB hg hk hl
  go_enter Tryz.func14, Tryz.ntmps14
  go_wp2
  refine wp_name (fun W hW => ?_)
  have hEW : Ext w W := by rw [hW]; (repeat (first | with_reducible exact Ext.rfl' _ | with_reducible assumption | with_reducible refine Ext.al ?_ _ | with_reducible refine Ext.dr ?_ | with_reducible refine Ext.st ?_ (by simp) _ | with_reducible refine Ext.tr ?_ (by assumption)))
  have r0 : W.cell? ⟨w.heap.size, 0, none⟩ = some (.slice AS soils.length cS) := by rw [hW]; simp [go_sem]
  have r1 : W.cell? ⟨w.heap.size, 1, none⟩ = some (.slice AB bos.length cB) := by rw [hW]; simp [go_sem]
  have km : CellsAt W (w.heap.size + 1) 0 [.int .i64 m.X, .int .i64 m.Y, .int .i64 m.S, .int .i64 m.C, .int .i64 m.R, .slice A m.L.length c] := by rw [hW]; refine cells_six ⟨?_, ?_, ?_, ?_, ?_, ?_⟩ <;> simp [go_sem]
  have ka : CellsAt W (w.heap.size + 1 + 1) 0 [.int .i64 m.X, .int .i64 m.Y, .int .i64 m.S, .int .i64 m.C, .int .i64 m.R, .slice B L.length d] := by rw [hW]; refine cells_six ⟨?_, ?_, ?_, ?_, ?_, ?_⟩ <;> simp [go_sem]
  have hz2 : w.heap.size + 1 + 1 < W.heap.size := by rw [hW]; simp
  have hz1 : w.heap.size + 1 < W.heap.size := by omega
  have hz0 : w.heap.size < W.heap.size := by omega
  clear hW
  have HP : Hid (∀ w', Ext W w' → (w'.cell? ⟨w.heap.size, 0, none⟩ = some (.slice AS soils.length cS) ∧ w'.cell? ⟨w.heap.size, 1, none⟩ = some (.slice AB bos.length cB)) ∧ CellsAt w' (w.heap.size + 1) 0 [.int .i64 m.X, .int .i64 m.Y, .int .i64 m.S, .int .i64 m.C, .int .i64 m.R, .slice A m.L.length c] ∧ CellsAt w' (w.heap.size + 1 + 1) 0 [.int .i64 m.X, .int .i64 m.Y, .int .i64 m.S, .int .i64 m.C, .int .i64 m.R, .slice B L.length d] ∧ w.heap.size < w'.heap.size ∧ w.heap.size + 1 < w'.heap.size ∧ w.heap.size + 1 + 1 < w'.heap.size) :=
    Lib.hid (fun w' hw => ⟨⟨(hw.ccell _ 0 hz0).trans r0, (hw.ccell _ 1 hz0).trans r1⟩, km.ext hw hz1, ka.ext hw hz2, hw.sz _ hz0, hw.sz _ hz1, hw.sz _ hz2⟩)
  have HEW := Lib.hid hEW
  clear r0 r1 km ka hz0 hz1 hz2 hEW
  go_loopw [7] (fun i wr => Ext W wr ∧ ∃ k : Nat, k ≤ m.L.length ∧ i = .int .i64 k ∧ Hid (anyN (bpF m.L L al (nbr cn' rn')) k = false)) (fun i _ => m.L.length - (intOf i).toNat)
  case atStart => exact ⟨Ext.rfl' _, 0, Nat.zero_le _, rfl, rfl⟩
  case round =>
    obtain ⟨hE, k, hk, rfl, hF⟩ := hrel
    obtain ⟨⟨g0, g1⟩, km, ka, z0, z1, z2⟩ := HP.out _ hE
    obtain ⟨m0, m1, m2, m3, m4, m5⟩ := km.six
    obtain ⟨a0, a1, a2, a3, a4, a5⟩ := ka.six
    clear km ka
    have hEr := HEW.out.tr hE
    by_cases hlt : k < m.L.length
    case neg =>
      have hks : k = m.L.length := by omega
      have hT := HT.out
      rw [← hks, hF.out] at hT
      have HT2 := Lib.hid hT
      have hkz : ¬ (k : Int) < (m.L.length : Int) := by omega
      clear hT hF hks HKM HKL HAL HNE HT
      go_wp2_with (first | (go_at_call 35; (with_reducible refine Calls.mono (HST.out _ (hEr.tr (by (repeat (first | with_reducible exact Ext.rfl' _ | with_reducible assumption | with_reducible refine Ext.al ?_ _ | with_reducible refine Ext.dr ?_ | with_reducible refine Ext.st ?_ (by simp) _ | with_reducible refine Ext.tr ?_ (by assumption)))))) ?_); rintro e w2 ⟨⟨Ac, cc, rfl, hRc, hfr⟩, hb⟩; have hc := hb.ccell; have hf := hb.frz; have hs := hb.sz; (try simp at hs); (try have t0 := hs (w.heap.size) (by first | assumption | omega)); (try have t1 := hs (w.heap.size + 1) (by first | assumption | omega)); (try have t2 := hs (w.heap.size + 1 + 1) (by first | assumption | omega)); (try have t3 := hs (w.heap.size) (by first | assumption | omega)); (try have t4 := hs (w.heap.size) (by first | assumption | omega)); (try have t5 := hs (w.heap.size) (by first | assumption | omega))))
      go_ret
      exact ⟨ret_bool (by rw [← HT2.out]; first | rfl | (simp; done) | (rw [Bool.eq_iff_iff]; simp; done) | (rw [Bool.eq_iff_iff]; simp; omega)), hEr.tr (by (repeat (first | with_reducible exact Ext.rfl' _ | with_reducible assumption | with_reducible refine Ext.al ?_ _ | with_reducible refine Ext.dr ?_ | with_reducible refine Ext.st ?_ (by simp) _ | with_reducible refine Ext.tr ?_ (by assumption))))⟩
    have hkL : k < L.length := by rw [HLN.out]; exact hlt
    have hkz : (k : Int) < (m.L.length : Int) := by omega
    have hkzL : (k : Int) < (L.length : Int) := by omega
    have HBP : Hid (bpF m.L L al (nbr cn' rn') k = if knB m.L k != knB L k then true else if knB m.L k = false ∨ gi L k = gi m.L k then false else decide (gi m.L k < gi L k) || !anyN (hdF L al (nbr cn' rn' k) k) (nbr cn' rn' k).length) := rfl
    have HFA : Hid (bpF m.L L al (nbr cn' rn') k = true → false = E) := Lib.hid (fun h => by rw [← HT.out, anyN_at _ hlt h]; rfl)
    have HFB : Hid (bpF m.L L al (nbr cn' rn') k = false → anyN (bpF m.L L al (nbr cn' rn')) (k + 1) = false) := Lib.hid (fun h => by rw [anyN, hF.out, h]; rfl)
    have HKA := Lib.hid (fun w' (hw : Ext wr w') => HKM.out k hlt w' (hEr.tr hw))
    have HKB := Lib.hid (fun w' (hw : Ext wr w') => HKL.out k hkL w' (hEr.tr hw))
    clear hF HST
    cases hka : knB m.L k <;> cases hkb : knB L k
    · -- both unknown
      rw [hka] at HKA
      rw [hkb] at HKB
      have HN := Lib.hid (HFB.out (by rw [HBP.out, hka, hkb]; rfl))
      clear HFA HFB HBP hka hkb HKM HKL HAL HNE
      go_upto_region 4 with fail
      refine region_grow (by kernel_rfl) (by kernel_rfl) ?_
      repeat (first | go_big_quiet_step (first | (go_at_call 32; with_reducible exact callsGrow (HKA.out _ (Grow.ok _))) | (go_at_call 32; with_reducible exact callsGrow (HKB.out _ (Grow.ok _))) | fail) | quiet_step (first | (go_at_call 32; with_reducible exact callsGrow (HKA.out _ (Grow.ok _))) | (go_at_call 32; with_reducible exact callsGrow (HKB.out _ (Grow.ok _))) | fail))
      refine wpQuiet_nil ?_
      intro w1 hb
      have hc := hb.ccell
      have hf := hb.frz
      have hs := hb.sz
      (try simp at hs); (try have hs0 := hs w.heap.size (by omega)); (try have hs1 := hs (w.heap.size + 1) (by omega)); (try have hs2 := hs (w.heap.size + 1 + 1) (by omega)); (try have hs3 := hs (w.heap.size + 1 + 1 + 1) (by omega))
      (try simp only [IntWalk.i64_left])
      have hE1 : Ext wr w1 := by assumption
      clear hc hf hs hb
      (try clear hs0); (try clear hs1); (try clear hs2); (try clear hs3)
      clear g0 g1 m0 m1 m2 m3 m4 m5 a0 a1 a2 a3 a4 a5 z0 z1 z2
      obtain ⟨⟨g0, g1⟩, km, ka, z0, z1, z2⟩ := HP.out _ (Ext.tr (hE) hE1)
      obtain ⟨m0, m1, m2, m3, m4, m5⟩ := km.six
      obtain ⟨a0, a1, a2, a3, a4, a5⟩ := ka.six
      clear km ka
      obtain ⟨wx, hwx⟩ : ∃ wx, wx = w1 := ⟨_, rfl⟩
      subst hwx
      go_upto_region 6 with fail
      refine region_grow (by kernel_rfl) (by kernel_rfl) ?_
      repeat (first | go_big_quiet_step (first | (go_at_call 32; with_reducible exact callsGrow (HKA.out _ (hE1.tr (Grow.ok _)))) | fail) | quiet_step (first | (go_at_call 32; with_reducible exact callsGrow (HKA.out _ (hE1.tr (Grow.ok _)))) | fail))
      refine wpQuiet_nil ?_
      intro w1 hb
      have hc := hb.ccell
      have hf := hb.frz
      have hs := hb.sz
      (try simp at hs); (try have hs0 := hs w.heap.size (by omega)); (try have hs1 := hs (w.heap.size + 1) (by omega)); (try have hs2 := hs (w.heap.size + 1 + 1) (by omega)); (try have hs3 := hs (w.heap.size + 1 + 1 + 1) (by omega))
      (try simp only [IntWalk.i64_left])
      go_wp2
      exact ⟨⟨hE.tr (hE1.tr (by (repeat (first | with_reducible exact Ext.rfl' _ | with_reducible assumption | with_reducible refine Ext.al ?_ _ | with_reducible refine Ext.dr ?_ | with_reducible refine Ext.st ?_ (by simp) _ | with_reducible refine Ext.tr ?_ (by assumption))))), k + 1, by omega, by go_num, HN.out⟩, by simp [intOf]; omega⟩
    · rw [hka] at HKA
      rw [hkb] at HKB
      have HN := Lib.hid (HFA.out (by rw [HBP.out, hka, hkb]; rfl))
      clear HFA HFB HBP hka hkb HKM HKL HAL HNE
      go_upto_region 4 with fail
      refine region_grow (by kernel_rfl) (by kernel_rfl) ?_
      repeat (first | go_big_quiet_step (first | (go_at_call 32; with_reducible exact callsGrow (HKA.out _ (Grow.ok _))) | (go_at_call 32; with_reducible exact callsGrow (HKB.out _ (Grow.ok _))) | fail) | quiet_step (first | (go_at_call 32; with_reducible exact callsGrow (HKA.out _ (Grow.ok _))) | (go_at_call 32; with_reducible exact callsGrow (HKB.out _ (Grow.ok _))) | fail))
      refine wpQuiet_nil ?_
      intro w1 hb
      have hc := hb.ccell
      have hf := hb.frz
      have hs := hb.sz
      (try simp at hs); (try have hs0 := hs w.heap.size (by omega)); (try have hs1 := hs (w.heap.size + 1) (by omega)); (try have hs2 := hs (w.heap.size + 1 + 1) (by omega)); (try have hs3 := hs (w.heap.size + 1 + 1 + 1) (by omega))
      (try simp only [IntWalk.i64_left])
      go_wp2
      go_ret
      exact ⟨ret_bool HN.out, hEr.tr (by (repeat (first | with_reducible exact Ext.rfl' _ | with_reducible assumption | with_reducible refine Ext.al ?_ _ | with_reducible refine Ext.dr ?_ | with_reducible refine Ext.st ?_ (by simp) _ | with_reducible refine Ext.tr ?_ (by assumption))))⟩
    · rw [hka] at HKA
      rw [hkb] at HKB
      have HN := Lib.hid (HFA.out (by rw [HBP.out, hka, hkb]; rfl))
      clear HFA HFB HBP hka hkb HKM HKL HAL HNE
      go_upto_region 4 with fail
      refine region_grow (by kernel_rfl) (by kernel_rfl) ?_
      repeat (first | go_big_quiet_step (first | (go_at_call 32; with_reducible exact callsGrow (HKA.out _ (Grow.ok _))) | (go_at_call 32; with_reducible exact callsGrow (HKB.out _ (Grow.ok _))) | fail) | quiet_step (first | (go_at_call 32; with_reducible exact callsGrow (HKA.out _ (Grow.ok _))) | (go_at_call 32; with_reducible exact callsGrow (HKB.out _ (Grow.ok _))) | fail))
      refine wpQuiet_nil ?_
      intro w1 hb
      have hc := hb.ccell
      have hf := hb.frz
      have hs := hb.sz
      (try simp at hs); (try have hs0 := hs w.heap.size (by omega)); (try have hs1 := hs (w.heap.size + 1) (by omega)); (try have hs2 := hs (w.heap.size + 1 + 1) (by omega)); (try have hs3 := hs (w.heap.size + 1 + 1 + 1) (by omega))
      (try simp only [IntWalk.i64_left])
      go_wp2
      go_ret
      exact ⟨ret_bool HN.out, hEr.tr (by (repeat (first | with_reducible exact Ext.rfl' _ | with_reducible assumption | with_reducible refine Ext.al ?_ _ | with_reducible refine Ext.dr ?_ | with_reducible refine Ext.st ?_ (by simp) _ | with_reducible refine Ext.tr ?_ (by assumption))))⟩
    rw [hka] at HKA
    rw [hkb] at HKB
    rw [hka, hkb] at HBP
    clear hka hkb
    obtain ⟨bm, om, rfl, hbm, hcm⟩ := HRA.out.p1 hlt
    obtain ⟨ba, oa, rfl, hba, hca⟩ := HRB.out.p1 hkL
    have HCM : Hid (∀ w', Ext w w' → w'.cell? ⟨bm, om + k, none⟩ = some (.int .i64 (gi m.L k))) := Lib.hid (fun w' hw => by rw [gi_lt _ _ hlt]; exact hcm w' hw)
    have HCA : Hid (∀ w', Ext w w' → w'.cell? ⟨ba, oa + k, none⟩ = some (.int .i64 (gi L k))) := Lib.hid (fun w' hw => by rw [gi_lt _ _ hkL]; exact hca w' hw)
    clear hcm hca
    go_upto_region 4 with fail
    refine region_grow (by kernel_rfl) (by kernel_rfl) ?_
    repeat (first | go_big_quiet_step (first | (go_at_call 32; with_reducible exact callsGrow (HKA.out _ (Grow.ok _))) | (go_at_call 32; with_reducible exact callsGrow (HKB.out _ (Grow.ok _))) | fail) | quiet_step (first | (go_at_call 32; with_reducible exact callsGrow (HKA.out _ (Grow.ok _))) | (go_at_call 32; with_reducible exact callsGrow (HKB.out _ (Grow.ok _))) | fail))
    refine wpQuiet_nil ?_
    intro w1 hb
    have hc := hb.ccell
    have hf := hb.frz
    have hs := hb.sz
    (try simp at hs); (try have hs0 := hs w.heap.size (by omega)); (try have hs1 := hs (w.heap.size + 1) (by omega)); (try have hs2 := hs (w.heap.size + 1 + 1) (by omega)); (try have hs3 := hs (w.heap.size + 1 + 1 + 1) (by omega))
    (try simp only [IntWalk.i64_left])
    have hE1 : Ext wr w1 := by assumption
    clear hc hf hs hb
    (try clear hs0); (try clear hs1); (try clear hs2); (try clear hs3)
    clear g0 g1 m0 m1 m2 m3 m4 m5 a0 a1 a2 a3 a4 a5 z0 z1 z2
    obtain ⟨⟨g0, g1⟩, km, ka, z0, z1, z2⟩ := HP.out _ (Ext.tr (hE) hE1)
    obtain ⟨m0, m1, m2, m3, m4, m5⟩ := km.six
    obtain ⟨a0, a1, a2, a3, a4, a5⟩ := ka.six
    clear km ka
    obtain ⟨wx, hwx⟩ : ∃ wx, wx = w1 := ⟨_, rfl⟩
    subst hwx
    have ym := HCM.out _ (hEr.tr hE1)
    have ya := HCA.out _ (hEr.tr hE1)
    have zm := (hEr.tr hE1).sz _ hbm
    have za := (hEr.tr hE1).sz _ hba
    by_cases heq : gi L k = gi m.L k
    · have HN := Lib.hid (HFB.out (by rw [HBP.out, if_neg (by simp), if_pos (.inr heq)]))
      rw [heq] at ya
      clear HFA HFB HBP HKM HKL HAL HNE HCM HCA
      generalize gi m.L k = lv at *
      clear heq
      go_upto_region 6 with fail
      refine region_grow (by kernel_rfl) (by kernel_rfl) ?_
      repeat (first | go_big_quiet_step (first | (go_at_call 32; with_reducible exact callsGrow (HKA.out _ (hE1.tr (Grow.ok _)))) | fail) | quiet_step (first | (go_at_call 32; with_reducible exact callsGrow (HKA.out _ (hE1.tr (Grow.ok _)))) | fail))
      refine wpQuiet_nil ?_
      intro w1 hb
      have hc := hb.ccell
      have hf := hb.frz
      have hs := hb.sz
      (try simp at hs); (try have hs0 := hs w.heap.size (by omega)); (try have hs1 := hs (w.heap.size + 1) (by omega)); (try have hs2 := hs (w.heap.size + 1 + 1) (by omega)); (try have hs3 := hs (w.heap.size + 1 + 1 + 1) (by omega))
      (try simp only [IntWalk.i64_left])
      go_wp2
      exact ⟨⟨hE.tr (hE1.tr (by (repeat (first | with_reducible exact Ext.rfl' _ | with_reducible assumption | with_reducible refine Ext.al ?_ _ | with_reducible refine Ext.dr ?_ | with_reducible refine Ext.st ?_ (by simp) _ | with_reducible refine Ext.tr ?_ (by assumption))))), k + 1, by omega, by go_num, HN.out⟩, by simp [intOf]; omega⟩
    have HBP2 : Hid (bpF m.L L al (nbr cn' rn') k = (decide (gi m.L k < gi L k) || !anyN (hdF L al (nbr cn' rn' k) k) (nbr cn' rn' k).length)) := Lib.hid (by rw [HBP.out, if_neg (by simp), if_neg (by simp [heq])])
    have HLK := HLV.out k hkL
    have heq1 : (gi L k == gi m.L k) = false := by rw [beq_eq_false_iff_ne]; exact heq
    have heq2 : decide (gi L k = gi m.L k) = false := decide_eq_false heq
    have HNK := Lib.hid (fun w' => HNE.out k hlt w')
    rw [HNB.out k hlt] at HBP2
    have HMB : Hid (∀ b ∈ chs (nbB cn' k) m.L.length, b < m.L.length) := Lib.hid (fun b hb => (chs_mem.1 hb).1)
    have hMl := chs_len (nbB cn' k) m.L.length
    generalize chs (nbB cn' k) m.L.length = M at *
    clear HBP HNB
    go_upto_region 6 with fail
    refine region_grow (by kernel_rfl) (by kernel_rfl) ?_
    repeat (first | go_big_quiet_step (first | (go_at_call 32; with_reducible exact callsGrow (HKA.out _ (hE1.tr (Grow.ok _)))) | fail) | quiet_step (first | (go_at_call 32; with_reducible exact callsGrow (HKA.out _ (hE1.tr (Grow.ok _)))) | fail))
    refine wpQuiet_nil ?_
    intro w1 hb
    have hc := hb.ccell
    have hf := hb.frz
    have hs := hb.sz
    (try simp at hs); (try have hs0 := hs w.heap.size (by omega)); (try have hs1 := hs (w.heap.size + 1) (by omega)); (try have hs2 := hs (w.heap.size + 1 + 1) (by omega)); (try have hs3 := hs (w.heap.size + 1 + 1 + 1) (by omega))
    (try simp only [IntWalk.i64_left])
    have hE0 := hE.tr hE1
    have hE2 : Ext wx w1 := by assumption
    clear hc hf hs hb
    (try clear hs0); (try clear hs1); (try clear hs2); (try clear hs3)
    clear g0 g1 m0 m1 m2 m3 m4 m5 a0 a1 a2 a3 a4 a5 z0 z1 z2
    obtain ⟨⟨g0, g1⟩, km, ka, z0, z1, z2⟩ := HP.out _ (Ext.tr (hE0) hE2)
    obtain ⟨m0, m1, m2, m3, m4, m5⟩ := km.six
    obtain ⟨a0, a1, a2, a3, a4, a5⟩ := ka.six
    clear km ka
    have ym := HCM.out _ (hEr.tr (hE1.tr hE2))
    have ya := HCA.out _ (hEr.tr (hE1.tr hE2))
    have zm := (hEr.tr (hE1.tr hE2)).sz _ hbm
    have za := (hEr.tr (hE1.tr hE2)).sz _ hba
    obtain ⟨wy, hwy⟩ : ∃ wy, wy = w1 := ⟨_, rfl⟩
    subst hwy
    go_upto_region 9 with (first | (go_at_call 33; (with_reducible refine Calls.mono (HNK.out _) ?_); rintro e w2 ⟨⟨A2, c2, rfl, hN2⟩, hb⟩; have hc := hb.ccell; have hf := hb.frz; have hs := hb.sz; (try simp at hs); (try have t0 := hs (w.heap.size) (by first | assumption | omega)); (try have t1 := hs (w.heap.size + 1) (by first | assumption | omega)); (try have t2 := hs (w.heap.size + 1 + 1) (by first | assumption | omega)); (try have t3 := hs (w.heap.size) (by first | assumption | omega)); (try have t4 := hs (w.heap.size) (by first | assumption | omega)); (try have t5 := hs (w.heap.size) (by first | assumption | omega))))
    have hE3 : Ext wy w2 := by (repeat (first | with_reducible exact Ext.rfl' _ | with_reducible assumption | with_reducible refine Ext.al ?_ _ | with_reducible refine Ext.dr ?_ | with_reducible refine Ext.st ?_ (by simp) _ | with_reducible refine Ext.tr ?_ (by assumption)))
    have HRN := Lib.hid hN2.row
    have hE4 : Ext W w2 := hE0.tr (hE2.tr hE3)
    have hEw : Ext w w2 := HEW.out.tr hE4
    have hEr4 : Ext wr w2 := hE1.tr (hE2.tr hE3)
    clear hc hf hs hb t0 t1 t2 t3 t4 t5 hN2
    clear g0 g1 m0 m1 m2 m3 m4 m5 a0 a1 a2 a3 a4 a5 z0 z1 z2 ym ya zm za hE0 hE1 hE2 hE3
    obtain ⟨wz, hwz⟩ : ∃ wz, wz = w2 := ⟨_, rfl⟩
    subst hwz
    go_wp2
    go_loopw [8, 10] (fun hd i wr => Ext wz wr ∧ ∃ q : Nat, q ≤ M.length ∧ i = .int .i64 q ∧ hd = .bool (anyN (hdF L al M k) q)) (fun _ i _ => M.length - (intOf i).toNat)
    case atStart => exact ⟨Ext.rfl' _, 0, Nat.zero_le _, rfl, rfl⟩
    case round =>
      obtain ⟨hF, q, hq, rfl, rfl⟩ := hrel
      have hG := hE4.tr hF
      have hGw := hEw.tr hF
      obtain ⟨⟨g0, g1⟩, km, ka, z0, z1, z2⟩ := HP.out _ hG
      obtain ⟨m0, m1, m2, m3, m4, m5⟩ := km.six
      obtain ⟨a0, a1, a2, a3, a4, a5⟩ := ka.six
      clear km ka
      have ym := HCM.out _ hGw
      have ya := HCA.out _ hGw
      have zm := hGw.sz _ hbm
      have za := hGw.sz _ hba
      by_cases hqm : q < M.length
      · obtain ⟨bn, on, rfl, hbn, hcn⟩ := HRN.out.p1 (k := q) (by rw [zl_len]; exact hqm)
        have yn := hcn _ hF
        have zn := hF.sz _ hbn
        rw [show (zl M)[q]'(by rw [zl_len]; exact hqm) = (M[q] : Int) by simp [zl]] at yn
        have hjm := HMB.out _ (List.getElem_mem hqm)
        have hjL : M[q] < L.length := by rw [HLN.out]; exact hjm
        have HHD : Hid (hdF L al M k q = (knB L M[q] && decide (gi L k = gi L M[q] + al k M[q]))) := Lib.hid (by unfold hdF; rw [el_lt _ _ hqm])
        have HS := Lib.hid (fun v (h : (anyN (hdF L al M k) q || hdF L al M k q) = v) => anyN_step h)
        have hqz : (q : Int) < (M.length : Int) := by omega
        clear hcn HMB
        generalize M[q] = j at *
        have HKJ := Lib.hid (fun w' (hw : Ext wr w') => HKL.out j hjL w' (hGw.tr hw))
        have HAJ := Lib.hid (fun w' (hw : Ext wr w') => HAL.out k j hlt hjm w' (hGw.tr hw))
        cases hh : anyN (hdF L al M k) q
        case true =>
          have HN : Hid (anyN (hdF L al M k) (q + 1) = true) := Lib.hid (HS.out true (by rw [hh]; rfl))
          clear HKJ HAJ HHD HS hh
          go_upto_region 12 with fail
          refine region_grow (by kernel_rfl) (by kernel_rfl) ?_
          repeat (first | go_big_quiet_step (first  | fail) | quiet_step (first  | fail))
          refine wpQuiet_nil ?_
          intro w1 hb
          have hc := hb.ccell
          have hf := hb.frz
          have hs := hb.sz
          (try simp at hs); (try have hs0 := hs w.heap.size (by omega)); (try have hs1 := hs (w.heap.size + 1) (by omega)); (try have hs2 := hs (w.heap.size + 1 + 1) (by omega)); (try have hs3 := hs (w.heap.size + 1 + 1 + 1) (by omega))
          (try simp only [IntWalk.i64_left])
          go_wp2
          exact ⟨⟨hF.tr (by (repeat (first | with_reducible exact Ext.rfl' _ | with_reducible assumption | with_reducible refine Ext.al ?_ _ | with_reducible refine Ext.dr ?_ | with_reducible refine Ext.st ?_ (by simp) _ | with_reducible refine Ext.tr ?_ (by assumption)))), q + 1, by omega, by go_num, by rw [HN.out]⟩, by simp [intOf]; omega⟩
        cases hkj : knB L j
        · have HN : Hid (anyN (hdF L al M k) (q + 1) = false) := Lib.hid (HS.out false (by rw [hh, HHD.out, hkj]; rfl))
          rw [hkj] at HKJ
          clear HAJ HHD HS hh hkj
          go_upto_region 12 with fail
          refine region_grow (by kernel_rfl) (by kernel_rfl) ?_
          repeat (first | go_big_quiet_step (first | (go_at_call 32; with_reducible exact callsGrow (HKJ.out _ (Grow.ok _))) | fail) | quiet_step (first | (go_at_call 32; with_reducible exact callsGrow (HKJ.out _ (Grow.ok _))) | fail))
          refine wpQuiet_nil ?_
          intro w1 hb
          have hc := hb.ccell
          have hf := hb.frz
          have hs := hb.sz
          (try simp at hs); (try have hs0 := hs w.heap.size (by omega)); (try have hs1 := hs (w.heap.size + 1) (by omega)); (try have hs2 := hs (w.heap.size + 1 + 1) (by omega)); (try have hs3 := hs (w.heap.size + 1 + 1 + 1) (by omega))
          (try simp only [IntWalk.i64_left])
          go_wp2
          exact ⟨⟨hF.tr (by (repeat (first | with_reducible exact Ext.rfl' _ | with_reducible assumption | with_reducible refine Ext.al ?_ _ | with_reducible refine Ext.dr ?_ | with_reducible refine Ext.st ?_ (by simp) _ | with_reducible refine Ext.tr ?_ (by assumption)))), q + 1, by omega, by go_num, by rw [HN.out]⟩, by simp [intOf]; omega⟩
        obtain ⟨ba', oa', hbe, _, hcj⟩ := HRB.out.p1 hjL
        injection hbe with hbe
        injection hbe with h1 h2
        subst h1 h2
        have yj := hcj _ hGw
        rw [← gi_lt] at yj
        clear hcj
        have A1 := HAP.out k j hlt hjm
        have L1 := HLV.out j hjL
        have HN := Lib.hid (HS.out (decide (gi L k = gi L j + al k j)) (by rw [hh, HHD.out, hkj]; rfl))
        rw [hkj] at HKJ
        have hw1 : IntKind.i64.wrap (gi L j + al k j) = gi L j + al k j := IntWalk.i64_in _ (by omega)
        have hjz : (j : Int) < (L.length : Int) := by omega
        clear HHD HS hh hkj A1 L1
        generalize al k j = u at *
        generalize gi L j = lj at *
        generalize gi L k = lk at *
        by_cases hjj : lk = lj + u
        · rw [decide_eq_true hjj] at HN
          clear HFA HFB HBP2 HCA HCM HNK heq heq1 heq2 HLK
          subst hjj
          go_upto_region 12 with fail
          refine region_grow (by kernel_rfl) (by kernel_rfl) ?_
          repeat (first | go_big_quiet_step (first | (go_at_call 32; with_reducible exact callsGrow (HKJ.out _ (Grow.ok _))) | (go_at_call 34; with_reducible exact callsGrow (HAJ.out _ (Grow.ok _))) | fail) | quiet_step (first | (go_at_call 32; with_reducible exact callsGrow (HKJ.out _ (Grow.ok _))) | (go_at_call 34; with_reducible exact callsGrow (HAJ.out _ (Grow.ok _))) | fail))
          refine wpQuiet_nil ?_
          intro w1 hb
          have hc := hb.ccell
          have hf := hb.frz
          have hs := hb.sz
          (try simp at hs); (try have hs0 := hs w.heap.size (by omega)); (try have hs1 := hs (w.heap.size + 1) (by omega)); (try have hs2 := hs (w.heap.size + 1 + 1) (by omega)); (try have hs3 := hs (w.heap.size + 1 + 1 + 1) (by omega))
          (try simp only [IntWalk.i64_left])
          go_wp2
          exact ⟨⟨hF.tr (by (repeat (first | with_reducible exact Ext.rfl' _ | with_reducible assumption | with_reducible refine Ext.al ?_ _ | with_reducible refine Ext.dr ?_ | with_reducible refine Ext.st ?_ (by simp) _ | with_reducible refine Ext.tr ?_ (by assumption)))), q + 1, by omega, by go_num, by rw [HN.out]⟩, by simp [intOf]; omega⟩
        · rw [decide_eq_false hjj] at HN
          have hj1 : (lk == lj + u) = false := by rw [beq_eq_false_iff_ne]; exact hjj
          have hj2 : decide (lk = lj + u) = false := decide_eq_false hjj
          clear HFA HFB HBP2 HCA HCM HNK heq heq1 heq2 HLK
          go_upto_region 12 with fail
          refine region_grow (by kernel_rfl) (by kernel_rfl) ?_
          repeat (first | go_big_quiet_step (first | (go_at_call 32; with_reducible exact callsGrow (HKJ.out _ (Grow.ok _))) | (go_at_call 34; with_reducible exact callsGrow (HAJ.out _ (Grow.ok _))) | fail) | quiet_step (first | (go_at_call 32; with_reducible exact callsGrow (HKJ.out _ (Grow.ok _))) | (go_at_call 34; with_reducible exact callsGrow (HAJ.out _ (Grow.ok _))) | fail))
          refine wpQuiet_nil ?_
          intro w1 hb
          have hc := hb.ccell
          have hf := hb.frz
          have hs := hb.sz
          (try simp at hs); (try have hs0 := hs w.heap.size (by omega)); (try have hs1 := hs (w.heap.size + 1) (by omega)); (try have hs2 := hs (w.heap.size + 1 + 1) (by omega)); (try have hs3 := hs (w.heap.size + 1 + 1 + 1) (by omega))
          (try simp only [IntWalk.i64_left])
          go_wp2
          exact ⟨⟨hF.tr (by (repeat (first | with_reducible exact Ext.rfl' _ | with_reducible assumption | with_reducible refine Ext.al ?_ _ | with_reducible refine Ext.dr ?_ | with_reducible refine Ext.st ?_ (by simp) _ | with_reducible refine Ext.tr ?_ (by assumption)))), q + 1, by omega, by go_num, by rw [HN.out]⟩, by simp [intOf]; omega⟩
      · have hqe : q = M.length := by omega
        subst hqe
        have hqz : ¬ (M.length : Int) < (M.length : Int) := by omega
        cases hh : anyN (hdF L al M k) M.length
        · have HN := Lib.hid (HFA.out (by rw [HBP2.out, hh]; simp))
          clear HFA HFB HBP2 HCA HCM HNK HMB HRN heq heq1 heq2 hh
          by_cases hgt : gi m.L k < gi L k
          · clear HLK
            generalize gi m.L k = lm at *
            generalize gi L k = lk at *
            go_upto_region 13 with fail
            refine region_grow (by kernel_rfl) (by kernel_rfl) ?_
            repeat (first | go_big_quiet_step (first  | fail) | quiet_step (first  | fail))
            refine wpQuiet_nil ?_
            intro w1 hb
            have hc := hb.ccell
            have hf := hb.frz
            have hs := hb.sz
            (try simp at hs); (try have hs0 := hs w.heap.size (by omega)); (try have hs1 := hs (w.heap.size + 1) (by omega)); (try have hs2 := hs (w.heap.size + 1 + 1) (by omega)); (try have hs3 := hs (w.heap.size + 1 + 1 + 1) (by omega))
            (try simp only [IntWalk.i64_left])
            go_wp2
            go_ret
            exact ⟨ret_bool HN.out, hGw.tr (by (repeat (first | with_reducible exact Ext.rfl' _ | with_reducible assumption | with_reducible refine Ext.al ?_ _ | with_reducible refine Ext.dr ?_ | with_reducible refine Ext.st ?_ (by simp) _ | with_reducible refine Ext.tr ?_ (by assumption))))⟩
          · have hgd : decide (gi m.L k < gi L k) = false := decide_eq_false hgt
            clear HLK
            generalize gi m.L k = lm at *
            generalize gi L k = lk at *
            go_upto_region 13 with fail
            refine region_grow (by kernel_rfl) (by kernel_rfl) ?_
            repeat (first | go_big_quiet_step (first  | fail) | quiet_step (first  | fail))
            refine wpQuiet_nil ?_
            intro w1 hb
            have hc := hb.ccell
            have hf := hb.frz
            have hs := hb.sz
            (try simp at hs); (try have hs0 := hs w.heap.size (by omega)); (try have hs1 := hs (w.heap.size + 1) (by omega)); (try have hs2 := hs (w.heap.size + 1 + 1) (by omega)); (try have hs3 := hs (w.heap.size + 1 + 1 + 1) (by omega))
            (try simp only [IntWalk.i64_left])
            go_wp2
            go_ret
            exact ⟨ret_bool HN.out, hGw.tr (by (repeat (first | with_reducible exact Ext.rfl' _ | with_reducible assumption | with_reducible refine Ext.al ?_ _ | with_reducible refine Ext.dr ?_ | with_reducible refine Ext.st ?_ (by simp) _ | with_reducible refine Ext.tr ?_ (by assumption))))⟩
        · by_cases hgt : gi m.L k < gi L k
          · have HN := Lib.hid (HFA.out (by rw [HBP2.out, decide_eq_true hgt]; rfl))
            clear HFA HFB HBP2 HCA HCM HNK HMB HRN heq heq1 heq2 hh HLK
            generalize gi m.L k = lm at *
            generalize gi L k = lk at *
            go_upto_region 13 with fail
            refine region_grow (by kernel_rfl) (by kernel_rfl) ?_
            repeat (first | go_big_quiet_step (first  | fail) | quiet_step (first  | fail))
            refine wpQuiet_nil ?_
            intro w1 hb
            have hc := hb.ccell
            have hf := hb.frz
            have hs := hb.sz
            (try simp at hs); (try have hs0 := hs w.heap.size (by omega)); (try have hs1 := hs (w.heap.size + 1) (by omega)); (try have hs2 := hs (w.heap.size + 1 + 1) (by omega)); (try have hs3 := hs (w.heap.size + 1 + 1 + 1) (by omega))
            (try simp only [IntWalk.i64_left])
            go_wp2
            go_ret
            exact ⟨ret_bool HN.out, hGw.tr (by (repeat (first | with_reducible exact Ext.rfl' _ | with_reducible assumption | with_reducible refine Ext.al ?_ _ | with_reducible refine Ext.dr ?_ | with_reducible refine Ext.st ?_ (by simp) _ | with_reducible refine Ext.tr ?_ (by assumption))))⟩
          · have HN := Lib.hid (HFB.out (by rw [HBP2.out, hh, decide_eq_false hgt]; rfl))
            have hgd : decide (gi m.L k < gi L k) = false := decide_eq_false hgt
            clear HFA HFB HBP2 HCA HCM HNK HMB HRN heq heq1 heq2 hh HLK
            generalize gi m.L k = lm at *
            generalize gi L k = lk at *
            go_upto_region 13 with fail
            refine region_grow (by kernel_rfl) (by kernel_rfl) ?_
            repeat (first | go_big_quiet_step (first  | fail) | quiet_step (first  | fail))
            refine wpQuiet_nil ?_
            intro w1 hb
            have hc := hb.ccell
            have hf := hb.frz
            have hs := hb.sz
            (try simp at hs); (try have hs0 := hs w.heap.size (by omega)); (try have hs1 := hs (w.heap.size + 1) (by omega)); (try have hs2 := hs (w.heap.size + 1 + 1) (by omega)); (try have hs3 := hs (w.heap.size + 1 + 1 + 1) (by omega))
            (try simp only [IntWalk.i64_left])
            go_wp2
            exact ⟨⟨hG.tr (by (repeat (first | with_reducible exact Ext.rfl' _ | with_reducible assumption | with_reducible refine Ext.al ?_ _ | with_reducible refine Ext.dr ?_ | with_reducible refine Ext.st ?_ (by simp) _ | with_reducible refine Ext.tr ?_ (by assumption)))), k + 1, by omega, by go_num, HN.out⟩, by simp [intOf]; omega⟩
end Go.Proofs.YtdbabihjnhnnfaaGreat
