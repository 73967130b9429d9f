/- The contract of slight: a ground that passes it is small. -/
import Derived.Test.YtdbabihjnhnnfaaGreatSground
namespace Go.Proofs.YtdbabihjnhnnfaaGreat
open Go Go.RowKit Go.IntWalk

/-- A ground of any size lies in the world. -/
structure GrAny (w : World) (soils : List So) (AS : Option Addr) (bos : List Bo) (AB : Option Addr) : Prop where
  ls : soils.length ≤ maxLen
  lb : bos.length ≤ maxLen
  so : Row 5 encSo w AS soils
  bo : Row 4 encBo w AB bos
  la : ∀ k, k < bos.length → Row 2 encLa w (el bos k).A (el bos k).l ∧ (el bos k).l.length ≤ (el bos k).c ∧ (el bos k).l.length ≤ maxLen
theorem GrAny.ext {w w' : World} {soils : List So} {AS : Option Addr} {bos : List Bo} {AB : Option Addr} (h : GrAny w soils AS bos AB) (hw : Ext w w') : GrAny w' soils AS bos AB := ⟨h.ls, h.lb, h.so.ext hw, h.bo.ext hw, fun k hk => ⟨(h.la k hk).1.ext hw, (h.la k hk).2⟩⟩
def boBig (x : Bo) : Bool := decide (50 < x.s.size) || decide (14 < x.l.length) || anyN (fun n => decide (50 < (el x.l n).s.size)) x.l.length
/-- A ground is small. -/
def slB (soils : List So) (bos : List Bo) : Bool := decide (soils.length ≤ 10) && decide (bos.length ≤ 22) && !anyN (fun k => decide (50 < (el soils k).s.size)) soils.length && !anyN (fun k => boBig (el bos k)) bos.length
theorem slB_small {soils : List So} {bos : List Bo} (h : slB soils bos = true) : soils.length ≤ 10 ∧ bos.length ≤ 22 ∧ ∀ k, k < bos.length → (el bos k).l.length ≤ 14 := by
  unfold slB at h
  simp only [Bool.and_eq_true, decide_eq_true_eq, Bool.not_eq_true'] at h
  obtain ⟨⟨⟨h1, h2⟩, _⟩, h4⟩ := h
  refine ⟨h1, h2, fun k hk => ?_⟩
  have := (anyN_no _ _).1 h4 k hk
  unfold boBig at this
  simp only [Bool.or_eq_false_iff, decide_eq_false_iff_not] at this
  omega
theorem slB_1 {soils : List So} {bos : List Bo} (h : 10 < soils.length) : slB soils bos = false := by
  unfold slB
  rw [decide_eq_false (by omega)]
  rfl
theorem slB_2 {soils : List So} {bos : List Bo} (h : 22 < bos.length) : slB soils bos = false := by
  unfold slB
  rw [decide_eq_false (p := bos.length ≤ 22) (by omega)]
  simp
theorem slB_3 {soils : List So} {bos : List Bo} {k : Nat} (hk : k < soils.length) (h : 50 < (el soils k).s.size) : slB soils bos = false := by
  unfold slB
  rw [anyN_at (fun k => decide (50 < (el soils k).s.size)) hk (decide_eq_true h)]
  simp
theorem slB_4 {soils : List So} {bos : List Bo} {k : Nat} (hk : k < bos.length) (h : boBig (el bos k) = true) : slB soils bos = false := by
  unfold slB
  rw [anyN_at (fun k => boBig (el bos k)) hk h]
  simp
theorem slB_5 {soils : List So} {bos : List Bo} (h1 : soils.length ≤ 10) (h2 : bos.length ≤ 22) (h3 : ∀ j, j < soils.length → (el soils j).s.size ≤ 50) (h4 : ∀ j, j < bos.length → boBig (el bos j) = false) : slB soils bos = true := by
  unfold slB
  rw [decide_eq_true h1, decide_eq_true h2, (anyN_no _ _).2 fun j hj => decide_eq_false (by have := h3 j hj; omega), (anyN_no _ _).2 h4]
  rfl
theorem boBig_1 {x : Bo} (h : 50 < x.s.size) : boBig x = true := by
  unfold boBig
  rw [decide_eq_true h]
  rfl
theorem boBig_2 {x : Bo} (h : 14 < x.l.length) : boBig x = true := by
  unfold boBig
  rw [decide_eq_true h]
  simp
theorem boBig_3 {x : Bo} {n : Nat} (hn : n < x.l.length) (h : 50 < (el x.l n).s.size) : boBig x = true := by
  unfold boBig
  rw [anyN_at (fun n => decide (50 < (el x.l n).s.size)) hn (decide_eq_true h)]
  simp
theorem boBig_4 {x : Bo} (h1 : ¬ 50 < x.s.size) (h2 : ¬ 14 < x.l.length) (h3 : ∀ n, n < x.l.length → (el x.l n).s.size ≤ 50) : boBig x = false := by
  unfold boBig
  rw [decide_eq_false h1, decide_eq_false h2, (anyN_no _ _).2 fun j hj => decide_eq_false (by have := h3 j hj; omega)]
  rfl
theorem GrAny.small {w : World} {soils : List So} {AS : Option Addr} {bos : List Bo} {AB : Option Addr} (h : GrAny w soils AS bos AB) (hs : soils.length ≤ 10 ∧ bos.length ≤ 22 ∧ ∀ k, k < bos.length → (el bos k).l.length ≤ 14) : GrW w soils AS bos AB :=
  ⟨by omega, by omega, h.so, h.bo, fun k hk => ⟨(h.la k hk).1, by have := hs.2.2 k hk; omega, (h.la k hk).2.1⟩⟩
set_option maxHeartbeats 8000000 in
theorem slight_c (soils : List So) (bos : List Bo) (w : World) (AS AB : Option Addr) (cS cB : Nat) (g : GrAny w soils AS bos AB) :
    Calls Tryz.prog 5 #[.agg #[.slice AS soils.length cS, .slice AB bos.length cB]] w fun e w' => e = .returned (.bool (slB soils bos)) ∧ Ext w w' := by
  obtain ⟨E, hE0⟩ : ∃ E, slB soils bos = E := ⟨_, rfl⟩
  rw [hE0]
  have HE := Lib.hid hE0
  clear hE0
  have HSO := Lib.hid g.so
  have HBO := Lib.hid g.bo
  have HLA := Lib.hid g.la
  have hls := g.ls
  have hlb := g.lb
  unfold maxLen at hls hlb
  clear g
  by_cases h1 : (10 : Int) < (soils.length : Int)
  · have HT : Hid (false = E) := Lib.hid (by rw [← HE.out, slB_1 (by omega)])
    go_enter Tryz.func5, Tryz.ntmps5
    go_wp2
    go_ret
    exact ⟨ret_bool HT.out, by (repeat (first | with_reducible exact Ext.rfl' _ | with_reducible assumption | with_reducible refine Ext.al ?_ _ | with_reducible refine Ext.dr ?_ | with_reducible refine Ext.st ?_ (by simp) _ | with_reducible refine Ext.tr ?_ (by assumption)))⟩
  by_cases h2 : (22 : Int) < (bos.length : Int)
  · have HT : Hid (false = E) := Lib.hid (by rw [← HE.out, slB_2 (by omega)])
    go_enter Tryz.func5, Tryz.ntmps5
    go_wp2
    go_ret
    exact ⟨ret_bool HT.out, by (repeat (first | with_reducible exact Ext.rfl' _ | with_reducible assumption | with_reducible refine Ext.al ?_ _ | with_reducible refine Ext.dr ?_ | with_reducible refine Ext.st ?_ (by simp) _ | with_reducible refine Ext.tr ?_ (by assumption)))⟩
  have h1' : soils.length ≤ 10 := by omega
  have h2' : bos.length ≤ 22 := by omega
  have HM := Lib.hid (And.intro h1' h2')
  go_enter Tryz.func5, Tryz.ntmps5
  go_upto_region 4 with fail
  refine wp_name (fun W hW => ?_)
  have hEW : Ext w W := by rw [hW]; (repeat (first | with_reducible exact Ext.rfl' _ | with_reducible assumption | with_reducible refine Ext.al ?_ _ | with_reducible refine Ext.dr ?_ | with_reducible refine Ext.st ?_ (by simp) _ | with_reducible refine Ext.tr ?_ (by assumption)))
  have r0 : W.cell? ⟨w.heap.size, 0, none⟩ = some (.slice AS soils.length cS) := by rw [hW]; simp [*, go_sem]
  have r1 : W.cell? ⟨w.heap.size, 1, none⟩ = some (.slice AB bos.length cB) := by rw [hW]; simp [*, go_sem]
  have hz0 : w.heap.size < W.heap.size := by rw [hW]; simp
  clear hW
  go_loopw [3] (fun i wr => Ext W wr ∧ ∃ k : Nat, k ≤ soils.length ∧ i = .int .i64 k ∧ Hid (∀ j, j < k → (el soils j).s.size ≤ 50)) (fun i _ => soils.length - (intOf i).toNat)
  case atStart => exact ⟨Ext.rfl' _, 0, Nat.zero_le _, rfl, Lib.hid (fun j hj => absurd hj (Nat.not_lt_zero _))⟩
  case round =>
    obtain ⟨hE, k, hk, rfl, hS⟩ := hrel
    have hEr := hEW.tr hE
    have q0 := (hE.ccell _ 0 hz0).trans r0
    have q1 := (hE.ccell _ 1 hz0).trans r1
    have z0 := hE.sz _ hz0
    by_cases hlt : k < soils.length
    · obtain ⟨b, off, rfl, hb0, hcell⟩ := HSO.out.so hlt
      obtain ⟨e0, _⟩ := hcell _ hEr
      clear hcell
      obtain ⟨u, hu0⟩ : ∃ u, el soils k = u := ⟨_, rfl⟩
      rw [hu0] at e0
      have HU := Lib.hid hu0
      clear hu0
      by_cases hn : (50 : Int) < (u.s.size : Int)
      · have HT : Hid (false = E) := Lib.hid (by rw [← HE.out, slB_3 hlt (by rw [HU.out]; omega)])
        go_wp2
        go_ret
        exact ⟨ret_bool HT.out, by (repeat (first | with_reducible exact Ext.rfl' _ | with_reducible assumption | with_reducible refine Ext.al ?_ _ | with_reducible refine Ext.dr ?_ | with_reducible refine Ext.st ?_ (by simp) _ | with_reducible refine Ext.tr ?_ (by assumption)))⟩
      · have HN : Hid (∀ j, j < k + 1 → (el soils j).s.size ≤ 50) := Lib.hid (fun j hj => by
          rcases Nat.lt_or_ge j k with h | h
          · exact hS.out j h
          · have : j = k := by omega
            subst this
            rw [HU.out]
            omega)
        go_wp2
        exact ⟨⟨by (repeat (first | with_reducible exact Ext.rfl' _ | with_reducible assumption | with_reducible refine Ext.al ?_ _ | with_reducible refine Ext.dr ?_ | with_reducible refine Ext.st ?_ (by simp) _ | with_reducible refine Ext.tr ?_ (by assumption))), k + 1, by omega, by go_num, HN⟩, by simp [intOf]; omega⟩
    · clear HSO
      have HS : Hid (∀ j, j < soils.length → (el soils j).s.size ≤ 50) := Lib.hid (fun j hj => hS.out j (by omega))
      clear hS
      obtain ⟨wk, hwk⟩ : ∃ x, x = wr := ⟨_, rfl⟩
      subst hwk
      go_wp2
      go_loopw [4] (fun i wr => Ext wk wr ∧ ∃ k : Nat, k ≤ bos.length ∧ i = .int .i64 k ∧ Hid (∀ j, j < k → boBig (el bos j) = false)) (fun i _ => bos.length - (intOf i).toNat)
      case atStart => exact ⟨Ext.rfl' _, 0, Nat.zero_le _, rfl, Lib.hid (fun j hj => absurd hj (Nat.not_lt_zero _))⟩
      case round =>
        obtain ⟨hx, m, hm, rfl, hF⟩ := hrel
        have hEx := hEr.tr hx
        have p1 := (hx.ccell _ 1 z0).trans q1
        have zx := hx.sz _ z0
        by_cases hml : m < bos.length
        · obtain ⟨b, off, rfl, hb0, hcell⟩ := HBO.out.bo hml
          obtain ⟨e0, _, _, e3⟩ := hcell _ hEx
          have hzb := hEx.sz _ hb0
          obtain ⟨hL1, hL2, hL3⟩ := HLA.out m hml
          have HK := Lib.hid (show el bos m = el bos m from rfl)
          obtain ⟨x, hx0⟩ : ∃ x, el bos m = x := ⟨_, rfl⟩
          rw [hx0] at e0 e3 hL1 hL2 hL3
          have HX := Lib.hid hx0
          unfold maxLen at hL3
          clear hcell hx0 HK q0 q1 r0 r1
          by_cases hn : (50 : Int) < (x.s.size : Int)
          · have HT : Hid (false = E) := Lib.hid (by rw [← HE.out, slB_4 hml (by rw [HX.out]; exact boBig_1 (by omega))])
            go_wp2
            go_ret
            exact ⟨ret_bool HT.out, by (repeat (first | with_reducible exact Ext.rfl' _ | with_reducible assumption | with_reducible refine Ext.al ?_ _ | with_reducible refine Ext.dr ?_ | with_reducible refine Ext.st ?_ (by simp) _ | with_reducible refine Ext.tr ?_ (by assumption)))⟩
          by_cases h14 : (14 : Int) < (x.l.length : Int)
          · have HT : Hid (false = E) := Lib.hid (by rw [← HE.out, slB_4 hml (by rw [HX.out]; exact boBig_2 (by omega))])
            go_wp2
            go_ret
            exact ⟨ret_bool HT.out, by (repeat (first | with_reducible exact Ext.rfl' _ | with_reducible assumption | with_reducible refine Ext.al ?_ _ | with_reducible refine Ext.dr ?_ | with_reducible refine Ext.st ?_ (by simp) _ | with_reducible refine Ext.tr ?_ (by assumption)))⟩
          have HT : Hid ((∀ n, n < x.l.length → (el x.l n).s.size ≤ 50) → ∀ j, j < m + 1 → boBig (el bos j) = false) := Lib.hid (fun h3 j hj => by
            rcases Nat.lt_or_ge j m with h | h
            · exact hF.out j h
            · have : j = m := by omega
              subst this
              rw [HX.out]
              exact boBig_4 (by omega) (by omega) h3)
          obtain ⟨wn, hwn⟩ : ∃ x, x = wr := ⟨_, rfl⟩
          subst hwn
          have hL1 := Lib.hid hL1
          clear hF HLA
          go_wp2
          go_loopw [5] (fun i wr => Ext wn wr ∧ ∃ k : Nat, k ≤ x.l.length ∧ i = .int .i64 k ∧ Hid (∀ j, j < k → (el x.l j).s.size ≤ 50)) (fun i _ => x.l.length - (intOf i).toNat)
          case atStart => exact ⟨Ext.rfl' _, 0, Nat.zero_le _, rfl, Lib.hid (fun j hj => absurd hj (Nat.not_lt_zero _))⟩
          case round =>
            obtain ⟨hy, n, hn', rfl, hS⟩ := hrel
            have hEy := hEx.tr hy
            have p1' := (hy.ccell _ 1 zx).trans p1
            have c3 := (hy.ccell _ _ hzb).trans e3
            have hzy := hy.sz _ hzb
            have zy := hy.sz _ zx
            by_cases hnl : n < x.l.length
            · obtain ⟨b', off', hAe, hb', hc'⟩ := hL1.out.la hnl
              rw [hAe] at c3
              obtain ⟨_, c1⟩ := hc' _ hEy
              clear hc' hAe e3 p1
              obtain ⟨y, hy0⟩ : ∃ y, el x.l n = y := ⟨_, rfl⟩
              rw [hy0] at c1
              have HY := Lib.hid hy0
              clear hy0
              by_cases hny : (50 : Int) < (y.s.size : Int)
              · have HR : Hid (false = E) := Lib.hid (by rw [← HE.out, slB_4 hml (by rw [HX.out]; exact boBig_3 hnl (by rw [HY.out]; omega))])
                go_wp2
                go_ret
                exact ⟨ret_bool HR.out, by (repeat (first | with_reducible exact Ext.rfl' _ | with_reducible assumption | with_reducible refine Ext.al ?_ _ | with_reducible refine Ext.dr ?_ | with_reducible refine Ext.st ?_ (by simp) _ | with_reducible refine Ext.tr ?_ (by assumption)))⟩
              · have HN : Hid (∀ j, j < n + 1 → (el x.l j).s.size ≤ 50) := Lib.hid (fun j hj => by
                  rcases Nat.lt_or_ge j n with h | h
                  · exact hS.out j h
                  · have : j = n := by omega
                    subst this
                    rw [HY.out]
                    omega)
                go_wp2
                exact ⟨⟨by (repeat (first | with_reducible exact Ext.rfl' _ | with_reducible assumption | with_reducible refine Ext.al ?_ _ | with_reducible refine Ext.dr ?_ | with_reducible refine Ext.st ?_ (by simp) _ | with_reducible refine Ext.tr ?_ (by assumption))), n + 1, by omega, by go_num, HN⟩, by simp [intOf]; omega⟩
            · clear e3 p1
              have HT := Lib.hid (HT.out (fun j hj => hS.out j (by omega)))
              go_wp2
              exact ⟨⟨hx.tr hy, m + 1, by omega, by go_num, HT⟩, by simp [intOf]; omega⟩
        · have HT : Hid (true = E) := Lib.hid (by rw [← HE.out, slB_5 HM.out.1 HM.out.2 HS.out (fun j hj => hF.out j (by omega))])
          go_wp2
          go_ret
          exact ⟨ret_bool HT.out, by (repeat (first | with_reducible exact Ext.rfl' _ | with_reducible assumption | with_reducible refine Ext.al ?_ _ | with_reducible refine Ext.dr ?_ | with_reducible refine Ext.st ?_ (by simp) _ | with_reducible refine Ext.tr ?_ (by assumption)))⟩
end Go.Proofs.YtdbabihjnhnnfaaGreat
