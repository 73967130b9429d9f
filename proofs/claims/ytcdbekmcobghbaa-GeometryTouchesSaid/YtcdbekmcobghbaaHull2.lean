/- Contracts of the functions on hulls: the whole hull. -/
import Derived.Test.YtcdbekmcobghbaaHull
namespace Go.Proofs.Ytcdbekmcobghbaa
open Go Go.RowKit Go.Sort Go.Shelf

theorem compact_c (l : List Pt) (w : World) (A : Option Addr) (c : Nat) (hl : l.length ≤ 1000) (hA : Row 2 encP w A l) (hd : ∀ k (h : k + 1 < l.length), l[k] ≠ l[k + 1]) :
    Calls Try.prog 122 #[.slice A l.length c] w
      fun e w' => e = .returned (.slice A l.length c) ∧ Ext w w' := by
  go_enter Try.func122, Try.ntmps122
  have HD := Lib.hid hd
  clear hd
  by_cases h2 : l.length < 2
  · have h2' : (l.length : Int) < 2 := by omega
    go_wp2
    go_ret
    exact ⟨rfl, Ext.rfl' _⟩
  have h2' : (2 : Int) ≤ (l.length : Int) := by omega
  go_wp2
  go_loopw [3] (fun i wr => Ext w wr ∧ ∃ k : Nat, k + 1 ≤ l.length ∧ i = .int .i64 ((k : Int) + 1)) (fun i _ => l.length - (intOf i).toNat)
  case atStart => exact ⟨Ext.rfl' _, 0, by omega, rfl⟩
  case round =>
    obtain ⟨hE, k, hk, rfl⟩ := hrel
    by_cases hlt : k + 1 < l.length
    · obtain ⟨b, off, rfl, hb0, hcell⟩ := hA.p2 hlt
      obtain ⟨b', off', hbb, _, hcell'⟩ := hA.p2 (k := k) (by omega)
      injection hbb with hbb
      injection hbb with hb1 hb2
      subst hb1 hb2
      have c := hcell _ hE
      have c' := hcell' _ hE
      have hz := hE.sz _ hb0
      clear hcell hcell'
      have hne : ¬ (l[k + 1].x = l[k].x ∧ l[k + 1].y = l[k].y) := by
        intro h
        refine HD.out k hlt ?_
        generalize l[k] = p at *
        generalize l[k + 1] = q at *
        cases p; cases q; simp at h ⊢; omega
      by_cases hx : l[k + 1].x = l[k].x
      · have hy : ¬ l[k + 1].y = l[k].y := fun h => hne ⟨hx, h⟩
        clear hne
        go_wp2_with fail
        refine region_grow (by kernel_rfl) (by kernel_rfl) ?_
        repeat (first | go_big_quiet_step (first  | fail) | quiet_step (first  | fail))
        refine wpQuiet_nil ?_
        intro w1 hb
        have hc := hb.ccell
        have hf := hb.frz
        have hs := hb.sz
        (try simp at hs); (try have hs0 := hs w.heap.size (by omega)); (try have hs1 := hs (w.heap.size + 1) (by omega)); (try have hs2 := hs (w.heap.size + 1 + 1) (by omega)); (try have hs3 := hs (w.heap.size + 1 + 1 + 1) (by omega))
        (try simp only [IntWalk.i64_left])
        go_wp2
        exact ⟨⟨by (repeat (first | with_reducible exact Ext.rfl' _ | with_reducible assumption | with_reducible refine Ext.al ?_ _ | with_reducible refine Ext.dr ?_ | with_reducible refine Ext.st ?_ (by simp) _ | with_reducible refine Ext.tr ?_ (by assumption))), k + 1, by omega, by simp⟩, by simp [intOf]; omega⟩
      · clear hne
        go_wp2_with fail
        refine region_grow (by kernel_rfl) (by kernel_rfl) ?_
        repeat (first | go_big_quiet_step (first  | fail) | quiet_step (first  | fail))
        refine wpQuiet_nil ?_
        intro w1 hb
        have hc := hb.ccell
        have hf := hb.frz
        have hs := hb.sz
        (try simp at hs); (try have hs0 := hs w.heap.size (by omega)); (try have hs1 := hs (w.heap.size + 1) (by omega)); (try have hs2 := hs (w.heap.size + 1 + 1) (by omega)); (try have hs3 := hs (w.heap.size + 1 + 1 + 1) (by omega))
        (try simp only [IntWalk.i64_left])
        go_wp2
        exact ⟨⟨by (repeat (first | with_reducible exact Ext.rfl' _ | with_reducible assumption | with_reducible refine Ext.al ?_ _ | with_reducible refine Ext.dr ?_ | with_reducible refine Ext.st ?_ (by simp) _ | with_reducible refine Ext.tr ?_ (by assumption))), k + 1, by omega, by simp⟩, by simp [intOf]; omega⟩
    · go_wp2
      go_ret
      exact ⟨rfl, hE⟩


def RowV (w : World) (v : Value) (l : List Pt) : Prop := ∃ A c, v = .slice A l.length c ∧ Row 2 encP w A l
theorem rowV_of_own {w : World} {B n : Nat} {v : Value} {l : List Pt} {xs : List Value} (h : w.ownsRow B 23 2 v n xs) (hx : xs = l.flatMap encP) (hn : n = l.length) : RowV w v l := by
  subst hx hn
  rcases h.2 with ⟨rfl, h0⟩ | ⟨g, cap, cur, rfl, _⟩
  · have : l = [] := List.eq_nil_of_length_eq_zero h0
    subst this
    exact ⟨none, 0, rfl, .inl rfl⟩
  · exact ⟨_, _, rfl, (Own.of_row h).1.row⟩
theorem sortL_len (l : List Pt) : (sortL l).length = l.length := by simp [sortL]
theorem sortL_adj (l : List Pt) (hd : l.Nodup) : ∀ k (h : k + 1 < (sortL l).length), (sortL l)[k] ≠ (sortL l)[k + 1] := by
  intro k h
  have hn : (sortL l).Nodup := (List.mergeSort_perm l _).nodup_iff.2 hd
  rw [List.nodup_iff_pairwise_ne, List.pairwise_iff_getElem] at hn
  exact hn k (k + 1) (by omega) h (by omega)

set_option maxRecDepth 100000 in
set_option maxHeartbeats 1000000 in
theorem hull_c (l : List Pt) (w : World) (b off : Nat) (c : Nat) (hl : l.length ≤ 64) (h0 : 0 < l.length) (hA : Row 2 encP w (some ⟨b, off, none⟩) l) (hd : l.Nodup) :
    Calls Try.prog 96 #[.slice (some ⟨b, off, none⟩) l.length c] w
      fun e w' => ∃ v, e = .returned v ∧ RowV w' v (hullS (sortL l)) ∧ Ext w w' := by
  have hs := Lib.hid (sortL_len l)
  have hadj := Lib.hid (sortL_adj l hd)
  clear hd
  go_enter Try.func96, Try.ntmps96
  go_wp2_with fail
  refine Calls.mono (clone_c w b off c l (small_len (by omega)) (by omega) hA h0) ?_
  rintro e w1 ⟨g, cap, rfl, hO, hg, hE⟩
  go_wp2_with fail
  refine Calls.mono (sort_c w1 g cap l hO (by omega)) ?_
  rintro e w2 ⟨rfl, hO2, hT2⟩
  have hE2 : Ext w w2 := hT2.ext hE hg
  clear hO
  go_wp2_with fail
  rw [← hs.out]
  refine Calls.mono (compact_c (sortL l) w2 _ cap (by have := hs.out; omega) hO2.row hadj.out) ?_
  rintro e w3 ⟨rfl, hE3⟩
  have hO3 := hO2.ext hE3
  clear hadj hO2 hT2
  have hlen : (sortL l).length ≤ 64 := by have := hs.out; omega
  clear hs
  generalize hgs : sortL l = s at hlen hO3 ⊢
  have HGS := Lib.hid hgs
  clear hgs
  by_cases h2 : s.length < 2
  · have h2' : (s.length : Int) < 2 := by omega
    go_wp2
    go_ret
    have e : hullS s = s := by unfold hullS; rw [if_pos h2]
    rw [HGS.out, e]
    exact ⟨_, rfl, ⟨_, _, rfl, hO3.row⟩, by (repeat (first | with_reducible exact Ext.rfl' _ | with_reducible assumption | with_reducible refine Ext.al ?_ _ | with_reducible refine Ext.dr ?_ | with_reducible refine Ext.st ?_ (by simp) _ | with_reducible refine Ext.tr ?_ (by assumption)))⟩
  · have h2' : (2 : Int) ≤ (s.length : Int) := by omega
    go_wp2_with fail
    refine Calls.mono (chain_c s w3 _ cap (by omega) hO3.row) ?_
    rintro e w4 ⟨v1, rfl, hC1, hE4⟩
    have hO4 := hO3.ext hE4
    obtain ⟨g1, cap1, rfl, hg1, hP1⟩ := hC1.own (chainR_pos s (by omega))
    have hg1' := hP1.lt
    have hg1w : w.heap.size ≤ g1 := by have := Below.size (show Ext w w3 from by (repeat (first | with_reducible exact Ext.rfl' _ | with_reducible assumption | with_reducible refine Ext.al ?_ _ | with_reducible refine Ext.dr ?_ | with_reducible refine Ext.st ?_ (by simp) _ | with_reducible refine Ext.tr ?_ (by assumption)))); omega
    go_wp2_with fail
    refine Calls.mono (reverse_c w4 g cap s hO4) ?_
    rintro e w5 ⟨rfl, hO5, hT5⟩
    have hE04 : Ext w w4 := by (repeat (first | with_reducible exact Ext.rfl' _ | with_reducible assumption | with_reducible refine Ext.al ?_ _ | with_reducible refine Ext.dr ?_ | with_reducible refine Ext.st ?_ (by simp) _ | with_reducible refine Ext.tr ?_ (by assumption)))
    have hE5 : Ext w w5 := hT5.ext hE04 hg
    have hgne : g1 ≠ g := by have := hO3.lt; omega
    have hP5 := hT5.own hgne hP1
    have hlr : s.reverse.length = s.length := by simp
    have HLR := Lib.hid hlr
    clear hlr
    go_wp2_with fail
    rw [← HLR.out]
    refine Calls.mono (chain_c s.reverse w5 _ cap (by rw [HLR.out]; omega) hO5.row) ?_
    rintro e w6 ⟨v2, rfl, hC2, hE6⟩
    obtain ⟨g2, cap2, rfl, hg2, hP2⟩ := hC2.own (chainR_pos s.reverse (by rw [HLR.out]; omega))
    have hP6 := hP5.ext hE6
    have q1 := chainR_pos s (by omega)
    have q2 := chainR_pos s.reverse (by rw [HLR.out]; omega)
    have hfin : Hid (hullS s = (chainR s).reverse.dropLast ++ (chainR s.reverse).reverse.dropLast) := by
      show hullS s = _
      unfold hullS chainL
      rw [if_neg h2]
    have hc1 := hP6.cap_le
    have hc2 := hP2.cap_le
    rw [List.length_reverse] at hc1 hc2
    have q3 := chainR_len s
    have q4 := chainR_len s.reverse
    rw [HLR.out] at q4
    have E16 : Ext w w6 := hE5.tr hE6
    clear hP1 hP5 hO5 hO4 hO3 hT5 hC1 hC2 hE hE2 hE3 hE4 hE04 HLR
    generalize chainR s = t1 at hfin hP6 q1 q3 hc1 ⊢
    generalize chainR s.reverse = t2 at hfin hP2 q2 q4 hc2 ⊢
    obtain ⟨x1, r1, rfl⟩ : ∃ x r, t1 = x :: r := by cases t1 with | nil => simp at q1 | cons x r => exact ⟨x, r, rfl⟩
    obtain ⟨x2, r2, rfl⟩ : ∃ x r, t2 = x :: r := by cases t2 with | nil => simp at q2 | cons x r => exact ⟨x, r, rfl⟩
    simp only [List.length_cons] at q3 q4 hc1 hc2 ⊢
    generalize hm1 : r1.length = m1 at q3 hc1 ⊢
    generalize hm2 : r2.length = m2 at q4 hc2 ⊢
    have HM1 := Lib.hid hm1
    have HM2 := Lib.hid hm2
    clear hm1 hm2 q1 q2
    have k1 : m1 + 1 ≤ cap1 := hc1.1
    have k2 : m2 + 1 ≤ cap2 := hc2.1
    have k3 : m1 ≤ 64 := by omega
    have k4 : m2 ≤ 64 := by omega
    clear hc1 hc2
    go_wp2_with fail
    have j1 : IntKind.i64.wrap (m1 : Int) = m1 := IntWalk.i64_in _ (by omega)
    have j2 : IntKind.i64.wrap (m2 : Int) = m2 := IntWalk.i64_in _ (by omega)
    have j3 : (m1 : Int) ≤ (cap1 : Int) := by omega
    have j4 : (m2 : Int) ≤ (cap2 : Int) := by omega
    have j5 : m1 ≤ cap1 := by omega
    have j6 : m2 ≤ cap2 := by omega
    have hp1 : Own w6 g1 cap1 r1.reverse := Own.pop (x := x1) (by simpa using hP6)
    have hp2 : Own w6 g2 cap2 r2.reverse := Own.pop (x := x2) (by simpa using hP2)
    have hrow : Hid (w6.drew.ownsRow w.heap.size 23 2 (.slice (some ⟨g1, 0, none⟩) m1 cap1) m1 (r1.reverse.flatMap encP)) := by
      have := (hp1.ext (Ext.dr (Ext.rfl' w6))).to_row (base := w.heap.size) hg1w
      rw [List.length_reverse, HM1.out] at this
      exact this
    have hp2' := Lib.hid (hp2.ext (Ext.dr (Ext.rfl' w6)))
    have E17 := Ext.dr E16
    have hg1n := hP6.lt
    go_still_tail 10, (by kernel_rfl)
    change wpList _ _ _ _ _ w6.drew
    generalize w6.drew = w7 at hrow hp2' E17 ⊢
    have hsz7 := E17.size
    obtain ⟨i0, hi, hz0, hz1, hz2⟩ := info_parts infoP
    go_wp2_with (first | (at_builtin; refine wpList_append_own _ rfl _ _ 37 rfl w.heap.size 23 i0 _ 2 16 Try.underlying37 hi hz0 hz1 hz2 rfl (by decide) _ _ _ rfl hrow.out ⟨g2, 0, none⟩ m2 cap2 (r2.reverse.flatMap encP) rfl ?c0 ?c1 ?c2 ?c3 ?c4 ?c5 ?_))
    case c0 => rw [flat_len, List.length_reverse, HM2.out]
    case c1 => intro j u hu; rw [Addr.add_lit, Nat.zero_add]; exact hp2'.out.cells j u hu
    case c2 => exact encP_all _
    case c3 => unfold maxLen; omega
    case c4 => omega
    case c5 => exact hsz7
    intro v' w8 hown8 hgrow8 _
    clear hi hz0 hz1 hz2
    have hE8 : Ext w w8 := Below.grown (show Below w.heap.size w w7 from E17) hgrow8 hsz7 (by intro q hq; simp [Value.ownBlock] at hq; omega)
    go_wp2
    go_ret
    refine ⟨_, rfl, ?_, hE8⟩
    rw [HGS.out, hfin.out]
    refine rowV_of_own hown8 (by simp) (by have := HM1.out; have := HM2.out; simp; omega)

end Go.Proofs.Ytcdbekmcobghbaa
