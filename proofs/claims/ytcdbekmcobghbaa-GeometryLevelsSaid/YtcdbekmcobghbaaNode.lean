/- The contract of checkNodes. -/
import Derived.Test.YtcdbekmcobghbaaLoc
import Derived.OwnWalk
namespace Go.Proofs.Ytcdbekmcobghbaa
open Go Go.RowKit Go.IntWalk Go.Sort Go.Shelf

def ptN (n : I3) : Pt := ⟨n.1, n.2.1⟩
def goodN (n : I3) : Bool := good (ptN n) && withinB n.2.2 (-20000) 20000
def psN (ns : List I3) : List Pt := ns.map ptN
theorem psN_len (ns : List I3) : (psN ns).length = ns.length := by simp [psN]
def nodesE (ns : List I3) (t : I3) : Int := if 64 < ns.length then 8 else if !ns.all goodN then 2 else if !hasL (psN ns) t then 6 else if crI (psN ns) t = 0 then 10 else 0
theorem nodesE_zero {ns : List I3} {t : I3} (h : nodesE ns t = 0) : ns.length ≤ 64 ∧ ns.all goodN = true ∧ hasL (psN ns) t = true ∧ crI (psN ns) t ≠ 0 := by
  unfold nodesE at h
  by_cases h1 : 64 < ns.length
  · rw [if_pos h1] at h; omega
  rw [if_neg h1] at h
  cases h2 : ns.all goodN
  · rw [h2] at h; simp at h
  rw [h2] at h
  cases h3 : hasL (psN ns) t
  · rw [h3] at h; simp at h
  rw [h3] at h
  by_cases h4 : crI (psN ns) t = 0
  · simp [h4] at h
  · exact ⟨by omega, rfl, rfl, h4⟩

/-- The world of checkNodes' loop: what was there, the triangle, a blank result. -/
structure NodeW (w wr : World) (a b c : Int) : Prop where
  ext : Ext w wr
  sz : w.heap.size + 1 < wr.heap.size
  t0 : wr.cell? ⟨w.heap.size, 0, none⟩ = some (.int .i64 a)
  t1 : wr.cell? ⟨w.heap.size, 1, none⟩ = some (.int .i64 b)
  t2 : wr.cell? ⟨w.heap.size, 2, none⟩ = some (.int .i64 c)
  out : Six wr (w.heap.size + 1) ⟨0, 0⟩ ⟨0, 0⟩ ⟨0, 0⟩
  fz : NoFreeze wr (w.heap.size + 1)
theorem NodeW.below {w wr wr' : World} {a b c : Int} (h : NodeW w wr a b c) (k : Below (w.heap.size + 2) wr wr') : NodeW w wr' a b c := by
  have hc : ∀ b o, b < w.heap.size + 2 → wr'.cell? ⟨b, o, none⟩ = wr.cell? ⟨b, o, none⟩ := fun b o hb => Below.cell (p := ⟨b, o, none⟩) k hb
  have hf : ∀ b o, b < w.heap.size + 2 → wr'.frozen? ⟨b, o, none⟩ = wr.frozen? ⟨b, o, none⟩ := fun b o hb => Below.frozen (p := ⟨b, o, none⟩) k hb
  obtain ⟨h1, h2, h3, h4, h5, ⟨o0, o1, o2, o3, o4, o5⟩, h7⟩ := h
  refine ⟨Below.trans h1 (Below.mono k (by omega)), Nat.lt_of_lt_of_le h2 k.size, ?_, ?_, ?_, ⟨?_, ?_, ?_, ?_, ?_, ?_⟩, fun j => ?_⟩
  all_goals first | (rw [hc _ _ (by omega)]; assumption) | (rw [hf _ _ (by omega)]; exact h7 j)
theorem NodeW.grow {w wr wr' : World} {a b c : Int} (h : NodeW w wr a b c) (k : Ext wr wr') : NodeW w wr' a b c := h.below (Below.mono k (by have := h.sz; omega))
def st6 (w : World) (b : Nat) (x0 x1 x2 x3 x4 x5 : Int) : World :=
  (((((w.setCell ⟨b, 0, none⟩ (.int .i64 x0)).setCell ⟨b, 1, none⟩ (.int .i64 x1)).setCell ⟨b, 2, none⟩ (.int .i64 x2)).setCell ⟨b, 3, none⟩ (.int .i64 x3)).setCell ⟨b, 4, none⟩ (.int .i64 x4)).setCell ⟨b, 5, none⟩ (.int .i64 x5)
theorem Six.store {w : World} {b : Nat} {p q r : Pt} (h : Six w b p q r) (x0 x1 x2 x3 x4 x5 : Int) : Six (st6 w b x0 x1 x2 x3 x4 x5) b ⟨x0, x1⟩ ⟨x2, x3⟩ ⟨x4, x5⟩ := by
  obtain ⟨o0, o1, o2, o3, o4, o5⟩ := h
  unfold st6
  refine ⟨?_, ?_, ?_, ?_, ?_, ?_⟩ <;> simp [go_sem, o0, o1, o2, o3, o4, o5]
theorem Ext.store6 {w wr : World} {b : Nat} (h : Ext w wr) (hb : w.heap.size ≤ b) (x0 x1 x2 x3 x4 x5 : Int) : Ext w (st6 wr b x0 x1 x2 x3 x4 x5) :=
  Ext.st (Ext.st (Ext.st (Ext.st (Ext.st (Ext.st h hb _) hb _) hb _) hb _) hb _) hb _
theorem Six.alloc {w : World} {b : Nat} {p q r : Pt} (h : Six w b p q r) (hb : b < w.heap.size) (o : Obj) : Six (w.alloc o) b p q r := by
  have hc : ∀ j, (w.alloc o).cell? ⟨b, j, none⟩ = w.cell? ⟨b, j, none⟩ := fun j => (Ext.al (Ext.rfl' w) o).ccell b j hb
  obtain ⟨o0, o1, o2, o3, o4, o5⟩ := h
  refine ⟨?_, ?_, ?_, ?_, ?_, ?_⟩ <;> (rw [hc]; assumption)
theorem st6_size (w : World) (b : Nat) (x0 x1 x2 x3 x4 x5 : Int) : (st6 w b x0 x1 x2 x3 x4 x5).heap.size = w.heap.size := by unfold st6; simp
def PtsOwn (B : Nat) (v : Value) (l : List Pt) (w : World) : Prop := w.ownsRow B 23 2 v l.length (l.flatMap encP)
theorem PtsOwn.row {B : Nat} {v : Value} {l : List Pt} {w : World} (h : PtsOwn B v l w) : ∃ A c, v = .slice A l.length c ∧ Row 2 encP w A l := by
  rcases h.2 with ⟨hv, h0⟩ | ⟨g, cap, cur, hv, hb, h1, h3, h4, h2, h5⟩
  · exact ⟨none, 0, by rw [hv, h0], .inl (List.length_eq_zero_iff.1 h0)⟩
  · exact ⟨_, _, hv, Own.row (cap := cap) ⟨cur, h1, h2, h3, h4, h5⟩⟩

set_option maxRecDepth 100000 in
set_option maxHeartbeats 4000000 in
theorem checkNodes_large (ns : List I3) (a b c : Int) (w : World) (A : Option Addr) (cA : Nat) (hl : ns.length ≤ maxLen) (h : 64 < ns.length) :
    Calls Try.prog 106 #[.slice A ns.length cA, .agg #[.int .i64 a, .int .i64 b, .int .i64 c]] w
      fun e w' => e = .returned (.tuple #[.agg #[.int .i64 0, .int .i64 0, .int .i64 0, .int .i64 0, .int .i64 0, .int .i64 0], .int .i64 8]) ∧ Ext w w' := by
  unfold maxLen at hl
  have h' : (64 : Int) < (ns.length : Int) := by omega
  go_enter Try.func106, Try.ntmps106
  go_wp2
  obtain ⟨W, hW⟩ : ∃ W, W = (w.alloc (.cells #[.int .i64 a, .int .i64 b, .int .i64 c] 68)).alloc (.cells #[.int .i64 0, .int .i64 0, .int .i64 0, .int .i64 0, .int .i64 0, .int .i64 0] 98) := ⟨_, rfl⟩
  rw [← hW]
  have hE : Ext w W := by rw [hW]; (repeat (first | with_reducible exact Ext.rfl' _ | with_reducible assumption | with_reducible refine Ext.al ?_ _ | with_reducible refine Ext.dr ?_ | with_reducible refine Ext.st ?_ (by simp) _ | with_reducible refine Ext.tr ?_ (by assumption)))
  have hs : Six W (w.heap.size + 1) ⟨0, 0⟩ ⟨0, 0⟩ ⟨0, 0⟩ := by subst hW; refine ⟨?_, ?_, ?_, ?_, ?_, ?_⟩ <;> simp [World.cell?_alloc_past, World.cell?_alloc_new, go_sem]
  obtain ⟨o0, o1, o2, o3, o4, o5⟩ := hs
  clear hW
  exact bodyPost_ret (v := .tuple #[.agg #[.int .i64 0, .int .i64 0, .int .i64 0, .int .i64 0, .int .i64 0, .int .i64 0], .int .i64 8]) (by simp [results, Try.results106, go_sem, o0, o1, o2, o3, o4, o5]) rfl ⟨rfl, hE⟩

def NodesOut (ns : List I3) (t : I3) (w : World) (e : Ending) (w' : World) : Prop :=
  Ext w w' ∧ ((nodesE ns t = 0 ∧ e = .returned (.tuple #[.agg #[.int .i64 (atI (psN ns) t.1).x, .int .i64 (atI (psN ns) t.1).y, .int .i64 (atI (psN ns) t.2.1).x, .int .i64 (atI (psN ns) t.2.1).y, .int .i64 (atI (psN ns) t.2.2).x, .int .i64 (atI (psN ns) t.2.2).y], .int .i64 0])) ∨
    (∃ r, nodesE ns t = r ∧ r ≠ 0 ∧ e = .returned (.tuple #[.agg #[.int .i64 0, .int .i64 0, .int .i64 0, .int .i64 0, .int .i64 0, .int .i64 0], .int .i64 r])))
theorem nodesE_mid {ns : List I3} {t : I3} (h : ¬ 64 < ns.length) : nodesE ns t = if !ns.all goodN then 2 else if !hasL (psN ns) t then 6 else if crI (psN ns) t = 0 then 10 else 0 := by unfold nodesE; rw [if_neg h]

set_option maxRecDepth 100000 in
set_option maxHeartbeats 4000000 in
theorem checkNodes_mid (ns : List I3) (a b c : Int) (w : World) (A : Option Addr) (cA : Nat) (h64 : ¬ 64 < ns.length) (hA : Row 3 encI w A ns) :
    Calls Try.prog 106 #[.slice A ns.length cA, .agg #[.int .i64 a, .int .i64 b, .int .i64 c]] w (NodesOut ns (a, b, c) w) := by
  have h' : (ns.length : Int) ≤ 64 := by omega
  obtain ⟨i0, hi, hz0, hz1, hz2⟩ := info_parts infoP
  go_enter Try.func106, Try.ntmps106
  go_wp2_with (first | (refine wpList_make_own _ rfl _ _ 37 rfl (w.heap.size + 2) 23 i0 _ 2 Try.underlying37 hi hz0 hz1 .i64 .i64 _ ns.length rfl rfl rfl ?c1 ?c2 ?c3 ?_))
  case c1 => rw [hz2]; omega
  case c2 => unfold maxLen; omega
  case c3 => simp
  intro w1 hown hgrow
  have hE1 := Below.grown (Ext.rfl' _) hgrow (Nat.le_refl _) (by intro q hq; cases hq)
  have hN : NodeW w w1 a b c := by
    refine NodeW.grow (wr := _) ?_ hE1
    refine ⟨by (repeat (first | with_reducible exact Ext.rfl' _ | with_reducible assumption | with_reducible refine Ext.al ?_ _ | with_reducible refine Ext.dr ?_ | with_reducible refine Ext.st ?_ (by simp) _ | with_reducible refine Ext.tr ?_ (by assumption))), by simp, ?_, ?_, ?_, ⟨?_, ?_, ?_, ?_, ?_, ?_⟩, fun j => ?_⟩ <;> simp [World.cell?_alloc_past, World.cell?_alloc_new, go_sem]
  clear hE1 hgrow
  have HN0 := Lib.hid hN
  have HOW := Lib.hid hown
  clear hN hown hi hz0 hz1 hz2
  go_wp2
  go_loopw [6, 8, 9, 21] (fun v _ _ i wr => NodeW w wr a b c ∧ ∃ k : Nat, k ≤ ns.length ∧ i = .int .i64 k ∧ Hid ((ns.take k).all goodN = true) ∧ Hid (PtsOwn (w.heap.size + 2) v (psN (ns.take k)) wr)) (fun _ _ _ i _ => ns.length - (intOf i).toNat)
  case atStart => exact ⟨HN0.out, 0, Nat.zero_le _, rfl, by simp [Hid], HOW.out⟩
  case round =>
    obtain ⟨hNr, k, hk, rfl, hK, HO⟩ := hrel
    have HNr := Lib.hid hNr
    have hEr := hNr.ext
    have hszr := hNr.sz
    clear hNr HOW HN0
    by_cases hlt : k < ns.length
    · obtain ⟨b0, off, rfl, hb0, hcell⟩ := hA.p3 hlt
      have cc := hcell _ hEr
      clear hcell
      have hz := hEr.sz _ hb0
      have hgd : goodN ns[k] = (good ⟨ns[k].1, ns[k].2.1⟩ && withinB ns[k].2.2 (-20000) 20000) := rfl
      cases hg : good ⟨ns[k].1, ns[k].2.1⟩
      · have HG := Lib.hid hg
        rw [hg, Bool.false_and] at hgd
        have HB := Lib.hid hgd
        clear hg hgd
        go_wp2_with (first | (go_at_call 73; refine Calls.mono (inRange1_c _ _ _ HG.out _ _ _ _ ?_) ?_; (focus simp); rintro e w2 ⟨rfl, hb⟩; have hE5 : Ext wr w2 := (by (repeat (first | with_reducible exact Ext.rfl' _ | with_reducible assumption | with_reducible refine Ext.al ?_ _ | with_reducible refine Ext.dr ?_ | with_reducible refine Ext.st ?_ (by simp) _ | with_reducible refine Ext.tr ?_ (by assumption)))); have hc := hb.ccell; have hf := hb.frz; have hs := hb.sz; (try simp at hs); have t0 := hs wr.heap.size (by omega); have t1 := hs (wr.heap.size + 1) (by omega); have hN2 := HNr.out.grow hE5; obtain ⟨hE2, hzw2, q0, q1, q2, ⟨o0, o1, o2, o3, o4, o5⟩, f1⟩ := hN2; simp only [NoFreeze] at f1))
        have hS6 := Six.store (w := w2) (b := w.heap.size + 1) (show Six w2 (w.heap.size + 1) ⟨0, 0⟩ ⟨0, 0⟩ ⟨0, 0⟩ from ⟨o0, o1, o2, o3, o4, o5⟩) (0) (0) (0) (0) (0) (0)
        have hX6 := Ext.store6 (b := w.heap.size + 1) hE2 (by omega) (0) (0) (0) (0) (0) (0)
        show bodyPost _ _ _ _ _ (st6 w2 (w.heap.size + 1) (0) (0) (0) (0) (0) (0))
        generalize st6 w2 (w.heap.size + 1) (0) (0) (0) (0) (0) (0) = W6 at hS6 hX6 ⊢
        obtain ⟨s0, s1, s2, s3, s4, s5⟩ := hS6
        refine bodyPost_ret (v := .tuple #[.agg #[.int .i64 (0), .int .i64 (0), .int .i64 (0), .int .i64 (0), .int .i64 (0), .int .i64 (0)], .int .i64 2]) (by simp [results, Try.results106, go_sem, s0, s1, s2, s3, s4, s5]) rfl ⟨hX6, .inr ⟨2, by rw [nodesE_mid h64, all_false _ _ k hlt HB.out]; rfl, by omega, rfl⟩⟩
      cases hg2 : withinB ns[k].2.2 (-20000) 20000
      · have HG := Lib.hid hg
        rw [hg, hg2, Bool.and_false] at hgd
        have HB := Lib.hid hgd
        have HG2 := Lib.hid hg2
        clear hg hgd
        go_wp2_with (first | (go_at_call 73; refine Calls.mono (inRange1_c _ _ _ HG.out _ _ _ _ ?_) ?_; (focus simp); rintro e w2 ⟨rfl, hb⟩; have hE5 : Ext wr w2 := (by (repeat (first | with_reducible exact Ext.rfl' _ | with_reducible assumption | with_reducible refine Ext.al ?_ _ | with_reducible refine Ext.dr ?_ | with_reducible refine Ext.st ?_ (by simp) _ | with_reducible refine Ext.tr ?_ (by assumption)))); have hc := hb.ccell; have hf := hb.frz; have hs := hb.sz; (try simp at hs); have t0 := hs wr.heap.size (by omega); have t1 := hs (wr.heap.size + 1) (by omega); have hN2 := HNr.out.grow hE5; obtain ⟨hE2, hzw2, q0, q1, q2, ⟨o0, o1, o2, o3, o4, o5⟩, f1⟩ := hN2; simp only [NoFreeze] at f1) | (go_at_call 108; refine Calls.mono (within2_c _ _ _ (by omega) (by omega)) ?_; rintro e w' ⟨rfl, rfl⟩))
        have hS6 := Six.store (w := w2) (b := w.heap.size + 1) (show Six w2 (w.heap.size + 1) ⟨0, 0⟩ ⟨0, 0⟩ ⟨0, 0⟩ from ⟨o0, o1, o2, o3, o4, o5⟩) (0) (0) (0) (0) (0) (0)
        have hX6 := Ext.store6 (b := w.heap.size + 1) hE2 (by omega) (0) (0) (0) (0) (0) (0)
        show bodyPost _ _ _ _ _ (st6 w2 (w.heap.size + 1) (0) (0) (0) (0) (0) (0))
        generalize st6 w2 (w.heap.size + 1) (0) (0) (0) (0) (0) (0) = W6 at hS6 hX6 ⊢
        obtain ⟨s0, s1, s2, s3, s4, s5⟩ := hS6
        refine bodyPost_ret (v := .tuple #[.agg #[.int .i64 (0), .int .i64 (0), .int .i64 (0), .int .i64 (0), .int .i64 (0), .int .i64 (0)], .int .i64 2]) (by simp [results, Try.results106, go_sem, s0, s1, s2, s3, s4, s5]) rfl ⟨hX6, .inr ⟨2, by rw [nodesE_mid h64, all_false _ _ k hlt HB.out]; rfl, by omega, rfl⟩⟩
      · have HG := Lib.hid hg
        rw [hg, hg2, Bool.and_self] at hgd
        have HB := Lib.hid hgd
        have HG2 := Lib.hid hg2
        clear hg hgd
        have hlen : (psN (ns.take k)).length = k := by rw [psN_len, List.length_take]; omega
        have hO' := HO.out
        unfold PtsOwn at hO'
        rw [hlen] at hO'
        have HO' := Lib.hid hO'
        clear hO'
        have HLEN := Lib.hid hlen
        clear hlen
        obtain ⟨i0, hi, hz0, hz1, hz2⟩ := info_parts infoP
        go_wp2_with (first | (go_at_call 73; refine Calls.mono (inRange1_c _ _ _ HG.out _ _ _ _ ?_) ?_; (focus simp); rintro e w2 ⟨rfl, hb⟩; have hE5 : Ext wr w2 := (by (repeat (first | with_reducible exact Ext.rfl' _ | with_reducible assumption | with_reducible refine Ext.al ?_ _ | with_reducible refine Ext.dr ?_ | with_reducible refine Ext.st ?_ (by simp) _ | with_reducible refine Ext.tr ?_ (by assumption)))); have hc := hb.ccell; have hf := hb.frz; have hs := hb.sz; (try simp at hs); have t0 := hs wr.heap.size (by omega); have t1 := hs (wr.heap.size + 1) (by omega); have hN2 := HNr.out.grow hE5; obtain ⟨hE2, hzw2, q0, q1, q2, ⟨o0, o1, o2, o3, o4, o5⟩, f1⟩ := hN2; simp only [NoFreeze] at f1) | (go_at_call 108; refine Calls.mono (within2_c _ _ _ (by omega) (by omega)) ?_; rintro e w' ⟨rfl, rfl⟩) | (at_builtin; refine wpList_append_own _ rfl _ _ 37 rfl (w.heap.size + 2) 23 i0 _ 2 16 Try.underlying37 hi hz0 hz1 hz2 rfl (by decide) _ _ _ rfl ((ownsRow_ext HO'.out hE5).alloc _) ⟨_, 0, none⟩ 1 1 [.int .i64 ns[k].1, .int .i64 ns[k].2.1] rfl rfl ?c1 ?c2 ?c3 ?c4 ?c5 ?_))
        case c1 => exact two_new _ _ _ _
        case c2 => intro u hu; simp at hu; rcases hu with rfl | rfl <;> rfl
        case c3 => unfold maxLen; omega
        case c4 => omega
        case c5 => simp; omega
        intro v' w3 hown2 hgrow2 _
        have hlt2 := World.ownsRow.lt HO'.out
        have hE4 : Below (w.heap.size + 2) wr w3 := Below.grown (show Below (w.heap.size + 2) wr (w2.alloc _) from Below.mono (Ext.al hE5 _) (by omega)) hgrow2 (by simp; omega) (by intro q hq; exact (hlt2 q hq).1)
        have hN3 := HNr.out.below hE4
        clear hc hf hs hb hi hz0 hz1 hz2 hgrow2 hlt2 hE4
        have HW := Lib.hid hown2
        clear hown2
        go_wp2
        refine ⟨⟨hN3, k + 1, by omega, by go_num, all_take_succ _ _ k hlt hK.out HB.out, ?_⟩, by simp [intOf]; omega⟩
        have e1 : psN (ns.take (k + 1)) = psN (ns.take k) ++ [⟨ns[k].1, ns[k].2.1⟩] := by
          unfold psN; rw [List.take_succ_eq_append_getElem hlt, List.map_append]; rfl
        show PtsOwn _ _ _ _
        unfold PtsOwn
        rw [e1, List.length_append, HLEN.out, List.flatMap_append]
        exact HW.out
    · have e : ns.take k = ns := List.take_of_length_le (by omega)
      have HALL := Lib.hid (take_all _ _ k (by omega) hK.out)
      rw [e] at HO
      obtain ⟨A', c', hv, hrow⟩ := PtsOwn.row HO.out
      subst hv
      have hlen := psN_len ns
      have hmax : (psN ns).length ≤ maxLen := by unfold maxLen; omega
      obtain ⟨hEn, hzn, q0, q1, q2, ⟨o0, o1, o2, o3, o4, o5⟩, f1⟩ := HNr.out
      simp only [NoFreeze] at f1
      have HLEN := Lib.hid hlen
      clear hlen HO hK e o0 o1 o2 o3 o4 o5 f1
      cases hh : hasL (psN ns) (a, b, c)
      · have HP := Lib.hid (fun w' (hw : Ext wr w') => pick_no (psN ns) a b c w' A' c' hmax (hrow.ext hw) hh)
        have HH := Lib.hid hh
        clear hh hmax
        go_wp2_with (first | (go_at_call 103; refine Calls.mono (HP.out _ (by (repeat (first | with_reducible exact Ext.rfl' _ | with_reducible assumption | with_reducible refine Ext.al ?_ _ | with_reducible refine Ext.dr ?_ | with_reducible refine Ext.st ?_ (by simp) _ | with_reducible refine Ext.tr ?_ (by assumption))))) ?_; rintro e w2 ⟨rfl, hb⟩; have hE5 : Ext wr w2 := hb; have hN2 := HNr.out.grow hE5; obtain ⟨hE2, hzw2, q0, q1, q2, ⟨o0, o1, o2, o3, o4, o5⟩, f1⟩ := hN2; simp only [NoFreeze] at f1))
        have hS6 := Six.alloc (Six.store (w := w2) (b := w.heap.size + 1) (show Six w2 (w.heap.size + 1) ⟨0, 0⟩ ⟨0, 0⟩ ⟨0, 0⟩ from ⟨o0, o1, o2, o3, o4, o5⟩) 0 0 0 0 0 0) (by rw [st6_size]; exact hzw2) (.cells #[.int .i64 0, .int .i64 0, .int .i64 0, .int .i64 0, .int .i64 0, .int .i64 0] 98)
        have hX6 := Ext.al (Ext.store6 (b := w.heap.size + 1) hE2 (by omega) 0 0 0 0 0 0) (.cells #[.int .i64 0, .int .i64 0, .int .i64 0, .int .i64 0, .int .i64 0, .int .i64 0] 98)
        show bodyPost _ _ _ _ _ ((st6 w2 (w.heap.size + 1) 0 0 0 0 0 0).alloc (.cells #[.int .i64 0, .int .i64 0, .int .i64 0, .int .i64 0, .int .i64 0, .int .i64 0] 98))
        generalize (st6 w2 (w.heap.size + 1) 0 0 0 0 0 0).alloc (.cells #[.int .i64 0, .int .i64 0, .int .i64 0, .int .i64 0, .int .i64 0, .int .i64 0] 98) = W6 at hS6 hX6 ⊢
        obtain ⟨s0, s1, s2, s3, s4, s5⟩ := hS6
        refine bodyPost_ret (v := .tuple #[.agg #[.int .i64 0, .int .i64 0, .int .i64 0, .int .i64 0, .int .i64 0, .int .i64 0], .int .i64 6]) (by simp [results, Try.results106, go_sem, s0, s1, s2, s3, s4, s5]) rfl ⟨hX6, .inr ⟨6, by rw [nodesE_mid h64, HALL.out, HH.out]; rfl, by omega, rfl⟩⟩
      · have HP := Lib.hid (fun w' (hw : Ext wr w') => pick_yes (psN ns) a b c w' A' c' hmax (hrow.ext hw) hh)
        have HH := Lib.hid hh
        have HC := Lib.hid (fun w => cross_c (atI (psN ns) a).x (atI (psN ns) a).y (atI (psN ns) b).x (atI (psN ns) b).y (atI (psN ns) c).x (atI (psN ns) c).y w)
        have hcr : crossW ⟨(atI (psN ns) a).x, (atI (psN ns) a).y⟩ ⟨(atI (psN ns) b).x, (atI (psN ns) b).y⟩ ⟨(atI (psN ns) c).x, (atI (psN ns) c).y⟩ = crI (psN ns) (a, b, c) := rfl
        rw [hcr] at HC
        clear hh hmax hcr
        obtain ⟨z, hz⟩ : ∃ z, crI (psN ns) (a, b, c) = z := ⟨_, rfl⟩
        have HZ := Lib.hid hz
        rw [hz] at HC
        clear hz
        by_cases hz0 : z = 0
        · subst hz0
          go_wp2_with (first | (go_at_call 103; refine Calls.mono (HP.out _ (by (repeat (first | with_reducible exact Ext.rfl' _ | with_reducible assumption | with_reducible refine Ext.al ?_ _ | with_reducible refine Ext.dr ?_ | with_reducible refine Ext.st ?_ (by simp) _ | with_reducible refine Ext.tr ?_ (by assumption))))) ?_; rintro e w2 ⟨rfl, hb⟩; have hE5 : Ext wr w2 := hb; have hN2 := HNr.out.grow hE5; obtain ⟨hE2, hzw2, q0, q1, q2, ⟨o0, o1, o2, o3, o4, o5⟩, f1⟩ := hN2; simp only [NoFreeze] at f1) | (go_at_call 74; refine Calls.mono (HC.out _) ?_; rintro e w3 ⟨rfl, hb3⟩; have hE6 : Ext wr w3 := (by (repeat (first | with_reducible exact Ext.rfl' _ | with_reducible assumption | with_reducible refine Ext.al ?_ _ | with_reducible refine Ext.dr ?_ | with_reducible refine Ext.st ?_ (by simp) _ | with_reducible refine Ext.tr ?_ (by assumption)))); have hc := hb3.ccell; have hs := hb3.sz; (try simp at hs); have t0 := hs w2.heap.size (by omega); have hN3 := HNr.out.grow hE6; obtain ⟨hE3, hzw3, q0', q1', q2', ⟨p0, p1, p2, p3, p4, p5⟩, f3⟩ := hN3; simp only [NoFreeze] at f3))
          have hS6 := Six.store (w := w3) (b := w.heap.size + 1) (show Six w3 (w.heap.size + 1) ⟨0, 0⟩ ⟨0, 0⟩ ⟨0, 0⟩ from ⟨p0, p1, p2, p3, p4, p5⟩) (0) (0) (0) (0) (0) (0)
          have hX6 := Ext.store6 (b := w.heap.size + 1) hE3 (by omega) (0) (0) (0) (0) (0) (0)
          show bodyPost _ _ _ _ _ (st6 w3 (w.heap.size + 1) (0) (0) (0) (0) (0) (0))
          generalize st6 w3 (w.heap.size + 1) (0) (0) (0) (0) (0) (0) = W6 at hS6 hX6 ⊢
          obtain ⟨s0, s1, s2, s3, s4, s5⟩ := hS6
          refine bodyPost_ret (v := .tuple #[.agg #[.int .i64 (0), .int .i64 (0), .int .i64 (0), .int .i64 (0), .int .i64 (0), .int .i64 (0)], .int .i64 10]) (by simp [results, Try.results106, go_sem, s0, s1, s2, s3, s4, s5]) rfl ⟨hX6, .inr ⟨10, by rw [nodesE_mid h64, HALL.out, HH.out, HZ.out]; rfl, by omega, rfl⟩⟩
        · have hz1 : (z == 0) = false := by simp [hz0]
          obtain ⟨x0, hx0⟩ : ∃ x, (atI (psN ns) a).x = x := ⟨_, rfl⟩
          obtain ⟨x1, hx1⟩ : ∃ x, (atI (psN ns) a).y = x := ⟨_, rfl⟩
          obtain ⟨x2, hx2⟩ : ∃ x, (atI (psN ns) b).x = x := ⟨_, rfl⟩
          obtain ⟨x3, hx3⟩ : ∃ x, (atI (psN ns) b).y = x := ⟨_, rfl⟩
          obtain ⟨x4, hx4⟩ : ∃ x, (atI (psN ns) c).x = x := ⟨_, rfl⟩
          obtain ⟨x5, hx5⟩ : ∃ x, (atI (psN ns) c).y = x := ⟨_, rfl⟩
          have HX := Lib.hid (And.intro hx0 (And.intro hx1 (And.intro hx2 (And.intro hx3 (And.intro hx4 hx5)))))
          rw [hx0, hx1, hx2, hx3, hx4, hx5] at HP HC
          clear hx0 hx1 hx2 hx3 hx4 hx5
          go_wp2_with (first | (go_at_call 103; refine Calls.mono (HP.out _ (by (repeat (first | with_reducible exact Ext.rfl' _ | with_reducible assumption | with_reducible refine Ext.al ?_ _ | with_reducible refine Ext.dr ?_ | with_reducible refine Ext.st ?_ (by simp) _ | with_reducible refine Ext.tr ?_ (by assumption))))) ?_; rintro e w2 ⟨rfl, hb⟩; have hE5 : Ext wr w2 := hb; have hN2 := HNr.out.grow hE5; obtain ⟨hE2, hzw2, q0, q1, q2, ⟨o0, o1, o2, o3, o4, o5⟩, f1⟩ := hN2; simp only [NoFreeze] at f1) | (go_at_call 74; refine Calls.mono (HC.out _) ?_; rintro e w3 ⟨rfl, hb3⟩; have hE6 : Ext wr w3 := (by (repeat (first | with_reducible exact Ext.rfl' _ | with_reducible assumption | with_reducible refine Ext.al ?_ _ | with_reducible refine Ext.dr ?_ | with_reducible refine Ext.st ?_ (by simp) _ | with_reducible refine Ext.tr ?_ (by assumption)))); have hc := hb3.ccell; have hs := hb3.sz; (try simp at hs); have t0 := hs w2.heap.size (by omega); have hN3 := HNr.out.grow hE6; obtain ⟨hE3, hzw3, q0', q1', q2', ⟨p0, p1, p2, p3, p4, p5⟩, f3⟩ := hN3; simp only [NoFreeze] at f3))
          have hS6 := Six.store (w := w3) (b := w.heap.size + 1) (show Six w3 (w.heap.size + 1) ⟨0, 0⟩ ⟨0, 0⟩ ⟨0, 0⟩ from ⟨p0, p1, p2, p3, p4, p5⟩) (x0) (x1) (x2) (x3) (x4) (x5)
          have hX6 := Ext.store6 (b := w.heap.size + 1) hE3 (by omega) (x0) (x1) (x2) (x3) (x4) (x5)
          show bodyPost _ _ _ _ _ (st6 w3 (w.heap.size + 1) (x0) (x1) (x2) (x3) (x4) (x5))
          generalize st6 w3 (w.heap.size + 1) (x0) (x1) (x2) (x3) (x4) (x5) = W6 at hS6 hX6 ⊢
          obtain ⟨s0, s1, s2, s3, s4, s5⟩ := hS6
          refine bodyPost_ret (v := .tuple #[.agg #[.int .i64 (x0), .int .i64 (x1), .int .i64 (x2), .int .i64 (x3), .int .i64 (x4), .int .i64 (x5)], .int .i64 0]) (by simp [results, Try.results106, go_sem, s0, s1, s2, s3, s4, s5]) rfl ⟨hX6, .inl ⟨by rw [nodesE_mid h64, HALL.out, HH.out, HZ.out]; simp [hz0], by obtain ⟨y0, y1, y2, y3, y4, y5⟩ := HX.out; rw [y0, y1, y2, y3, y4, y5]⟩⟩
end Go.Proofs.Ytcdbekmcobghbaa
