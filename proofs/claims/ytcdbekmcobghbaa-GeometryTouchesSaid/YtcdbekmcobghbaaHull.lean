/- Contracts of the functions on hulls. -/
import Derived.Test.YtcdbekmcobghbaaLib
namespace Go.Proofs.Ytcdbekmcobghbaa
open Go Go.RowKit Go.Sort Go.Shelf

def lenV : Value → Nat | .slice _ n _ => n | _ => 0
/-- A slice of the call's own that holds a chain, the newest last; nil where it holds none. -/
def ChainRel (B : Nat) (v : Value) (s : List Pt) (w : World) : Prop := w.ownsRow B 23 2 v s.length (s.reverse.flatMap encP)

theorem ChainRel.own {B : Nat} {v : Value} {s : List Pt} {w : World} (h : ChainRel B v s w) (h0 : 0 < s.length) : ∃ g cap, v = .slice (some ⟨g, 0, none⟩) s.length cap ∧ B ≤ g ∧ Own w g cap s.reverse := by
  rcases h.2 with ⟨_, h'⟩ | ⟨g, cap, cur, hv, hb, h1, h3, h4, h2, h5⟩
  · omega
  · exact ⟨g, cap, hv, hb, cur, h1, h2, by simpa using h3, h4, by simpa using h5⟩
theorem ChainRel.mk {B g cap : Nat} {s : List Pt} {w : World} (h : Own w g cap s.reverse) (hb : B ≤ g) : ChainRel B (.slice (some ⟨g, 0, none⟩) s.length cap) s w := by
  have := h.to_row hb
  simpa [ChainRel] using this
theorem ownsRow_ext {B e size n : Nat} {v : Value} {xs : List Value} {w w' : World} (h : w.ownsRow B e size v n xs) (hw : Ext w w') : w'.ownsRow B e size v n xs :=
  World.ownsRow.kept (row := none) h ⟨hw.os, hw.tape, hw.output, hw.size, fun k hk _ => hw.block k hk⟩ (by cases hv : v.ownBlock <;> simp)
theorem ChainRel.ext {B : Nat} {v : Value} {s : List Pt} {w w' : World} (h : ChainRel B v s w) (hw : Ext w w') : ChainRel B v s w' :=
  World.ownsRow.kept (row := none) h ⟨hw.os, hw.tape, hw.output, hw.size, fun k hk _ => hw.block k hk⟩ (by cases hv : v.ownBlock <;> simp)
theorem Own.cap_le {w : World} {g cap : Nat} {l : List Pt} (h : Own w g cap l) : l.length ≤ cap ∧ cap ≤ maxLen := by
  obtain ⟨cur, h1, h2, h3, h4, h5⟩ := h
  exact ⟨h3, h4⟩
theorem two_new (w : World) (x y : Value) (t : TypeId) : ∀ j u, [x, y][j]? = some u → (w.alloc (.cells #[x, y] t)).cell? ((⟨w.heap.size, 0, none⟩ : Addr).add j) = some u := by
  intro j u hu
  match j with
  | 0 => simpa [Addr.add, go_sem] using hu
  | 1 => simpa [Addr.add, go_sem] using hu
  | j + 2 => simp at hu
theorem chain_cells {w : World} {g cap : Nat} {a b : Pt} {r : List Pt} (h : Own w g cap (b :: a :: r).reverse) :
    w.cell? ⟨g, r.length * 2, none⟩ = some (.int .i64 a.x) ∧ w.cell? ⟨g, r.length * 2 + 1, none⟩ = some (.int .i64 a.y) ∧ w.cell? ⟨g, (r.length + 1) * 2, none⟩ = some (.int .i64 b.x) ∧ w.cell? ⟨g, (r.length + 1) * 2 + 1, none⟩ = some (.int .i64 b.y) := by
  have e : ((b :: a :: r).reverse.flatMap encP) = (r.reverse.flatMap encP) ++ [.int .i64 a.x, .int .i64 a.y, .int .i64 b.x, .int .i64 b.y] := by simp [encP]
  have hl : (r.reverse.flatMap encP).length = r.length * 2 := by rw [flat_len]; simp
  refine ⟨h.cells _ _ ?_, h.cells _ _ ?_, h.cells _ _ ?_, h.cells _ _ ?_⟩ <;> rw [e, List.getElem?_append_right (by omega), hl]
  · rw [show r.length * 2 - r.length * 2 = 0 by omega]; rfl
  · rw [show r.length * 2 + 1 - r.length * 2 = 1 by omega]; rfl
  · rw [show (r.length + 1) * 2 - r.length * 2 = 2 by omega]; rfl
  · rw [show (r.length + 1) * 2 + 1 - r.length * 2 = 3 by omega]; rfl

theorem chain_end {B n' k : Nat} {v' : Value} {xs : List Value} {s l : List Pt} {w2 : World} (hk : k < l.length) (hs : popW s l[k] = popW (chainR (l.take k)) l[k]) (hp : popW s l[k] = s)
    (hown : w2.ownsRow B 23 2 v' n' xs) (hn : n' = s.length + 1) (hx : xs = (l[k] :: s).reverse.flatMap encP) : ChainRel B v' (chainR (l.take (k + 1))) w2 := by
  rw [chainR_take l k hk, ← hs, hp]
  unfold ChainRel
  subst hn hx
  exact hown
theorem short_len {l s : List Pt} {k : Nat} (hk : k < l.length) (p : Pt) (hs : popW s p = popW (chainR (l.take k)) p) (hl : l.length ≤ 1000) : (popW s p).length ≤ 999 := by
  rw [hs]
  have h1 := popW_len (chainR (l.take k)) p
  have h2 := chainR_len (l.take k)
  rw [List.length_take] at h2
  omega

set_option maxRecDepth 100000 in
set_option maxHeartbeats 1000000 in
theorem chain_c (l : List Pt) (w : World) (A : Option Addr) (c : Nat) (hl : l.length ≤ 1000) (hA : Row 2 encP w A l) :
    Calls Try.prog 123 #[.slice A l.length c] w
      fun e w' => ∃ v, e = .returned v ∧ ChainRel w.heap.size v (chainR l) w' ∧ Ext w w' := by
  go_enter Try.func123, Try.ntmps123
  go_wp2
  go_loopw [3, 5, 8] (fun v _ i wr => Ext w wr ∧ ∃ k : Nat, k ≤ l.length ∧ i = .int .i64 k ∧ ChainRel w.heap.size v (chainR (l.take k)) wr) (fun _ _ i _ => l.length - (intOf i).toNat)
  case atStart => exact ⟨Ext.rfl' _, 0, Nat.zero_le _, rfl, World.ownsRow_nil _ _ _ _⟩
  case round =>
    obtain ⟨hE, k, hk, rfl, hK⟩ := hrel
    by_cases hlt : k < l.length
    · obtain ⟨b, off, rfl, hb0, hcell⟩ := hA.p2 hlt
      have c := hcell _ hE
      have hz := hE.sz _ hb0
      have HK := Lib.hid hK
      clear hK
      go_wp2
      obtain ⟨wo, rfl⟩ : ∃ wo : World, wo = wr := ⟨_, rfl⟩
      go_loopw [3] (fun v wr => Ext (wo.alloc (.cells #[.int .i64 l[k].x, .int .i64 l[k].y] 23)) wr ∧ ∃ s, s.length ≤ 1000 ∧ popW s l[k] = popW (chainR (l.take k)) l[k] ∧ ChainRel w.heap.size v s wr) (fun v _ => lenV v)
      case atStart => exact ⟨Ext.rfl' _, _, by have := chainR_len (l.take k); rw [List.length_take] at this; omega, rfl, HK.out.alloc _⟩
      case round =>
        obtain ⟨hE2, s, hslen, hs, hown⟩ := hrel
        have HS := Lib.hid hs
        have HO := Lib.hid hown
        clear hs hown
        have cb : wr.cell? ⟨wo.heap.size, 0, none⟩ = some (.int .i64 l[k].x) ∧ wr.cell? ⟨wo.heap.size, 1, none⟩ = some (.int .i64 l[k].y) ∧ wo.heap.size < wr.heap.size := by
          exact ⟨by rw [hE2.ccell _ _ (by simp)]; simp [go_sem], by rw [hE2.ccell _ _ (by simp)]; simp [go_sem], hE2.sz _ (by simp)⟩
        match s, hslen, HS, HO with
        | [], _, HS, HO =>
          rcases HO.out.2 with ⟨hv, _⟩ | ⟨g, cap, cur, hv, hg0, _⟩
          all_goals
            subst hv
            go_wp2_with fail
            refine region_grow (by kernel_rfl) (by kernel_rfl) ?_
            repeat (first | go_big_quiet_step (first | (go_at_call 74; exact callsGrow (cross_c _ _ _ _ _ _ _)) | fail) | quiet_step (first | (go_at_call 74; exact callsGrow (cross_c _ _ _ _ _ _ _)) | fail))
            refine wpQuiet_nil ?_
            intro w1 hb
            have hc := hb.ccell
            have hf := hb.frz
            have hs := hb.sz
            (try simp at hs); (try have hs0 := hs w.heap.size (by omega)); (try have hs1 := hs (w.heap.size + 1) (by omega)); (try have hs2 := hs (w.heap.size + 1 + 1) (by omega)); (try have hs3 := hs (w.heap.size + 1 + 1 + 1) (by omega))
            (try simp only [IntWalk.i64_left])
            have hsz5 := Below.size (show Ext w w1 from by (repeat (first | with_reducible exact Ext.rfl' _ | with_reducible assumption | with_reducible refine Ext.al ?_ _ | with_reducible refine Ext.dr ?_ | with_reducible refine Ext.st ?_ (by simp) _ | with_reducible refine Ext.tr ?_ (by assumption))))
            obtain ⟨i0, hi, hz0, hz1, hz2⟩ := info_parts infoP
            go_wp2_with (first | (at_builtin; refine wpList_append_own _ rfl _ _ 37 rfl w.heap.size 23 i0 _ 2 16 Try.underlying37 hi hz0 hz1 hz2 rfl (by decide) _ _ _ rfl ((ownsRow_ext HO.out hb).alloc _) ⟨_, 0, none⟩ 1 1 [.int .i64 l[k].x, .int .i64 l[k].y] rfl rfl ?c1 ?c2 ?c3 ?c4 ?c5 ?_))
            case c1 => exact two_new _ _ _ _
            case c2 => intro u hu; simp at hu; rcases hu with rfl | rfl <;> rfl
            case c3 => unfold maxLen; first | omega | (simp; omega) | simp
            case c4 => first | omega | (simp; omega) | simp
            case c5 => simp; omega
            intro v' w2 hown2 hgrow2 _
            clear hi hz0 hz1 hz2
            have hE4 : Ext w w2 := Below.grown (show Below w.heap.size w _ from by (repeat (first | with_reducible exact Ext.rfl' _ | with_reducible assumption | with_reducible refine Ext.al ?_ _ | with_reducible refine Ext.dr ?_ | with_reducible refine Ext.st ?_ (by simp) _ | with_reducible refine Ext.tr ?_ (by assumption)))) hgrow2 (by simp; omega) (by intro q hq; first | (cases hq; done) | (simp [Value.ownBlock] at hq; omega))
            go_wp2
            exact ⟨⟨hE4, k + 1, by omega, by go_num, chain_end hlt HS.out rfl hown2 rfl (by simp [encP])⟩, by simp [intOf]; omega⟩
        | [a1], _, HS, HO =>
          obtain ⟨g, cap, hv, hg0, hO⟩ := HO.out.own (by simp)
          subst hv
          simp only [List.length_cons, List.length_nil]
          have HV : Hid (wr.ownsRow w.heap.size 23 2 (.slice (some ⟨g, 0, none⟩) (0 + 1) cap) (0 + 1) ([a1].reverse.flatMap encP)) := HO.out
          go_wp2_with fail
          refine region_grow (by kernel_rfl) (by kernel_rfl) ?_
          repeat (first | go_big_quiet_step (first | (go_at_call 74; exact callsGrow (cross_c _ _ _ _ _ _ _)) | fail) | quiet_step (first | (go_at_call 74; exact callsGrow (cross_c _ _ _ _ _ _ _)) | fail))
          refine wpQuiet_nil ?_
          intro w1 hb
          have hc := hb.ccell
          have hf := hb.frz
          have hs := hb.sz
          (try simp at hs); (try have hs0 := hs w.heap.size (by omega)); (try have hs1 := hs (w.heap.size + 1) (by omega)); (try have hs2 := hs (w.heap.size + 1 + 1) (by omega)); (try have hs3 := hs (w.heap.size + 1 + 1 + 1) (by omega))
          (try simp only [IntWalk.i64_left])
          have hsz5 := Below.size (show Ext w w1 from by (repeat (first | with_reducible exact Ext.rfl' _ | with_reducible assumption | with_reducible refine Ext.al ?_ _ | with_reducible refine Ext.dr ?_ | with_reducible refine Ext.st ?_ (by simp) _ | with_reducible refine Ext.tr ?_ (by assumption))))
          obtain ⟨i0, hi, hz0, hz1, hz2⟩ := info_parts infoP
          go_wp2_with (first | (at_builtin; refine wpList_append_own _ rfl _ _ 37 rfl w.heap.size 23 i0 _ 2 16 Try.underlying37 hi hz0 hz1 hz2 rfl (by decide) _ _ _ rfl ((ownsRow_ext HV.out hb).alloc _) ⟨_, 0, none⟩ 1 1 [.int .i64 l[k].x, .int .i64 l[k].y] rfl rfl ?c1 ?c2 ?c3 ?c4 ?c5 ?_))
          case c1 => exact two_new _ _ _ _
          case c2 => intro u hu; simp at hu; rcases hu with rfl | rfl <;> rfl
          case c3 => unfold maxLen; first | omega | (simp; omega) | simp
          case c4 => first | omega | (simp; omega) | simp
          case c5 => simp; omega
          intro v' w2 hown2 hgrow2 _
          clear hi hz0 hz1 hz2
          have hE4 : Ext w w2 := Below.grown (show Below w.heap.size w _ from by (repeat (first | with_reducible exact Ext.rfl' _ | with_reducible assumption | with_reducible refine Ext.al ?_ _ | with_reducible refine Ext.dr ?_ | with_reducible refine Ext.st ?_ (by simp) _ | with_reducible refine Ext.tr ?_ (by assumption)))) hgrow2 (by simp; omega) (by intro q hq; first | (cases hq; done) | (simp [Value.ownBlock] at hq; omega))
          go_wp2
          exact ⟨⟨hE4, k + 1, by omega, by go_num, chain_end hlt HS.out rfl hown2 rfl (by simp [encP])⟩, by simp [intOf]; omega⟩
        | b1 :: a1 :: r, hslen, HS, HO =>
          obtain ⟨g, cap, hv, hg0, hO⟩ := HO.out.own (by simp)
          subst hv
          have d := chain_cells hO
          have hg := hO.lt
          simp only [List.length_cons]
          generalize hm : r.length = m at *
          have HM := Lib.hid hm
          clear hm
          have hg1 : (1 : Int) < (m : Int) + 1 + 1 := by omega
          have hcap : m + 1 + 1 ≤ cap := by have := hO.cap_le.1; simp only [List.length_reverse, List.length_cons] at this; have := HM.out; omega
          have hm2 : m ≤ 998 := by simp only [List.length_cons] at hslen; have := HM.out; omega
          by_cases hx : crossW ⟨a1.x, a1.y⟩ ⟨b1.x, b1.y⟩ ⟨l[k].x, l[k].y⟩ ≤ 0
          · have HC := Lib.hid hx
            go_wp2_with fail
            refine region_grow (by kernel_rfl) (by kernel_rfl) ?_
            repeat (first | go_big_quiet_step (first | (go_at_call 74; exact callsGrow (cross_c _ _ _ _ _ _ _)) | fail) | quiet_step (first | (go_at_call 74; exact callsGrow (cross_c _ _ _ _ _ _ _)) | fail))
            refine wpQuiet_nil ?_
            intro w1 hb
            have hc := hb.ccell
            have hf := hb.frz
            have hs := hb.sz
            (try simp at hs); (try have hs0 := hs w.heap.size (by omega)); (try have hs1 := hs (w.heap.size + 1) (by omega)); (try have hs2 := hs (w.heap.size + 1 + 1) (by omega)); (try have hs3 := hs (w.heap.size + 1 + 1 + 1) (by omega))
            (try simp only [IntWalk.i64_left])
            go_wp2
            have hO2 : Own wr g cap (a1 :: r).reverse := Own.pop (x := b1) (by simpa using hO)
            refine ⟨⟨by (repeat (first | with_reducible exact Ext.rfl' _ | with_reducible assumption | with_reducible refine Ext.al ?_ _ | with_reducible refine Ext.dr ?_ | with_reducible refine Ext.st ?_ (by simp) _ | with_reducible refine Ext.tr ?_ (by assumption))), a1 :: r, by simp only [List.length_cons] at hslen ⊢; omega, ?_, ?_⟩, by simp [lenV]⟩
            · rw [← HS.out]
              have := HC.out
              show _ = popW (b1 :: a1 :: r) l[k]
              rw [popW, if_pos this]
            · have := ChainRel.mk (hO2.ext hb) hg0
              rw [List.length_cons, HM.out] at this
              exact this
          · have HC := Lib.hid hx
            have HV : Hid (wr.ownsRow w.heap.size 23 2 (.slice (some ⟨g, 0, none⟩) (m + 1 + 1) cap) (m + 1 + 1) ((b1 :: a1 :: r).reverse.flatMap encP)) := by
              have := HO.out
              unfold ChainRel at this
              simp only [List.length_cons] at this
              rw [HM.out] at this
              exact this
            go_wp2_with fail
            refine region_grow (by kernel_rfl) (by kernel_rfl) ?_
            repeat (first | go_big_quiet_step (first | (go_at_call 74; exact callsGrow (cross_c _ _ _ _ _ _ _)) | fail) | quiet_step (first | (go_at_call 74; exact callsGrow (cross_c _ _ _ _ _ _ _)) | fail))
            refine wpQuiet_nil ?_
            intro w1 hb
            have hc := hb.ccell
            have hf := hb.frz
            have hs := hb.sz
            (try simp at hs); (try have hs0 := hs w.heap.size (by omega)); (try have hs1 := hs (w.heap.size + 1) (by omega)); (try have hs2 := hs (w.heap.size + 1 + 1) (by omega)); (try have hs3 := hs (w.heap.size + 1 + 1 + 1) (by omega))
            (try simp only [IntWalk.i64_left])
            have hsz5 := Below.size (show Ext w w1 from by (repeat (first | with_reducible exact Ext.rfl' _ | with_reducible assumption | with_reducible refine Ext.al ?_ _ | with_reducible refine Ext.dr ?_ | with_reducible refine Ext.st ?_ (by simp) _ | with_reducible refine Ext.tr ?_ (by assumption))))
            obtain ⟨i0, hi, hz0, hz1, hz2⟩ := info_parts infoP
            go_wp2_with (first | (at_builtin; refine wpList_append_own _ rfl _ _ 37 rfl w.heap.size 23 i0 _ 2 16 Try.underlying37 hi hz0 hz1 hz2 rfl (by decide) _ _ _ rfl ((ownsRow_ext HV.out hb).alloc _) ⟨_, 0, none⟩ 1 1 [.int .i64 l[k].x, .int .i64 l[k].y] rfl rfl ?c1 ?c2 ?c3 ?c4 ?c5 ?_))
            case c1 => exact two_new _ _ _ _
            case c2 => intro u hu; simp at hu; rcases hu with rfl | rfl <;> rfl
            case c3 => unfold maxLen; first | omega | (simp; omega) | simp
            case c4 => first | omega | (simp; omega) | simp
            case c5 => simp; omega
            intro v' w2 hown2 hgrow2 _
            clear hi hz0 hz1 hz2
            have hE4 : Ext w w2 := Below.grown (show Below w.heap.size w _ from by (repeat (first | with_reducible exact Ext.rfl' _ | with_reducible assumption | with_reducible refine Ext.al ?_ _ | with_reducible refine Ext.dr ?_ | with_reducible refine Ext.st ?_ (by simp) _ | with_reducible refine Ext.tr ?_ (by assumption)))) hgrow2 (by simp; omega) (by intro q hq; first | (cases hq; done) | (simp [Value.ownBlock] at hq; omega))
            go_wp2
            exact ⟨⟨hE4, k + 1, by omega, by go_num, chain_end (n' := m + 1 + 1 + 1) hlt HS.out (by rw [popW, if_neg (show ¬ crossW a1 b1 l[k] ≤ 0 from Int.not_le.2 HC.out)]) hown2 (by have e := HM.out; simp only [List.length_cons]; omega) (by simp [encP])⟩, by simp [intOf]; omega⟩
    · go_wp2
      go_ret
      have e : l.take k = l := List.take_of_length_le (by omega)
      rw [e] at hK
      exact ⟨_, rfl, hK, hE⟩
end Go.Proofs.Ytcdbekmcobghbaa
