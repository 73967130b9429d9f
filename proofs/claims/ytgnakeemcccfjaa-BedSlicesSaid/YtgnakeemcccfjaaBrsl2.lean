/- The contract of the reference's Slices. -/
import Derived.Test.YtgnakeemcccfjaaBrsl
namespace Go.Proofs.Ytgnakeemcccfjaa
open Go Go.RowKit Go.IntWalk

theorem bstep_append {P : Program} {ops : Array Oper} {o : Oper} {a : Act} {w : World} {K : Act → World → Prop} {Q : Exit → Act → World → Prop} {E : Prop}
    (hg : o.guard = none) (s x : Operand) (t : TypeId) (hop : o.op = Op.call { callee := Callee.builtin Builtin.append, args := #[s, x], argTypes := #[t, t] })
    (base : Nat) (e : TypeId) (i : TypeInfo) (z : Value) (size bytes : Nat) (h1 : P.underlying t = some (.slice e)) (h2 : P.info? e = some i) (h3 : i.zero = some z) (h4 : i.size = size) (h5 : i.bytes = bytes) (h6 : z.cells.size = size) (h7 : 0 < size)
    (v : Value) (n : Nat) (xs : List Value) (hs : a.eval s = v) (hown : w.ownsRow base e size v n xs)
    (ad : Addr) (m c : Nat) (news : List Value) (hx : a.eval x = .slice (some ad) m c) (hn : news.length = m * size) (hc : ∀ j u, news[j]? = some u → w.cell? (ad.add j) = some u) (h1c : ∀ u ∈ news, u.oneCell' = true)
    (b1 : n + m ≤ maxLen) (b2 : (n + m) * bytes ≤ 140737488355328) (b3 : base ≤ w.heap.size)
    (hK : ∀ v' w', w'.ownsRow base e size v' (n + m) (xs ++ news) → w.grownBy w' v.ownBlock → K (a.put o.dst v') w') :
    if Region.wanted o (yielded ops a.tmps) = true then Oper.wp P o a w K Q else E := by
  have hw : Region.wanted o (yielded ops a.tmps) = true := by simp [Region.wanted, hg]
  rw [if_pos hw]
  obtain ⟨v', w', hrun, r1, r2, _⟩ := run_append_own (P := P) w base t o.type e i z size bytes h1 h2 h3 h4 h5 h6 h7 v n xs hown ad m c news hn hc h1c b1 b2 b3
  unfold Oper.wp
  simp [execOp, hop, resolve, invoke, builtin, hs, hx, hrun, Result.andThen]
  exact hK v' w' r1 r2
theorem keepW {n : Nat} {wr w' : World} {p q b o : Nat} {u : Value} (h : Below n wr w') (hp : p < n) (hq : q < n) (hb : b < n) (hc : wr.cell? ⟨b, o, none⟩ = some u) :
    (∀ j : Nat, w'.cell? ⟨p, j, none⟩ = wr.cell? ⟨p, j, none⟩) ∧ (∀ j : Nat, w'.cell? ⟨q, j, none⟩ = wr.cell? ⟨q, j, none⟩) ∧ w'.cell? ⟨b, o, none⟩ = some u ∧ Below n wr w' :=
  ⟨fun j => Below.cell (p := ⟨p, j, none⟩) h hp, fun j => Below.cell (p := ⟨q, j, none⟩) h hq, (Below.cell (p := ⟨b, o, none⟩) h hb).trans hc, h⟩
def OutC3 (l : List C3) (e : Ending) (w' : World) : Prop := ∃ A c, e = .returned (.slice A l.length c) ∧ Row 3 encC w' A l
set_option maxHeartbeats 8000000 in
set_option maxRecDepth 100000 in
theorem rslices_c (g h : Gr) (l : List Int) (w : World) (A B D : Option Addr) (c d e : Nat) (hA : Row 1 encZ w A g.L) (hB : Row 1 encZ w B h.L) (hD : Row 1 encZ w D l) (h0 : twoE g h = 0) (hv0 : levE l = 0) :
    Calls Try.prog 49 #[.agg #[.int .i64 g.X, .int .i64 g.Y, .int .i64 g.S, .int .i64 g.C, .int .i64 g.R, .slice A g.L.length c], .agg #[.int .i64 h.X, .int .i64 h.Y, .int .i64 h.S, .int .i64 h.C, .int .i64 h.R, .slice B h.L.length d], .slice D l.length e] w fun e w' => OutC3 (mkC (layK g h l) (l.length + 1)) e w' ∧ Ext w w' := by
  obtain ⟨vg, vh, hs, hn⟩ := twoE_ok h0
  obtain ⟨hk20, hlev⟩ := levE_ok hv0
  obtain ⟨F, hF⟩ : ∃ F, layK g h l = F := ⟨_, rfl⟩
  have HCL := Lib.hid (fun k (hk : k ≤ l.length) w' (hw : Ext w w') => by
    have h9 := rslice_c g h (loL l k) (hiV l k) w' A B c d vg vh hn (hlev k hk) (hA.ext hw) (hB.ext hw)
    have q : layF g h (loL l k) (hiV l k) = F k := by rw [← hF]; rfl
    rw [q] at h9
    exact h9)
  have HFZ : Hid (∀ k, (F k).z = 0) := Lib.hid (fun k => by rw [← hF]; rfl)
  rw [hF]
  obtain ⟨i0, hi, hzi0, hzi1, hzi2⟩ := info_parts infoC
  have HI := Lib.hid (And.intro hi (And.intro hzi0 (And.intro hzi1 hzi2)))
  clear hi hzi0 hzi1 hzi2 hF vg vh hs hn hA hB h0 hv0 hlev
  go_enter Try.func49, Try.ntmps49
  go_upto_region 1 with fail
  refine wp_name (fun W hW => ?_)
  have hE : Ext w W := by rw [hW]; (repeat (first | with_reducible exact Ext.rfl' _ | with_reducible assumption | with_reducible refine Ext.al ?_ _ | with_reducible refine Ext.dr ?_ | with_reducible refine Ext.st ?_ (by simp) _ | with_reducible refine Ext.tr ?_ (by assumption)))
  have HW := Lib.hid hW
  clear hW
  have kg : CellsAt W w.heap.size 0 [.int .i64 g.X, .int .i64 g.Y, .int .i64 g.S, .int .i64 g.C, .int .i64 g.R, .slice A g.L.length c] := by
    rw [HW.out]
    refine cells_six ⟨?_, ?_, ?_, ?_, ?_, ?_⟩ <;> simp [World.cell?_alloc_past, World.cell?_alloc_new, go_sem]
  have kh : CellsAt W (w.heap.size + 1) 0 [.int .i64 h.X, .int .i64 h.Y, .int .i64 h.S, .int .i64 h.C, .int .i64 h.R, .slice B h.L.length d] := by
    rw [HW.out]
    refine cells_six ⟨?_, ?_, ?_, ?_, ?_, ?_⟩ <;> simp [go_sem]
  have sz0 : W.heap.size = w.heap.size + 1 + 1 := by rw [HW.out]; simp
  have zg : w.heap.size < W.heap.size := by omega
  have zh : w.heap.size + 1 < W.heap.size := by omega
  clear HW sz0
  generalize w.heap.size + 1 = nh at *
  go_wp2
  go_loopw [7, 8, 9] (fun v lo i wr => Ext W wr ∧ ∃ k : Nat, k ≤ l.length ∧ i = .int .i64 k ∧ lo = .int .i64 (loL l k) ∧ Hid (wr.ownsRow W.heap.size 58 3 v k ((mkC F k).flatMap encC))) (fun _ _ i _ => l.length - (intOf i).toNat)
  case atStart => exact ⟨Ext.rfl' _, 0, Nat.zero_le _, rfl, rfl, Lib.hid (World.ownsRow_nil _ _ _ _)⟩
  case round =>
    obtain ⟨hr, k, hk, rfl, rfl, hO⟩ := hrel
    have hEx := hE.tr hr
    obtain ⟨g0, g1, g2, g3, g4, g5⟩ := (kg.ext hr zg).six
    obtain ⟨h0, h1, h2, h3, h4, h5⟩ := (kh.ext hr zh).six
    have zg2 := hr.sz _ zg
    have zh2 := hr.sz _ zh
    have S1 := Lib.hid (fun w' (hw : Ext w w') => HCL.out k hk w' hw)
    have FZ := HFZ.out k
    obtain ⟨hi, hzi0, hzi1, hzi2⟩ := HI.out
    by_cases hlt : k < l.length
    · obtain ⟨b, off, rfl, hb0, hcell⟩ := hD.p1 hlt
      have c1 := hcell _ hEx
      have hz := hEx.sz _ hb0
      have zb : b < W.heap.size := hE.sz _ hb0
      rw [← gi_lt] at c1
      clear hcell
      have hlo := Lib.hid (loL_succ l k)
      rw [hiV_lt hlt] at S1
      have hWr : W.heap.size ≤ wr.heap.size := hr.size
      obtain ⟨w0, hw0⟩ : ∃ w0, w0 = wr := ⟨_, rfl⟩
      subst hw0
      generalize gi l k = v at *
      generalize loL l k = lo at *
      go_upto_region 6 with fail
      go_cut [7] (fun s7 wx => Ext W wx ∧ Hid (wx.ownsRow W.heap.size 58 3 s7 (k + 1) ((mkC F (k + 1)).flatMap encC)))
      case first =>
        clear hD
        go_region_held3 (fun w' => (∀ j : Nat, w'.cell? ⟨w.heap.size, j, none⟩ = w0.cell? ⟨w.heap.size, j, none⟩) ∧ (∀ j : Nat, w'.cell? ⟨nh, j, none⟩ = w0.cell? ⟨nh, j, none⟩) ∧ w'.cell? ⟨b, off + k, none⟩ = some (.int .i64 v) ∧ Below W.heap.size w0 w') ((refine keepW ?_ zg zh zb c1; (first | exact hB4 | (refine Below.mono (show Ext w0 _ from ?_) hWr; (repeat (first | with_reducible exact Ext.rfl' _ | with_reducible assumption | with_reducible refine Ext.al ?_ _ | with_reducible refine Ext.dr ?_ | with_reducible refine Ext.tr ?_ (by assumption))))))) (first | (go_at_call 92; (with_reducible refine Calls.mono (S1.out _ (hEx.tr (by (repeat (first | with_reducible exact Ext.rfl' _ | with_reducible assumption | with_reducible refine Ext.al ?_ _ | with_reducible refine Ext.dr ?_ | with_reducible refine Ext.st ?_ (by simp) _ | with_reducible refine Ext.tr ?_ (by assumption)))))) ?_); rintro e w3 ⟨rfl, hb3⟩; have hc3 := hb3.ccell; have hf3 := hb3.frz; have hs3 := hb3.sz; have hx3 : Ext w0 w3 := (Ext.dr (Ext.rfl' w0)).tr hb3) | (refine bstep_append rfl (.tmp 16) (.tmp 25) 61 rfl W.heap.size 58 i0 _ 3 24 Try.underlying61 hi hzi0 hzi1 hzi2 rfl (by decide) _ k _ rfl (World.ownsRow.alloc (ownsRow_ext hO.out hx3) _) ⟨_, 0, none⟩ 1 1 [.int .i64 (F k).x, .int .i64 (F k).y, .int .i64 0] rfl rfl (three_newZ _ _ _ _ _) (by intro u hu; simp at hu; rcases hu with rfl | rfl | rfl <;> rfl) (by unfold maxLen; omega) (by omega) (by have := (hr.tr hx3).size; simp; omega) ?_; intro v' w4 hown hgrow; have hE4 : Ext W w4 := (grown_ext (Ext.al (hr.tr hx3) _) (World.ownsRow.alloc (ownsRow_ext hO.out hx3) _) (Nat.le_refl _) hgrow); have hB4 : Below W.heap.size w0 w4 := (Below.grown (Below.mono (Ext.al hx3 _) hWr) hgrow (by have := (hr.tr hx3).size; simp; omega) (by intro q hq; exact (World.ownsRow.lt (ownsRow_ext hO.out hx3) q hq).1)); have hown2 : Hid (w4.ownsRow W.heap.size 58 3 v' (k + 1) ((mkC F (k + 1)).flatMap encC)) := Lib.hid (by rw [mkC_succ, FZ]; exact hown)))
        all_goals
          rename_i hJ hK h1 h2 hH
          clear hH
          refine h2 _ _ (Met.intro (h1 _ _ ?_))
          (repeat apply Exists.intro)
          refine ⟨?_, rfl⟩
          exact ⟨hE4, hown2⟩
      case rest =>
        obtain ⟨hE4, hO4⟩ := hcut
        have hEc := hE.tr hE4
        obtain ⟨b', off', hab, _, hcell'⟩ := hD.p1 hlt
        injection hab with hab
        injection hab with hab1 hab2
        subst hab1 hab2
        have d1 := (hE4.ccell _ _ zb).trans ((hr.ccell _ _ zb).symm.trans c1)
        have zb4 := hE4.sz _ zb
        clear g0 g1 g2 g3 g4 g5 h0 h1 h2 h3 h4 h5 c1 hcell' hi hzi0 hzi1 hzi2
        go_wp2
        exact ⟨⟨hE4, k + 1, by omega, by go_num, by rw [hlo.out], hO4⟩, by simp [intOf]; omega⟩
    · have hks : k = l.length := by omega
      subst hks
      rw [hiV_end] at S1
      generalize loL l l.length = lo at *
      go_wp2_with (first | (go_at_call 92; with_reducible refine Calls.mono (S1.out _ (by (repeat (first | with_reducible exact Ext.rfl' _ | with_reducible assumption | with_reducible refine Ext.al ?_ _ | with_reducible refine Ext.dr ?_ | with_reducible refine Ext.st ?_ (by simp) _ | with_reducible refine Ext.tr ?_ (by assumption))))) ?_; rintro e w3 ⟨rfl, hb⟩; have hc := hb.ccell; have hf := hb.frz; have hs := hb.sz; (try simp at hs); (try have t0 := hs (w.heap.size) (by first | assumption | omega)); (try have t1 := hs (w.heap.size) (by first | assumption | omega)); (try have t2 := hs (w.heap.size) (by first | assumption | omega)); (try have t3 := hs (w.heap.size) (by first | assumption | omega)); (try have t4 := hs (w.heap.size) (by first | assumption | omega)); (try have t5 := hs (w.heap.size) (by first | assumption | omega))) | (at_builtin; refine wpList_append_own _ rfl _ _ 61 rfl W.heap.size 58 i0 _ 3 24 Try.underlying61 hi hzi0 hzi1 hzi2 rfl (by decide) _ _ _ rfl (World.ownsRow.alloc (ownsRow_ext hO.out (by assumption)) _) ⟨_, 0, none⟩ 1 1 [.int .i64 (F l.length).x, .int .i64 (F l.length).y, .int .i64 0] rfl rfl ?_ ?_ ?_ ?_ ?_ ?_))
      · exact three_newZ _ _ _ _ _
      · intro u hu; simp at hu; rcases hu with rfl | rfl | rfl <;> rfl
      · unfold maxLen; omega
      · omega
      · have hE3 : Ext wr w3 := by assumption
        have := (hr.tr hE3).size
        simp; omega
      intro v' w4 hown hgrow _
      have hE3 : Ext wr w3 := by assumption
      have hE4 : Ext W w4 := grown_ext (Ext.al (hr.tr hE3) _) (World.ownsRow.alloc (ownsRow_ext hO.out hE3) _) (Nat.le_refl _) hgrow
      have hE5 : Ext w w4 := hE.tr hE4
      have hown2 : w4.ownsRow W.heap.size 58 3 v' (l.length + 1) ((mkC F (l.length + 1)).flatMap encC) := by rw [mkC_succ, FZ]; exact hown
      obtain ⟨A', c', hv, _, _, hcase⟩ := ownK_cases encC_len (l := mkC F (l.length + 1)) rfl (mkC_len _ _).symm hown2
      subst hv
      have hrow := Lib.hid (ownK_row encC_len hcase)
      clear hown hown2 hgrow hi hzi0 hzi1 hzi2 hO hcase
      go_wp2
      go_ret
      exact ⟨⟨A', c', rfl, hrow.out⟩, hE5⟩
end Go.Proofs.Ytgnakeemcccfjaa
