/- The contract of the reference's Column, with the freshness of what it returns. -/
import Derived.Test.YtohdplnlbnoojaaScol
namespace Go.Proofs.Ytohdplnlbnoojaa
open Go Go.RowKit Go.IntWalk

def OutPaF (base : Nat) (l : List Pa) (e : Ending) (w' : World) : Prop := ∃ A c, e = .returned (.slice A l.length c) ∧ Row 3 encPa w' A l ∧ (∀ b off, A = some ⟨b, off, none⟩ → base ≤ b)
set_option maxHeartbeats 16000000 in
set_option maxRecDepth 100000 in
theorem rcolumnF_c (soils : List So) (bos : List Bo) (x y f z : Int) (w : World) (AS AB : Option Addr) (cS cB : Nat) (g : GrW w soils AS bos AB) (v : VGd soils bos) (hp : plB x y = true) :
    Calls Try.prog 28 #[.agg #[.slice AS soils.length cS, .slice AB bos.length cB], .agg #[.int .i64 x, .int .i64 y], .int .i64 f, .int .i64 z] w fun e w' => OutPaF w.heap.size (colN (el bos (nearB bos x y)).l f z (el bos (nearB bos x y)).l.length) e w' ∧ Ext w w' := by
  have HNE := Lib.hid (fun w' (hw : Ext w w') => rnearest_c soils bos x y w' AS AB cS cB (g.ext hw) v hp)
  have hn := nearB_lt v x y
  have hlen : bos.length ≤ 1000 := g.lb
  have vb := (v.b _ hn).pos
  have hla := (g.la _ hn).1
  have hll := (g.la _ hn).2.1
  obtain ⟨b, off, rfl, hb0, hcell⟩ := g.bo.bo hn
  generalize nearB bos x y = n at *
  clear g v
  generalize el bos n = u at *
  obtain ⟨us, ux, uy, l, A, c⟩ := u
  dsimp only at *
  obtain ⟨i0, hi, hzi0, hzi1, hzi2⟩ := info_parts infoPa
  have HI := Lib.hid (And.intro hi (And.intro hzi0 (And.intro hzi1 hzi2)))
  have hLA := Lib.hid hla
  clear hi hzi0 hzi1 hzi2 hla
  go_enter Try.func28, Try.ntmps28
  go_upto_region 1 with fail
  refine wp_name (fun W hW => ?_)
  have hEW : Ext w W := by rw [hW]; (repeat (first | with_reducible exact Ext.rfl' _ | with_reducible assumption | with_reducible refine Ext.al ?_ _ | with_reducible refine Ext.dr ?_ | with_reducible refine Ext.st ?_ (by simp) _ | with_reducible refine Ext.tr ?_ (by assumption)))
  have r0 : W.cell? ⟨w.heap.size, 0, none⟩ = some (.slice AS soils.length cS) := by rw [hW]; simp [go_sem]
  have r1 : W.cell? ⟨w.heap.size, 1, none⟩ = some (.slice (some ⟨b, off, none⟩) bos.length cB) := by rw [hW]; simp [go_sem]
  have s0 : W.cell? ⟨w.heap.size + 1, 0, none⟩ = some (.int .i64 x) := by rw [hW]; simp [go_sem]
  have s1 : W.cell? ⟨w.heap.size + 1, 1, none⟩ = some (.int .i64 y) := by rw [hW]; simp [go_sem]
  have hz1 : w.heap.size + 1 < W.heap.size := by rw [hW]; simp
  have hz0 : w.heap.size < W.heap.size := by omega
  have hbW := hEW.sz _ hb0
  obtain ⟨_, _, _, e3⟩ := hcell _ hEW
  clear hW hcell hb0
  refine region_grow (by kernel_rfl) (by kernel_rfl) ?_
  repeat (first | go_big_quiet_step (first | (go_at_call 24; with_reducible exact callsGrow (HNE.out _ (hEW.tr (Grow.ok _)))) | fail) | quiet_step (first | (go_at_call 24; with_reducible exact callsGrow (HNE.out _ (hEW.tr (Grow.ok _)))) | fail))
  refine wpQuiet_nil ?_
  intro w1 hb
  have hc := hb.ccell
  have hf := hb.frz
  have hs := hb.sz
  (try simp at hs); (try have hs0 := hs w.heap.size (by omega)); (try have hs1 := hs (w.heap.size + 1) (by omega)); (try have hs2 := hs (w.heap.size + 1 + 1) (by omega)); (try have hs3 := hs (w.heap.size + 1 + 1 + 1) (by omega))
  (try simp only [IntWalk.i64_left])
  have hE1 : Ext W w1 := by assumption
  have hE01 := hEW.tr hE1
  clear hb hc hf hs hs0 hs1 e3
  go_wp2
  go_loopw [10, 11] (fun o i wr => Ext w1 wr ∧ ∃ k : Nat, k ≤ l.length ∧ i = .int .i64 k ∧ Hid (wr.ownsRow w1.heap.size 52 3 o (colN l f z k).length ((colN l f z k).flatMap encPa))) (fun _ i _ => l.length - (intOf i).toNat)
  case atStart => exact ⟨Ext.rfl' _, 0, Nat.zero_le _, rfl, Lib.hid (World.ownsRow_nil _ _ _ _)⟩
  case round =>
    obtain ⟨hE', k, hk, rfl, hO⟩ := hrel
    have hE := hE01.tr hE'
    have hzE' := hE'.size
    obtain ⟨hi, hzi0, hzi1, hzi2⟩ := HI.out
    by_cases hlt : k < l.length
    · obtain ⟨b, off, rfl, hb0, hcell⟩ := hLA.out.la hlt
      have hz := hE.sz _ hb0
      obtain ⟨e0, e1⟩ := hcell _ hE
      have hzE := hE.size
      have hPl := colN_len l f z k
      obtain ⟨m, hkm⟩ : ∃ m, k + 1 = m := ⟨_, rfl⟩
      have hw1 : IntKind.i64.wrap ((k : Int) + 1) = (m : Int) := by rw [show (k : Int) + 1 = (m : Int) by omega]; exact IntWalk.i64_in _ (by omega)
      have HM := Lib.hid hkm
      have HP : Hid (colN l f z m = if colB l z k < colT l f k then colN l f z k ++ [⟨(el l k).s, colT l f k, colB l z k⟩] else colN l f z k) := Lib.hid (by rw [← hkm]; rfl)
      have HB : Hid (colB l z k = if m < l.length then max z (el l m).t else z) := Lib.hid (by rw [← hkm]; rfl)
      have HT : Hid (colT l f k = if 0 < k then min f (el l k).t else f) := rfl
      have hmc : m < l.length → ∃ y, (el l m).t = y ∧ ∀ w', Ext w w' → w'.cell? ⟨b, off + m * 2, none⟩ = some (.int .i64 y) := by
        intro h
        obtain ⟨b', off', hq, _, hc'⟩ := hLA.out.la h
        injection hq with hq
        injection hq with h1 h2
        subst h1 h2
        exact ⟨_, rfl, fun w' hw => (hc' w' hw).1⟩
      have hbd : m ≤ 1000 := by omega
      clear hkm hcell
      generalize colN l f z k = PN at *
      generalize el l k = u at *
      obtain ⟨ut, us⟩ := u
      dsimp only at *
      by_cases hk0 : 0 < k
      · rw [if_pos hk0] at HT
        have hm0 : decide (0 < k) = true := decide_eq_true hk0
        by_cases hml : m < l.length
        · rw [if_pos hml] at HB
          obtain ⟨y, hy, cy⟩ := hmc hml
          rw [hy] at HB
          have cy0 := cy _ hE
          have hmi : (m : Int) < (l.length : Int) := by omega
          clear hy cy
          have hT0 := HT.out
          have hB0 := HB.out
          rw [hT0, hB0] at HP
          clear HT HB hT0 hB0 hmc
          by_cases hd : max z y < min f ut
          · rw [if_pos hd] at HP
            go_wp2_with (first | (at_builtin; refine wpList_append_own _ rfl _ _ 40 rfl w1.heap.size 52 i0 _ 3 32 Try.underlying40 hi hzi0 hzi1 hzi2 rfl (by decide) _ _ _ rfl (World.ownsRow.alloc hO.out _) ⟨_, 0, none⟩ 1 1 [.string us, .int .i64 (min f ut), .int .i64 (max z y)] rfl rfl ?ar1 ?ar2 ?ar3 ?ar4 ?ar5 ?_))
            try case ar1 =>
              intro j u hu
              match j with
              | 0 => simpa [Addr.add, go_sem] using hu
              | 1 => simpa [Addr.add, go_sem] using hu
              | 2 => simpa [Addr.add, go_sem] using hu
              | j + 3 => simp at hu
            try case ar2 => first | exact ⟨rfl, rfl, rfl⟩ | (intro u hu; simp at hu; rcases hu with rfl | rfl | rfl <;> rfl)
            try case ar3 => unfold maxLen; omega
            try case ar4 => omega
            try case ar5 => first | omega | (simp; omega)
            intro v' w4 hown hgrow _
            have hE4 : Ext w1 w4 := grown_ext (Ext.al hE' _) (World.ownsRow.alloc hO.out _) (Nat.le_refl _) hgrow
            have hown2 := Lib.hid (pa_put HP.out rfl hown)
            clear hown hgrow hi hzi0 hzi1 hzi2
            go_wp2
            exact ⟨⟨hE4, m, by have := HM.out; omega, rfl, hown2⟩, by have := HM.out; simp [intOf]; omega⟩
          · rw [if_neg hd] at HP
            go_wp2
            exact ⟨⟨hE', m, by have := HM.out; omega, rfl, by rw [HP.out]; exact hO⟩, by have := HM.out; simp [intOf]; omega⟩
        · rw [if_neg hml] at HB
          have hmi : ¬ (m : Int) < (l.length : Int) := by omega
          have hT0 := HT.out
          have hB0 := HB.out
          rw [hT0, hB0] at HP
          clear HT HB hT0 hB0 hmc
          by_cases hd : z < min f ut
          · rw [if_pos hd] at HP
            go_wp2_with (first | (at_builtin; refine wpList_append_own _ rfl _ _ 40 rfl w1.heap.size 52 i0 _ 3 32 Try.underlying40 hi hzi0 hzi1 hzi2 rfl (by decide) _ _ _ rfl (World.ownsRow.alloc hO.out _) ⟨_, 0, none⟩ 1 1 [.string us, .int .i64 (min f ut), .int .i64 (z)] rfl rfl ?br1 ?br2 ?br3 ?br4 ?br5 ?_))
            try case br1 =>
              intro j u hu
              match j with
              | 0 => simpa [Addr.add, go_sem] using hu
              | 1 => simpa [Addr.add, go_sem] using hu
              | 2 => simpa [Addr.add, go_sem] using hu
              | j + 3 => simp at hu
            try case br2 => first | exact ⟨rfl, rfl, rfl⟩ | (intro u hu; simp at hu; rcases hu with rfl | rfl | rfl <;> rfl)
            try case br3 => unfold maxLen; omega
            try case br4 => omega
            try case br5 => first | omega | (simp; omega)
            intro v' w4 hown hgrow _
            have hE4 : Ext w1 w4 := grown_ext (Ext.al hE' _) (World.ownsRow.alloc hO.out _) (Nat.le_refl _) hgrow
            have hown2 := Lib.hid (pa_put HP.out rfl hown)
            clear hown hgrow hi hzi0 hzi1 hzi2
            go_wp2
            exact ⟨⟨hE4, m, by have := HM.out; omega, rfl, hown2⟩, by have := HM.out; simp [intOf]; omega⟩
          · rw [if_neg hd] at HP
            go_wp2
            exact ⟨⟨hE', m, by have := HM.out; omega, rfl, by rw [HP.out]; exact hO⟩, by have := HM.out; simp [intOf]; omega⟩
      · rw [if_neg hk0] at HT
        have hm0 : decide (0 < k) = false := decide_eq_false hk0
        by_cases hml : m < l.length
        · rw [if_pos hml] at HB
          obtain ⟨y, hy, cy⟩ := hmc hml
          rw [hy] at HB
          have cy0 := cy _ hE
          have hmi : (m : Int) < (l.length : Int) := by omega
          clear hy cy
          have hT0 := HT.out
          have hB0 := HB.out
          rw [hT0, hB0] at HP
          clear HT HB hT0 hB0 hmc
          by_cases hd : max z y < f
          · rw [if_pos hd] at HP
            go_wp2_with (first | (at_builtin; refine wpList_append_own _ rfl _ _ 40 rfl w1.heap.size 52 i0 _ 3 32 Try.underlying40 hi hzi0 hzi1 hzi2 rfl (by decide) _ _ _ rfl (World.ownsRow.alloc hO.out _) ⟨_, 0, none⟩ 1 1 [.string us, .int .i64 (f), .int .i64 (max z y)] rfl rfl ?cr1 ?cr2 ?cr3 ?cr4 ?cr5 ?_))
            try case cr1 =>
              intro j u hu
              match j with
              | 0 => simpa [Addr.add, go_sem] using hu
              | 1 => simpa [Addr.add, go_sem] using hu
              | 2 => simpa [Addr.add, go_sem] using hu
              | j + 3 => simp at hu
            try case cr2 => first | exact ⟨rfl, rfl, rfl⟩ | (intro u hu; simp at hu; rcases hu with rfl | rfl | rfl <;> rfl)
            try case cr3 => unfold maxLen; omega
            try case cr4 => omega
            try case cr5 => first | omega | (simp; omega)
            intro v' w4 hown hgrow _
            have hE4 : Ext w1 w4 := grown_ext (Ext.al hE' _) (World.ownsRow.alloc hO.out _) (Nat.le_refl _) hgrow
            have hown2 := Lib.hid (pa_put HP.out rfl hown)
            clear hown hgrow hi hzi0 hzi1 hzi2
            go_wp2
            exact ⟨⟨hE4, m, by have := HM.out; omega, rfl, hown2⟩, by have := HM.out; simp [intOf]; omega⟩
          · rw [if_neg hd] at HP
            go_wp2
            exact ⟨⟨hE', m, by have := HM.out; omega, rfl, by rw [HP.out]; exact hO⟩, by have := HM.out; simp [intOf]; omega⟩
        · rw [if_neg hml] at HB
          have hmi : ¬ (m : Int) < (l.length : Int) := by omega
          have hT0 := HT.out
          have hB0 := HB.out
          rw [hT0, hB0] at HP
          clear HT HB hT0 hB0 hmc
          by_cases hd : z < f
          · rw [if_pos hd] at HP
            go_wp2_with (first | (at_builtin; refine wpList_append_own _ rfl _ _ 40 rfl w1.heap.size 52 i0 _ 3 32 Try.underlying40 hi hzi0 hzi1 hzi2 rfl (by decide) _ _ _ rfl (World.ownsRow.alloc hO.out _) ⟨_, 0, none⟩ 1 1 [.string us, .int .i64 (f), .int .i64 (z)] rfl rfl ?dr1 ?dr2 ?dr3 ?dr4 ?dr5 ?_))
            try case dr1 =>
              intro j u hu
              match j with
              | 0 => simpa [Addr.add, go_sem] using hu
              | 1 => simpa [Addr.add, go_sem] using hu
              | 2 => simpa [Addr.add, go_sem] using hu
              | j + 3 => simp at hu
            try case dr2 => first | exact ⟨rfl, rfl, rfl⟩ | (intro u hu; simp at hu; rcases hu with rfl | rfl | rfl <;> rfl)
            try case dr3 => unfold maxLen; omega
            try case dr4 => omega
            try case dr5 => first | omega | (simp; omega)
            intro v' w4 hown hgrow _
            have hE4 : Ext w1 w4 := grown_ext (Ext.al hE' _) (World.ownsRow.alloc hO.out _) (Nat.le_refl _) hgrow
            have hown2 := Lib.hid (pa_put HP.out rfl hown)
            clear hown hgrow hi hzi0 hzi1 hzi2
            go_wp2
            exact ⟨⟨hE4, m, by have := HM.out; omega, rfl, hown2⟩, by have := HM.out; simp [intOf]; omega⟩
          · rw [if_neg hd] at HP
            go_wp2
            exact ⟨⟨hE', m, by have := HM.out; omega, rfl, by rw [HP.out]; exact hO⟩, by have := HM.out; simp [intOf]; omega⟩
    · have hks : k = l.length := by omega
      subst hks
      obtain ⟨A', c', hv, _, _, hcase⟩ := ownK_cases encPa_len rfl rfl hO.out
      subst hv
      have hrw := Lib.hid (ownK_row encPa_len hcase)
      have hfr : Hid (∀ b off, A' = some ⟨b, off, none⟩ → w.heap.size ≤ b) := Lib.hid (fun b off he => by
        rcases hcase with ⟨_, h, _⟩ | ⟨g0, h, hb, _⟩
        · rw [h] at he; cases he
        · rw [h] at he
          injection he with he
          injection he with e1 _
          rw [← e1]
          exact Nat.le_trans hE01.size hb)
      clear hO hcase
      go_wp2
      go_ret
      exact ⟨⟨A', c', rfl, hrw.out, hfr.out⟩, hE⟩
end Go.Proofs.Ytohdplnlbnoojaa
