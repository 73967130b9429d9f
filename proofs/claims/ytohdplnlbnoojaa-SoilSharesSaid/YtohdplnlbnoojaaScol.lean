/- The contracts of column, Column of the program and of the reference, parts. -/
import Derived.Test.YtohdplnlbnoojaaSrnear
import Derived.Test.YtohdplnlbnoojaaSslo2
namespace Go.Proofs.Ytohdplnlbnoojaa
open Go Go.RowKit Go.IntWalk

/-- A part of a column. -/
structure Pa where
  s : ByteArray
  t : Int
  b : Int
instance : Inhabited Pa := ⟨⟨⟨#[]⟩, 0, 0⟩⟩
def encPa (x : Pa) : List Value := [.string x.s, .int .i64 x.t, .int .i64 x.b]
theorem encPa_len (x : Pa) : (encPa x).length = 3 := rfl
theorem infoPa : (Try.prog.info? 52).map (fun i => (i.zero, i.size, i.bytes)) = some (some (.agg #[.string ⟨#[]⟩, .int .i64 0, .int .i64 0]), 3, 32) := by kernel_rfl
theorem Row.pa {w : World} {A : Option Addr} {l : List Pa} (h : Row 3 encPa w A l) {k : Nat} (hk : k < l.length) :
    ∃ b off, A = some ⟨b, off, none⟩ ∧ b < w.heap.size ∧ ∀ w', Ext w w' → w'.cell? ⟨b, off + k * 3, none⟩ = some (.string (el l k).s) ∧ w'.cell? ⟨b, off + k * 3 + 1, none⟩ = some (.int .i64 (el l k).t) ∧ w'.cell? ⟨b, off + k * 3 + 2, none⟩ = some (.int .i64 (el l k).b) := by
  obtain ⟨b, off, h1, h2, h3⟩ := h.addr (by omega)
  rw [el_lt _ _ hk]
  exact ⟨b, off, h1, h2, fun w' hw => ⟨h3 w' hw k hk 0 _ rfl, h3 w' hw k hk 1 _ rfl, h3 w' hw k hk 2 _ rfl⟩⟩
theorem three_newPa (w : World) (x y z : Value) (t : TypeId) : ∀ j u, [x, y, z][j]? = some u → (w.alloc (.cells #[x, y, z] t)).cell? ((⟨w.heap.size, 0, none⟩ : Addr).add j) = some u := by
  intro j u hu
  match j with
  | 0 => simpa [Addr.add, go_sem] using hu
  | 1 => simpa [Addr.add, go_sem] using hu
  | 2 => simpa [Addr.add, go_sem] using hu
  | j + 3 => simp at hu
def OutPa (l : List Pa) (e : Ending) (w' : World) : Prop := ∃ A c, e = .returned (.slice A l.length c) ∧ Row 3 encPa w' A l
theorem pa_put {w : World} {base n : Nat} {v : Value} {l l' : List Pa} {s : ByteArray} {x y : Int} (hl : l' = l ++ [⟨s, x, y⟩]) (hn : n = l.length + 1) (h : w.ownsRow base 52 3 v n (l.flatMap encPa ++ [.string s, .int .i64 x, .int .i64 y])) : w.ownsRow base 52 3 v l'.length (l'.flatMap encPa) := by
  subst hl hn
  rw [List.length_append, List.flatMap_append]
  exact h
def colT (l : List La) (f : Int) (k : Nat) : Int := if 0 < k then min f (el l k).t else f
def colB (l : List La) (z : Int) (k : Nat) : Int := if k + 1 < l.length then max z (el l (k + 1)).t else z
/-- The parts of the first layers. -/
def colN (l : List La) (f z : Int) : Nat → List Pa
  | 0 => []
  | k + 1 => if colB l z k < colT l f k then colN l f z k ++ [⟨(el l k).s, colT l f k, colB l z k⟩] else colN l f z k
theorem colN_len (l : List La) (f z : Int) : ∀ k, (colN l f z k).length ≤ k
  | 0 => Nat.le_refl _
  | k + 1 => by
    have := colN_len l f z k
    rw [colN]
    split
    · rw [List.length_append]; simp; omega
    · omega

set_option maxHeartbeats 16000000 in
set_option maxRecDepth 100000 in
theorem column_c (l : List La) (f z : Int) (w : World) (A : Option Addr) (c : Nat) (hl : l.length ≤ 1000) (hA : Row 2 encLa w A l) :
    Calls Try.prog 71 #[.slice A l.length c, .int .i64 f, .int .i64 z] w fun e w' => OutPa (colN l f z l.length) e w' ∧ Ext w w' := by
  obtain ⟨i0, hi, hzi0, hzi1, hzi2⟩ := info_parts infoPa
  have HI := Lib.hid (And.intro hi (And.intro hzi0 (And.intro hzi1 hzi2)))
  have hLA := Lib.hid hA
  clear hi hzi0 hzi1 hzi2 hA
  go_enter Try.func71, Try.ntmps71
  go_wp2
  go_loopw [7, 14] (fun o i wr => Ext w wr ∧ ∃ k : Nat, k ≤ l.length ∧ i = .int .i64 k ∧ Hid (wr.ownsRow w.heap.size 52 3 o (colN l f z k).length ((colN l f z k).flatMap encPa))) (fun _ i _ => l.length - (intOf i).toNat)
  case atStart => exact ⟨Ext.rfl' _, 0, Nat.zero_le _, rfl, Lib.hid (World.ownsRow_nil _ _ _ _)⟩
  case round =>
    obtain ⟨hE, k, hk, rfl, hO⟩ := hrel
    obtain ⟨hi, hzi0, hzi1, hzi2⟩ := HI.out
    by_cases hlt : k < l.length
    · obtain ⟨b, off, rfl, hb0, hcell⟩ := hLA.out.la hlt
      have hz := hE.sz _ hb0
      obtain ⟨e0, e1⟩ := hcell _ hE
      have hzE := hE.size
      have hPl := colN_len l f z k
      obtain ⟨m, hkm⟩ : ∃ m, k + 1 = m := ⟨_, rfl⟩
      have hw1 : IntKind.i64.wrap ((k : Int) + 1) = (m : Int) := by rw [show (k : Int) + 1 = (m : Int) by omega]; exact IntWalk.i64_in _ (by omega)
      have HM := Lib.hid hkm
      have HP : Hid (colN l f z m = if colB l z k < colT l f k then colN l f z k ++ [⟨(el l k).s, colT l f k, colB l z k⟩] else colN l f z k) := Lib.hid (by rw [← hkm]; rfl)
      have HB : Hid (colB l z k = if m < l.length then max z (el l m).t else z) := Lib.hid (by rw [← hkm]; rfl)
      have HT : Hid (colT l f k = if 0 < k then min f (el l k).t else f) := rfl
      have hmc : m < l.length → ∃ y, (el l m).t = y ∧ ∀ w', Ext w w' → w'.cell? ⟨b, off + m * 2, none⟩ = some (.int .i64 y) := by
        intro h
        obtain ⟨b', off', hq, _, hc'⟩ := hLA.out.la h
        injection hq with hq
        injection hq with h1 h2
        subst h1 h2
        exact ⟨_, rfl, fun w' hw => (hc' w' hw).1⟩
      have hbd : m ≤ 1000 := by omega
      clear hkm hcell
      generalize colN l f z k = PN at *
      generalize el l k = u at *
      obtain ⟨ut, us⟩ := u
      dsimp only at *
      by_cases hk0 : 0 < k
      · rw [if_pos hk0] at HT
        have hm0 : decide (0 < k) = true := decide_eq_true hk0
        by_cases hml : m < l.length
        · rw [if_pos hml] at HB
          obtain ⟨y, hy, cy⟩ := hmc hml
          rw [hy] at HB
          have cy0 := cy _ (Ext.al hE (.cells #[.int .i64 ut, .string us] 108))
          have hmi : (m : Int) < (l.length : Int) := by omega
          clear hy cy
          have hT0 := HT.out
          have hB0 := HB.out
          rw [hT0, hB0] at HP
          clear HT HB hT0 hB0 hmc
          by_cases hd : max z y < min f ut
          · rw [if_pos hd] at HP
            go_wp2_with (first | (at_builtin; refine wpList_append_own _ rfl _ _ 40 rfl w.heap.size 52 i0 _ 3 32 Try.underlying40 hi hzi0 hzi1 hzi2 rfl (by decide) _ _ _ rfl (World.ownsRow.alloc (ownsRow_ext hO.out (Ext.al (Ext.rfl' _) _)) _) ⟨_, 0, none⟩ 1 1 [.string us, .int .i64 (min f ut), .int .i64 (max z y)] rfl rfl ?aq1 ?aq2 ?aq3 ?aq4 ?aq5 ?_))
            try case aq1 =>
              intro j u hu
              match j with
              | 0 => simpa [Addr.add, go_sem] using hu
              | 1 => simpa [Addr.add, go_sem] using hu
              | 2 => simpa [Addr.add, go_sem] using hu
              | j + 3 => simp at hu
            try case aq2 => first | exact ⟨rfl, rfl, rfl⟩ | (intro u hu; simp at hu; rcases hu with rfl | rfl | rfl <;> rfl)
            try case aq3 => unfold maxLen; omega
            try case aq4 => omega
            try case aq5 => first | omega | (simp; omega)
            intro v' w4 hown hgrow _
            have hE4 : Ext w w4 := grown_ext (Ext.al (Ext.al hE _) _) (World.ownsRow.alloc (ownsRow_ext hO.out (Ext.al (Ext.rfl' _) _)) _) (Nat.le_refl _) hgrow
            have hown2 := Lib.hid (pa_put HP.out rfl hown)
            clear hown hgrow hi hzi0 hzi1 hzi2
            go_wp2
            exact ⟨⟨hE4, m, by have := HM.out; omega, rfl, hown2⟩, by have := HM.out; simp [intOf]; omega⟩
          · rw [if_neg hd] at HP
            go_wp2
            exact ⟨⟨by (repeat (first | with_reducible exact Ext.rfl' _ | with_reducible assumption | with_reducible refine Ext.al ?_ _ | with_reducible refine Ext.dr ?_ | with_reducible refine Ext.st ?_ (by simp) _ | with_reducible refine Ext.tr ?_ (by assumption))), m, by have := HM.out; omega, rfl, by rw [HP.out]; exact Lib.hid (ownsRow_ext hO.out (by (repeat (first | with_reducible exact Ext.rfl' _ | with_reducible assumption | with_reducible refine Ext.al ?_ _ | with_reducible refine Ext.dr ?_ | with_reducible refine Ext.st ?_ (by simp) _ | with_reducible refine Ext.tr ?_ (by assumption)))))⟩, by have := HM.out; simp [intOf]; omega⟩
        · rw [if_neg hml] at HB
          have hmi : ¬ (m : Int) < (l.length : Int) := by omega
          have hT0 := HT.out
          have hB0 := HB.out
          rw [hT0, hB0] at HP
          clear HT HB hT0 hB0 hmc
          by_cases hd : z < min f ut
          · rw [if_pos hd] at HP
            go_wp2_with (first | (at_builtin; refine wpList_append_own _ rfl _ _ 40 rfl w.heap.size 52 i0 _ 3 32 Try.underlying40 hi hzi0 hzi1 hzi2 rfl (by decide) _ _ _ rfl (World.ownsRow.alloc (ownsRow_ext hO.out (Ext.al (Ext.rfl' _) _)) _) ⟨_, 0, none⟩ 1 1 [.string us, .int .i64 (min f ut), .int .i64 (z)] rfl rfl ?bq1 ?bq2 ?bq3 ?bq4 ?bq5 ?_))
            try case bq1 =>
              intro j u hu
              match j with
              | 0 => simpa [Addr.add, go_sem] using hu
              | 1 => simpa [Addr.add, go_sem] using hu
              | 2 => simpa [Addr.add, go_sem] using hu
              | j + 3 => simp at hu
            try case bq2 => first | exact ⟨rfl, rfl, rfl⟩ | (intro u hu; simp at hu; rcases hu with rfl | rfl | rfl <;> rfl)
            try case bq3 => unfold maxLen; omega
            try case bq4 => omega
            try case bq5 => first | omega | (simp; omega)
            intro v' w4 hown hgrow _
            have hE4 : Ext w w4 := grown_ext (Ext.al (Ext.al hE _) _) (World.ownsRow.alloc (ownsRow_ext hO.out (Ext.al (Ext.rfl' _) _)) _) (Nat.le_refl _) hgrow
            have hown2 := Lib.hid (pa_put HP.out rfl hown)
            clear hown hgrow hi hzi0 hzi1 hzi2
            go_wp2
            exact ⟨⟨hE4, m, by have := HM.out; omega, rfl, hown2⟩, by have := HM.out; simp [intOf]; omega⟩
          · rw [if_neg hd] at HP
            go_wp2
            exact ⟨⟨by (repeat (first | with_reducible exact Ext.rfl' _ | with_reducible assumption | with_reducible refine Ext.al ?_ _ | with_reducible refine Ext.dr ?_ | with_reducible refine Ext.st ?_ (by simp) _ | with_reducible refine Ext.tr ?_ (by assumption))), m, by have := HM.out; omega, rfl, by rw [HP.out]; exact Lib.hid (ownsRow_ext hO.out (by (repeat (first | with_reducible exact Ext.rfl' _ | with_reducible assumption | with_reducible refine Ext.al ?_ _ | with_reducible refine Ext.dr ?_ | with_reducible refine Ext.st ?_ (by simp) _ | with_reducible refine Ext.tr ?_ (by assumption)))))⟩, by have := HM.out; simp [intOf]; omega⟩
      · rw [if_neg hk0] at HT
        have hm0 : decide (0 < k) = false := decide_eq_false hk0
        by_cases hml : m < l.length
        · rw [if_pos hml] at HB
          obtain ⟨y, hy, cy⟩ := hmc hml
          rw [hy] at HB
          have cy0 := cy _ (Ext.al hE (.cells #[.int .i64 ut, .string us] 108))
          have hmi : (m : Int) < (l.length : Int) := by omega
          clear hy cy
          have hT0 := HT.out
          have hB0 := HB.out
          rw [hT0, hB0] at HP
          clear HT HB hT0 hB0 hmc
          by_cases hd : max z y < f
          · rw [if_pos hd] at HP
            go_wp2_with (first | (at_builtin; refine wpList_append_own _ rfl _ _ 40 rfl w.heap.size 52 i0 _ 3 32 Try.underlying40 hi hzi0 hzi1 hzi2 rfl (by decide) _ _ _ rfl (World.ownsRow.alloc (ownsRow_ext hO.out (Ext.al (Ext.rfl' _) _)) _) ⟨_, 0, none⟩ 1 1 [.string us, .int .i64 (f), .int .i64 (max z y)] rfl rfl ?cq1 ?cq2 ?cq3 ?cq4 ?cq5 ?_))
            try case cq1 =>
              intro j u hu
              match j with
              | 0 => simpa [Addr.add, go_sem] using hu
              | 1 => simpa [Addr.add, go_sem] using hu
              | 2 => simpa [Addr.add, go_sem] using hu
              | j + 3 => simp at hu
            try case cq2 => first | exact ⟨rfl, rfl, rfl⟩ | (intro u hu; simp at hu; rcases hu with rfl | rfl | rfl <;> rfl)
            try case cq3 => unfold maxLen; omega
            try case cq4 => omega
            try case cq5 => first | omega | (simp; omega)
            intro v' w4 hown hgrow _
            have hE4 : Ext w w4 := grown_ext (Ext.al (Ext.al hE _) _) (World.ownsRow.alloc (ownsRow_ext hO.out (Ext.al (Ext.rfl' _) _)) _) (Nat.le_refl _) hgrow
            have hown2 := Lib.hid (pa_put HP.out rfl hown)
            clear hown hgrow hi hzi0 hzi1 hzi2
            go_wp2
            exact ⟨⟨hE4, m, by have := HM.out; omega, rfl, hown2⟩, by have := HM.out; simp [intOf]; omega⟩
          · rw [if_neg hd] at HP
            go_wp2
            exact ⟨⟨by (repeat (first | with_reducible exact Ext.rfl' _ | with_reducible assumption | with_reducible refine Ext.al ?_ _ | with_reducible refine Ext.dr ?_ | with_reducible refine Ext.st ?_ (by simp) _ | with_reducible refine Ext.tr ?_ (by assumption))), m, by have := HM.out; omega, rfl, by rw [HP.out]; exact Lib.hid (ownsRow_ext hO.out (by (repeat (first | with_reducible exact Ext.rfl' _ | with_reducible assumption | with_reducible refine Ext.al ?_ _ | with_reducible refine Ext.dr ?_ | with_reducible refine Ext.st ?_ (by simp) _ | with_reducible refine Ext.tr ?_ (by assumption)))))⟩, by have := HM.out; simp [intOf]; omega⟩
        · rw [if_neg hml] at HB
          have hmi : ¬ (m : Int) < (l.length : Int) := by omega
          have hT0 := HT.out
          have hB0 := HB.out
          rw [hT0, hB0] at HP
          clear HT HB hT0 hB0 hmc
          by_cases hd : z < f
          · rw [if_pos hd] at HP
            go_wp2_with (first | (at_builtin; refine wpList_append_own _ rfl _ _ 40 rfl w.heap.size 52 i0 _ 3 32 Try.underlying40 hi hzi0 hzi1 hzi2 rfl (by decide) _ _ _ rfl (World.ownsRow.alloc (ownsRow_ext hO.out (Ext.al (Ext.rfl' _) _)) _) ⟨_, 0, none⟩ 1 1 [.string us, .int .i64 (f), .int .i64 (z)] rfl rfl ?dq1 ?dq2 ?dq3 ?dq4 ?dq5 ?_))
            try case dq1 =>
              intro j u hu
              match j with
              | 0 => simpa [Addr.add, go_sem] using hu
              | 1 => simpa [Addr.add, go_sem] using hu
              | 2 => simpa [Addr.add, go_sem] using hu
              | j + 3 => simp at hu
            try case dq2 => first | exact ⟨rfl, rfl, rfl⟩ | (intro u hu; simp at hu; rcases hu with rfl | rfl | rfl <;> rfl)
            try case dq3 => unfold maxLen; omega
            try case dq4 => omega
            try case dq5 => first | omega | (simp; omega)
            intro v' w4 hown hgrow _
            have hE4 : Ext w w4 := grown_ext (Ext.al (Ext.al hE _) _) (World.ownsRow.alloc (ownsRow_ext hO.out (Ext.al (Ext.rfl' _) _)) _) (Nat.le_refl _) hgrow
            have hown2 := Lib.hid (pa_put HP.out rfl hown)
            clear hown hgrow hi hzi0 hzi1 hzi2
            go_wp2
            exact ⟨⟨hE4, m, by have := HM.out; omega, rfl, hown2⟩, by have := HM.out; simp [intOf]; omega⟩
          · rw [if_neg hd] at HP
            go_wp2
            exact ⟨⟨by (repeat (first | with_reducible exact Ext.rfl' _ | with_reducible assumption | with_reducible refine Ext.al ?_ _ | with_reducible refine Ext.dr ?_ | with_reducible refine Ext.st ?_ (by simp) _ | with_reducible refine Ext.tr ?_ (by assumption))), m, by have := HM.out; omega, rfl, by rw [HP.out]; exact Lib.hid (ownsRow_ext hO.out (by (repeat (first | with_reducible exact Ext.rfl' _ | with_reducible assumption | with_reducible refine Ext.al ?_ _ | with_reducible refine Ext.dr ?_ | with_reducible refine Ext.st ?_ (by simp) _ | with_reducible refine Ext.tr ?_ (by assumption)))))⟩, by have := HM.out; simp [intOf]; omega⟩
    · have hks : k = l.length := by omega
      subst hks
      obtain ⟨A', c', hv, _, _, hcase⟩ := ownK_cases encPa_len rfl rfl hO.out
      subst hv
      have hrw := Lib.hid (ownK_row encPa_len hcase)
      clear hO hcase
      go_wp2
      go_ret
      exact ⟨⟨A', c', rfl, hrw.out⟩, hE⟩
end Go.Proofs.Ytohdplnlbnoojaa
