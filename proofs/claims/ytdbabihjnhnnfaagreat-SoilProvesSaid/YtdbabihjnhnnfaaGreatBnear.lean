/- The contract of neighbours. -/
import Derived.Test.YtdbabihjnhnnfaaGreatBcopy
import Derived.Deep.DeepCutAuto
namespace Go.Proofs.YtdbabihjnhnnfaaGreat
open Go Go.RowKit Go.IntWalk

def zl (l : List Nat) : List Int := l.map (fun k : Nat => (k : Int))
theorem zl_len (l : List Nat) : (zl l).length = l.length := by simp [zl]
theorem zl_app (l m : List Nat) : zl (l ++ m) = zl l ++ zl m := by simp [zl]
theorem zl_flat (l : List Nat) (x : Nat) : (zl (l ++ [x])).flatMap encZ = (zl l).flatMap encZ ++ [.int .i64 (x : Int)] := by simp [zl, encZ]
theorem zl_flat_len (l : List Nat) : ((zl l).flatMap encZ).length = l.length := by rw [flat_lenK encZ_len, zl_len]; omega
/-- One number is put behind a row of the call's own. -/
theorem own_put {w : World} {base : Nat} {v : Value} {l : List Nat} {x : Nat} (h : w.ownsRow base 3 1 v (l.length + 1) ((zl l).flatMap encZ ++ [.int .i64 (x : Int)])) : w.ownsRow base 3 1 v (l ++ [x]).length ((zl (l ++ [x])).flatMap encZ) := by
  rw [zl_flat]; simpa using h
def nb1 (c i : Nat) : List Nat := if 0 < i / c then [i - c] else []
def nb2 (c i : Nat) : List Nat := nb1 c i ++ (if 0 < i % c then [i - 1] else [])
def nb3 (c i : Nat) : List Nat := nb2 c i ++ (if i % c + 1 < c then [i + 1] else [])
theorem nbr_nb3 (c r i : Nat) : nbr c r i = nb3 c i ++ (if i / c + 1 < r then [i + c] else []) := by unfold nbr nb3 nb2 nb1; simp
theorem iff1_len (p : Prop) [Decidable p] (x : Nat) : (if p then [x] else []).length ≤ 1 := by split <;> simp
theorem nb1_len (c i : Nat) : (nb1 c i).length ≤ 1 := iff1_len _ _
theorem nb2_len (c i : Nat) : (nb2 c i).length ≤ 2 := by unfold nb2; rw [List.length_append]; have := nb1_len c i; have := iff1_len (0 < i % c) (i - 1); omega
theorem nb3_len (c i : Nat) : (nb3 c i).length ≤ 3 := by unfold nb3; rw [List.length_append]; have := nb2_len c i; have := iff1_len (i % c + 1 < c) (i + 1); omega
def nbL1 (d i cn : Nat) : List Nat := if 0 < d then [i - cn] else []
def nbL2 (d m i cn : Nat) : List Nat := nbL1 d i cn ++ (if 0 < m then [i - 1] else [])
def nbL3 (d m i cn : Nat) : List Nat := nbL2 d m i cn ++ (if m + 1 < cn then [i + 1] else [])
def nbL4 (d m i cn rn : Nat) : List Nat := nbL3 d m i cn ++ (if d + 1 < rn then [i + cn] else [])
set_option maxHeartbeats 8000000 in
set_option maxRecDepth 100000 in
theorem neighbours_c (g : Gr) (cn rn i : Nat) (w : World) (A : Option Addr) (c : Nat) (hC : g.C = cn) (hR : g.R = rn) (h0 : 0 < cn) (h1 : cn ≤ 1024) (h2 : rn ≤ 1024) (hi : i < cn * rn) (hn : cn * rn ≤ 1024) :
    Calls Tryz.prog 90 #[.agg #[.int .i64 g.X, .int .i64 g.Y, .int .i64 g.S, .int .i64 g.C, .int .i64 g.R, .slice A g.L.length c], .int .i64 i] w fun e w' => OutZ w.heap.size (zl (nbr cn rn i)) e w' ∧ Ext w w' := by
  have q1 : i / cn < rn := by rw [Nat.div_lt_iff_lt_mul h0, Nat.mul_comm]; exact hi
  have m1 := Nat.mod_lt i h0
  have q2 : 0 < i / cn → cn ≤ i := by
    intro h
    have := Nat.div_add_mod i cn
    have : cn * 1 ≤ cn * (i / cn) := Nat.mul_le_mul_left cn h
    omega
  have q3 : i % cn ≤ i := Nat.mod_le _ _
  have N1 := nb1_len cn i
  have N2 := nb2_len cn i
  have N3 := nb3_len cn i
  rw [nbr_nb3]
  unfold nb3 nb2 nb1
  unfold nb3 nb2 nb1 at N3
  unfold nb2 nb1 at N2
  unfold nb1 at N1
  rw [hC, hR]
  have ed : (i : Int) / (cn : Int) = ((i / cn : Nat) : Int) := by simp
  have em : (i : Int) % (cn : Int) = ((i % cn : Nat) : Int) := by simp
  obtain ⟨d, hd⟩ : ∃ d, i / cn = d := ⟨_, rfl⟩
  obtain ⟨m, hm⟩ : ∃ m, i % cn = m := ⟨_, rfl⟩
  rw [hd] at ed
  rw [hm] at em
  rw [hd] at q1 q2
  rw [hm] at m1 q3
  rw [hd, hm] at N3
  rw [hd, hm] at N2
  rw [hd] at N1
  rw [hd, hm]
  rw [show ((if 0 < d then [i - cn] else []) ++ (if 0 < m then [i - 1] else []) ++ (if m + 1 < cn then [i + 1] else []) ++ (if d + 1 < rn then [i + cn] else [])) = nbL4 d m i cn rn from rfl]
  have hi2 : i ≤ 1024 := by omega
  have HE := Lib.hid (And.intro ed em)
  obtain ⟨i0, hi0, hz0, hz1, hz2⟩ := info_parts infoZ
  have HI := Lib.hid (And.intro hi0 (And.intro hz0 (And.intro hz1 hz2)))
  clear hd hm hC hR hi hi0 hz0 hz1 hz2
  go_enter Tryz.func90, Tryz.ntmps90
  go_upto_if 17 with fail
  refine region_grow (by kernel_rfl) (by kernel_rfl) ?_
  repeat (first | go_big_quiet_step (first  | fail) | quiet_step (first  | fail))
  refine wpQuiet_nil ?_
  intro w1 hb
  have hc := hb.ccell
  have hf := hb.frz
  have hs := hb.sz
  (try simp at hs); (try have hs0 := hs w.heap.size (by omega)); (try have hs1 := hs (w.heap.size + 1) (by omega)); (try have hs2 := hs (w.heap.size + 1 + 1) (by omega)); (try have hs3 := hs (w.heap.size + 1 + 1 + 1) (by omega))
  (try simp only [IntWalk.i64_left])
  go_upto_if 17 with fail
  have hE1 : Ext w w1 := by (repeat (first | with_reducible exact Ext.rfl' _ | with_reducible assumption | with_reducible refine Ext.al ?_ _ | with_reducible refine Ext.dr ?_ | with_reducible refine Ext.st ?_ (by simp) _ | with_reducible refine Ext.tr ?_ (by assumption)))
  have k3 : w1.cell? ⟨w.heap.size, 3, none⟩ = some (.int .i64 cn) := by simp [*, go_sem]
  have k4 : w1.cell? ⟨w.heap.size, 4, none⟩ = some (.int .i64 rn) := by simp [*, go_sem]
  have hz1 : w.heap.size < w1.heap.size := hs0
  rw [em]
  clear hc hf hs hb ed em HE
  have hO : Hid (w1.ownsRow w1.heap.size 3 1 (.slice none 0 0) ([] : List Nat).length ((zl ([] : List Nat)).flatMap encZ)) := Lib.hid (World.ownsRow_nil _ _ _ _)
  obtain ⟨hi0, hzi0, hzi1, hzi2⟩ := HI.out
  go_cut [5] (fun v wx => Ext w1 wx ∧ Hid (wx.ownsRow w1.heap.size 3 1 v (nbL1 d i cn).length ((zl (nbL1 d i cn)).flatMap encZ)))
  case first =>
    by_cases hq : 0 < d
    · have hle := q2 hq
      have hL : Hid (nbL1 d i cn = [] ++ [i - cn]) := Lib.hid (by unfold nbL1; rw [if_pos hq]; try rfl)
      go_wp2_with (first | (at_builtin; refine wpList_append_own _ rfl _ _ 26 rfl (w1.heap.size) 3 i0 _ 1 8 Tryz.underlying26 hi0 hzi0 hzi1 hzi2 rfl (by decide) _ _ _ rfl (World.ownsRow.alloc (ownsRow_ext (hO.out) (Ext.rfl' _)) _) ⟨_, 0, none⟩ 1 1 [.int .i64 ((i : Int) - (cn : Int))] rfl rfl ?_ ?_ ?_ ?_ ?_ ?_))
      · exact one_newZ _ _ _
      · intro u hu; simp at hu; subst hu; rfl
      · unfold maxLen; first | omega | (simp; done) | (simp; omega)
      · first | omega | (simp; done) | (simp; omega)
      · first | omega | (simp; done) | (simp; omega)
      intro v' w2 hown hgrow _
      have hE2 : Ext w1 w2 := grown_ext (Ext.al (Ext.rfl' _) _) (World.ownsRow.alloc hO.out _) (Nat.le_refl _) hgrow
      have hown2 := Lib.hid hown
      clear hown hgrow
      go_wp2
      go_meet
      refine ⟨hE2, Lib.hid ?_⟩
      rw [hL.out]
      refine own_put ?_
      have := hown2.out
      rwa [show (i : Int) - (cn : Int) = ((i - cn : Nat) : Int) by omega] at this
    · have hL : Hid (nbL1 d i cn = []) := Lib.hid (by unfold nbL1; simp [hq])
      have hq' : d = 0 := by omega
      go_wp2
      go_meet
      refine ⟨Ext.rfl' _, Lib.hid ?_⟩
      rw [hL.out]
      exact hO.out
  case rest =>
  obtain ⟨hX, hO⟩ := hcut
  obtain ⟨wo, hwo⟩ : ∃ wo, wo = wc := ⟨_, rfl⟩
  subst hwo
  have hl1 : (nbL1 d i cn).length ≤ 1 := by
    have := N1
    unfold nbL1
    exact this
  have k3' := (hX.ccell _ 3 hz1).trans k3
  have k4' := (hX.ccell _ 4 hz1).trans k4
  have hz1' := hX.sz _ hz1
  have hsz := hX.size
  go_upto_if 26 with fail
  go_cut [5] (fun v wx => Ext w1 wx ∧ Hid (wx.ownsRow w1.heap.size 3 1 v (nbL2 d m i cn).length ((zl (nbL2 d m i cn)).flatMap encZ)))
  case first =>
    by_cases hq : 0 < m
    · have hle : 1 ≤ i := by omega
      have hL : Hid (nbL2 d m i cn = nbL1 d i cn ++ [i - 1]) := Lib.hid (by unfold nbL2; rw [if_pos hq]; try rfl)
      go_wp2_with (first | (at_builtin; refine wpList_append_own _ rfl _ _ 26 rfl (w1.heap.size) 3 i0 _ 1 8 Tryz.underlying26 hi0 hzi0 hzi1 hzi2 rfl (by decide) _ _ _ rfl (World.ownsRow.alloc (ownsRow_ext (hO.out) (Ext.rfl' _)) _) ⟨_, 0, none⟩ 1 1 [.int .i64 ((i : Int) - 1)] rfl rfl ?_ ?_ ?_ ?_ ?_ ?_))
      · exact one_newZ _ _ _
      · intro u hu; simp at hu; subst hu; rfl
      · unfold maxLen; first | omega | (simp; done) | (simp; omega)
      · first | omega | (simp; done) | (simp; omega)
      · first | omega | (simp; done) | (simp; omega)
      intro v' w2 hown hgrow _
      have hE2 : Ext w1 w2 := grown_ext (Ext.al (hX) _) (World.ownsRow.alloc hO.out _) (Nat.le_refl _) hgrow
      have hown2 := Lib.hid hown
      clear hown hgrow
      go_wp2
      go_meet
      refine ⟨hE2, Lib.hid ?_⟩
      rw [hL.out]
      refine own_put ?_
      have := hown2.out
      rwa [show (i : Int) - 1 = ((i - 1 : Nat) : Int) by omega] at this
    · have hL : Hid (nbL2 d m i cn = nbL1 d i cn) := Lib.hid (by unfold nbL2; simp [hq])
      have hq' : m = 0 := by omega
      go_wp2
      go_meet
      refine ⟨hX, Lib.hid ?_⟩
      rw [hL.out]
      exact hO.out
  case rest =>
  obtain ⟨hX, hO⟩ := hcut
  obtain ⟨wo, hwo⟩ : ∃ wo, wo = wc := ⟨_, rfl⟩
  subst hwo
  have hl2 : (nbL2 d m i cn).length ≤ 2 := by
    have := N2
    unfold nbL2 nbL1
    exact this
  have k3' := (hX.ccell _ 3 hz1).trans k3
  have k4' := (hX.ccell _ 4 hz1).trans k4
  have hz1' := hX.sz _ hz1
  have hsz := hX.size
  go_upto_if 36 with fail
  go_cut [5] (fun v wx => Ext w1 wx ∧ Hid (wx.ownsRow w1.heap.size 3 1 v (nbL3 d m i cn).length ((zl (nbL3 d m i cn)).flatMap encZ)))
  case first =>
    by_cases hq : m + 1 < cn
    · skip
      have hL : Hid (nbL3 d m i cn = nbL2 d m i cn ++ [i + 1]) := Lib.hid (by unfold nbL3; rw [if_pos hq]; try rfl)
      go_wp2_with (first | (at_builtin; refine wpList_append_own _ rfl _ _ 26 rfl (w1.heap.size) 3 i0 _ 1 8 Tryz.underlying26 hi0 hzi0 hzi1 hzi2 rfl (by decide) _ _ _ rfl (World.ownsRow.alloc (ownsRow_ext (hO.out) (Ext.rfl' _)) _) ⟨_, 0, none⟩ 1 1 [.int .i64 ((i : Int) + 1)] rfl rfl ?_ ?_ ?_ ?_ ?_ ?_))
      · exact one_newZ _ _ _
      · intro u hu; simp at hu; subst hu; rfl
      · unfold maxLen; first | omega | (simp; done) | (simp; omega)
      · first | omega | (simp; done) | (simp; omega)
      · first | omega | (simp; done) | (simp; omega)
      intro v' w2 hown hgrow _
      have hE2 : Ext w1 w2 := grown_ext (Ext.al (hX) _) (World.ownsRow.alloc hO.out _) (Nat.le_refl _) hgrow
      have hown2 := Lib.hid hown
      clear hown hgrow
      go_wp2
      go_meet
      refine ⟨hE2, Lib.hid ?_⟩
      rw [hL.out]
      refine own_put ?_
      have := hown2.out
      rwa [show (i : Int) + 1 = ((i + 1 : Nat) : Int) by omega] at this
    · have hL : Hid (nbL3 d m i cn = nbL2 d m i cn) := Lib.hid (by unfold nbL3; simp [hq])
      have hq' : cn ≤ m + 1 := by omega
      go_wp2
      go_meet
      refine ⟨hX, Lib.hid ?_⟩
      rw [hL.out]
      exact hO.out
  case rest =>
  obtain ⟨hX, hO⟩ := hcut
  obtain ⟨wo, hwo⟩ : ∃ wo, wo = wc := ⟨_, rfl⟩
  subst hwo
  have hl3 : (nbL3 d m i cn).length ≤ 3 := by
    have := N3
    unfold nbL3 nbL2 nbL1
    exact this
  have k3' := (hX.ccell _ 3 hz1).trans k3
  have k4' := (hX.ccell _ 4 hz1).trans k4
  have hz1' := hX.sz _ hz1
  have hsz := hX.size
  go_upto_if 46 with fail
  go_cut [5] (fun v wx => Ext w1 wx ∧ Hid (wx.ownsRow w1.heap.size 3 1 v (nbL4 d m i cn rn).length ((zl (nbL4 d m i cn rn)).flatMap encZ)))
  case first =>
    by_cases hq : d + 1 < rn
    · skip
      have hL : Hid (nbL4 d m i cn rn = nbL3 d m i cn ++ [i + cn]) := Lib.hid (by unfold nbL4; rw [if_pos hq]; try rfl)
      go_wp2_with (first | (at_builtin; refine wpList_append_own _ rfl _ _ 26 rfl (w1.heap.size) 3 i0 _ 1 8 Tryz.underlying26 hi0 hzi0 hzi1 hzi2 rfl (by decide) _ _ _ rfl (World.ownsRow.alloc (ownsRow_ext (hO.out) (Ext.rfl' _)) _) ⟨_, 0, none⟩ 1 1 [.int .i64 ((i : Int) + (cn : Int))] rfl rfl ?_ ?_ ?_ ?_ ?_ ?_))
      · exact one_newZ _ _ _
      · intro u hu; simp at hu; subst hu; rfl
      · unfold maxLen; first | omega | (simp; done) | (simp; omega)
      · first | omega | (simp; done) | (simp; omega)
      · first | omega | (simp; done) | (simp; omega)
      intro v' w2 hown hgrow _
      have hE2 : Ext w1 w2 := grown_ext (Ext.al (hX) _) (World.ownsRow.alloc hO.out _) (Nat.le_refl _) hgrow
      have hown2 := Lib.hid hown
      clear hown hgrow
      go_wp2
      go_meet
      refine ⟨hE2, Lib.hid ?_⟩
      rw [hL.out]
      refine own_put ?_
      have := hown2.out
      rwa [show (i : Int) + (cn : Int) = ((i + cn : Nat) : Int) by omega] at this
    · have hL : Hid (nbL4 d m i cn rn = nbL3 d m i cn) := Lib.hid (by unfold nbL4; simp [hq])
      have hq' : rn ≤ d + 1 := by omega
      go_wp2
      go_meet
      refine ⟨hX, Lib.hid ?_⟩
      rw [hL.out]
      exact hO.out
  case rest =>
  obtain ⟨hX, hO⟩ := hcut
  obtain ⟨A', c', hv, hN⟩ := NewZ.of (l := zl (nbL4 d m i cn rn)) rfl (zl_len _).symm hO.out
  subst hv
  have HN := Lib.hid hN
  clear hO hN
  go_wp2
  go_ret
  exact ⟨⟨A', c', rfl, HN.out.mono hE1.size⟩, hE1.tr hX⟩
end Go.Proofs.YtdbabihjnhnnfaaGreat
