/- The contracts of notBelow and of Clear. -/
import Derived.Test.YtgnakeemcccfjaaGreatBsearch
namespace Go.Proofs.YtgnakeemcccfjaaGreat
open Go Go.RowKit Go.IntWalk

def chs (P : Nat → Bool) (n : Nat) : List Nat := (List.range n).filter P
theorem chs_succ (P : Nat → Bool) (k : Nat) : chs P (k + 1) = chs P k ++ (if P k then [k] else []) := by
  unfold chs
  rw [List.range_succ, List.filter_append]
  congr 1
  cases h : P k <;> simp [h]
theorem chs_len (P : Nat → Bool) (n : Nat) : (chs P n).length ≤ n := by
  have := List.length_filter_le P (List.range n)
  unfold chs
  simpa using this
set_option maxHeartbeats 4000000 in
theorem chooseN_c (g : Gr) (P : Nat → Bool) (p q : Nat) (w : World) (A : Option Addr) (c : Nat) (hl : g.L.length ≤ 2000)
    (hP : ∀ k, k < g.L.length → ∀ w', Ext w w' → Calls Tryz.prog 95 #[.int .i64 (k : Int), .pointer (some ⟨p, 0, none⟩), .pointer (some ⟨q, 0, none⟩)] w' fun e w'' => e = .returned (.bool (P k)) ∧ Ext w' w'') :
    Calls Tryz.prog 30 #[.agg #[.int .i64 g.X, .int .i64 g.Y, .int .i64 g.S, .int .i64 g.C, .int .i64 g.R, .slice A g.L.length c], .func (.func 95) #[] #[.pointer (some ⟨p, 0, none⟩), .pointer (some ⟨q, 0, none⟩)]] w
      fun e w' => OutZN w.heap.size (chs P g.L.length) e w' ∧ Ext w w' := by
  have HP := Lib.hid hP
  obtain ⟨i0, hi0, hzi0, hzi1, hzi2⟩ := info_parts infoZ
  have HI := Lib.hid (And.intro hi0 (And.intro hzi0 (And.intro hzi1 hzi2)))
  clear hP hi0 hzi0 hzi1 hzi2
  go_enter Tryz.func30, Tryz.ntmps30
  go_wp2
  have hEp : Ext w (w.alloc (.cells #[.int .i64 g.X, .int .i64 g.Y, .int .i64 g.S, .int .i64 g.C, .int .i64 g.R, .slice A g.L.length c] 24)) := by (repeat (first | with_reducible exact Ext.rfl' _ | with_reducible assumption | with_reducible refine Ext.al ?_ _ | with_reducible refine Ext.dr ?_ | with_reducible refine Ext.st ?_ (by simp) _ | with_reducible refine Ext.tr ?_ (by assumption)))
  generalize w.alloc (.cells #[.int .i64 g.X, .int .i64 g.Y, .int .i64 g.S, .int .i64 g.C, .int .i64 g.R, .slice A g.L.length c] 24) = wp at *
  go_loopw [5, 6, 10] (fun v _ i wr => Ext wp wr ∧ ∃ k : Nat, k ≤ g.L.length ∧ i = .int .i64 k ∧ Hid (wr.ownsRow wp.heap.size 3 1 v (chs P k).length ((zl (chs P k)).flatMap encZ))) (fun _ _ i _ => g.L.length - (intOf i).toNat)
  case atStart => exact ⟨Ext.rfl' _, 0, Nat.zero_le _, rfl, Lib.hid (World.ownsRow_nil _ _ _ _)⟩
  case round =>
    obtain ⟨hr, k, hk, rfl, hO⟩ := hrel
    have hE : Ext w wr := hEp.tr hr
    by_cases hlt : k < g.L.length
    · have HK1 := Lib.hid (fun w' (hw : Ext w w') => HP.out k hlt w' hw)
      have hln := chs_len P k
      have hcs := chs_succ P k
      cases hq : P k
      · rw [hq] at HK1 hcs
        have HN : Hid (chs P (k + 1) = chs P k) := Lib.hid (by rw [hcs]; simp)
        clear hq hcs
        go_wp2_with (first | (go_at_call 95; with_reducible refine Calls.mono (HK1.out _ (by (repeat (first | with_reducible exact Ext.rfl' _ | with_reducible assumption | with_reducible refine Ext.al ?_ _ | with_reducible refine Ext.dr ?_ | with_reducible refine Ext.st ?_ (by simp) _ | with_reducible refine Ext.tr ?_ (by assumption))))) ?_; rintro e w3 ⟨rfl, hb⟩; have hc := hb.ccell; have hf := hb.frz; have hs := hb.sz; (try simp at hs); (try have t0 := hs (w.heap.size) (by first | assumption | omega)); (try have t1 := hs (w.heap.size) (by first | assumption | omega)); (try have t2 := hs (w.heap.size) (by first | assumption | omega)); (try have t3 := hs (w.heap.size) (by first | assumption | omega)); (try have t4 := hs (w.heap.size) (by first | assumption | omega)); (try have t5 := hs (w.heap.size) (by first | assumption | omega))))
        have hE3 : Ext wr w3 := by assumption
        refine ⟨⟨hr.tr hE3, k + 1, by omega, by go_num, Lib.hid ?_⟩, by simp [intOf]; omega⟩
        rw [HN.out]
        exact ownsRow_ext hO.out hE3
      · rw [hq] at HK1 hcs
        have HN : Hid (chs P (k + 1) = chs P k ++ [k]) := Lib.hid (by rw [hcs]; simp)
        obtain ⟨hi0, hzi0, hzi1, hzi2⟩ := HI.out
        generalize chs P k = M at *
        clear hq hcs
        go_wp2_with (first | (go_at_call 95; with_reducible refine Calls.mono (HK1.out _ (by (repeat (first | with_reducible exact Ext.rfl' _ | with_reducible assumption | with_reducible refine Ext.al ?_ _ | with_reducible refine Ext.dr ?_ | with_reducible refine Ext.st ?_ (by simp) _ | with_reducible refine Ext.tr ?_ (by assumption))))) ?_; rintro e w3 ⟨rfl, hb⟩; have hc := hb.ccell; have hf := hb.frz; have hs := hb.sz; (try simp at hs); (try have t0 := hs (w.heap.size) (by first | assumption | omega)); (try have t1 := hs (w.heap.size) (by first | assumption | omega)); (try have t2 := hs (w.heap.size) (by first | assumption | omega)); (try have t3 := hs (w.heap.size) (by first | assumption | omega)); (try have t4 := hs (w.heap.size) (by first | assumption | omega)); (try have t5 := hs (w.heap.size) (by first | assumption | omega))) | (at_builtin; refine wpList_append_own _ rfl _ _ 22 rfl (wp.heap.size) 3 i0 _ 1 8 Tryz.underlying22 hi0 hzi0 hzi1 hzi2 rfl (by decide) _ _ _ rfl (World.ownsRow.alloc (ownsRow_ext (hO.out) (by assumption)) _) ⟨_, 0, none⟩ 1 1 [.int .i64 ((k : Int))] rfl rfl ?_ ?_ ?_ ?_ ?_ ?_))
        · exact one_newZ _ _ _
        · intro u hu; simp at hu; subst hu; rfl
        · unfold maxLen; omega
        · omega
        · have hE3 : Ext wr w3 := by assumption
          have := (hr.tr hE3).size
          simp; omega
        intro v' w4 hown hgrow _
        have hE3 : Ext wr w3 := by assumption
        have hE4 : Ext wp w4 := grown_ext (Ext.al (hr.tr hE3) _) (World.ownsRow.alloc (ownsRow_ext hO.out hE3) _) (Nat.le_refl _) hgrow
        have hown2 := Lib.hid hown
        clear hown hgrow hi0 hzi0 hzi1 hzi2
        go_wp2
        refine ⟨⟨hE4, k + 1, by omega, by go_num, Lib.hid ?_⟩, by simp [intOf]; omega⟩
        rw [HN.out]
        exact own_put hown2.out
    · have hks : k = g.L.length := by omega
      subst hks
      obtain ⟨A', c', hv, hN⟩ := NewZ.of (l := zl (chs P g.L.length)) rfl (zl_len _).symm hO.out
      rw [zl_len] at hv
      subst hv
      have HN := Lib.hid hN
      clear hO hN
      go_wp2
      go_ret
      exact ⟨⟨A', c', rfl, HN.out.mono hEp.size⟩, hE⟩
theorem notBelow_c (g : Gr) (lev : Int) (w : World) (A : Option Addr) (c : Nat) (hl : g.L.length ≤ 1100) (hA : Row 1 encZ w A g.L) :
    Calls Tryz.prog 67 #[.agg #[.int .i64 g.X, .int .i64 g.Y, .int .i64 g.S, .int .i64 g.C, .int .i64 g.R, .slice A g.L.length c], .int .i64 lev] w fun e w' => OutZN w.heap.size (chs (nbP g lev) g.L.length) e w' ∧ Ext w w' := by
  have HC := Lib.hid (fun p q w' (hw : Ext w w') (hp : BoxG w' p g A c) (hq : w'.cell? ⟨q, 0, none⟩ = some (.int .i64 lev)) (hqz : q < w'.heap.size) =>
    chooseN_c g (nbP g lev) p q w' A c (by omega) (fun k hk w'' hw' => notBelow1_c g lev k p q w'' A c hk hl (hA.ext (hw.tr hw')) (hp.ext hw') ((hw'.ccell _ _ hqz).trans hq) (hw'.sz _ hqz)))
  go_enter Tryz.func67, Tryz.ntmps67
  go_wp2_with fail
  have hE1 : Ext w ((w.alloc (.cells #[.int .i64 g.X, .int .i64 g.Y, .int .i64 g.S, .int .i64 g.C, .int .i64 g.R, .slice A g.L.length c] 24)).alloc (.cells #[.int .i64 lev] 3)) := by (repeat (first | with_reducible exact Ext.rfl' _ | with_reducible assumption | with_reducible refine Ext.al ?_ _ | with_reducible refine Ext.dr ?_ | with_reducible refine Ext.st ?_ (by simp) _ | with_reducible refine Ext.tr ?_ (by assumption)))
  refine Calls.mono (HC.out (w.heap.size) (w.heap.size + 1) _ hE1 ⟨by simp; omega, cells_six ⟨?_, ?_, ?_, ?_, ?_, ?_⟩⟩ ?_ ?_) ?_
  all_goals (try (simp [World.cell?_alloc_past, World.cell?_alloc_new, go_sem]; done))
  rintro e w2 ⟨⟨A2, c2, rfl, hN⟩, hb⟩
  have HN := Lib.hid hN
  have HE := Lib.hid (hE1.tr hb)
  have hs1 := hE1.size
  clear hN hb
  dsimp only
  go_wp2
  go_ret
  exact ⟨⟨A2, c2, rfl, HN.out.mono hs1⟩, HE.out⟩

/-! ### Clear -/
theorem zl_of {l : List Int} (n : Nat) (h : cellsE n l = 0) : l = zl (l.map Int.toNat) ∧ ∀ x ∈ l.map Int.toNat, x < n := by
  have h1 : anyN (noCell n l) l.length = false := by
    unfold cellsE at h
    cases hq : anyN (noCell n l) l.length
    · rfl
    · rw [hq] at h; simp at h
  have h2 := (anyN_no _ _).1 h1
  have h3 : ∀ x ∈ l, 0 ≤ x ∧ x < n := by
    intro x hx
    obtain ⟨i, hi, rfl⟩ := List.mem_iff_getElem.1 hx
    have := h2 i hi
    unfold noCell at this
    rw [gi_lt l i hi] at this
    simpa using this
  constructor
  · unfold zl
    rw [List.map_map]
    symm
    calc l.map _ = l.map id := List.map_congr_left (fun x hx => by have := h3 x hx; show ((x.toNat : Nat) : Int) = x; omega)
      _ = l := List.map_id l
  · intro x hx
    obtain ⟨y, hy, rfl⟩ := List.mem_map.1 hx
    have := h3 y hy
    omega
theorem ends_ok {g : Gr} {F T : List Int} (h : endsE g F T = 0) (hF : F.length ≤ 50000) (hT : T.length ≤ 50000) :
    ∃ cn rn F' T', EndsOk g cn rn F' T' ∧ F = zl F' ∧ T = zl T' ∧ VG g ∧ 0 < F'.length ∧ 0 < T'.length := by
  unfold endsE at h
  by_cases h1 : chkG g ≠ 0
  · rw [if_pos h1] at h; exact absurd h h1
  rw [if_neg h1] at h
  by_cases h2 : F.length = 0 ∨ T.length = 0
  · rw [if_pos h2] at h; cases h
  rw [if_neg h2] at h
  by_cases h3 : cellsE g.L.length F ≠ 0
  · rw [if_pos h3] at h; exact absurd h h3
  rw [if_neg h3] at h
  have v := chkG_ok (by omega : chkG g = 0)
  obtain ⟨cn, rn, e1, e2, e3, e4, e5, e6, e7, e8⟩ := v.nat
  obtain ⟨f1, f2⟩ := zl_of g.L.length (by omega : cellsE g.L.length F = 0)
  obtain ⟨t1, t2⟩ := zl_of g.L.length h
  rw [e7] at f2 t2
  exact ⟨cn, rn, _, _, ⟨e1, e2, by omega, e4, e6, e8, e7, f2, t2, by simpa using hF, by simpa using hT⟩, f1, t1, v, by simp; omega, by simp; omega⟩
set_option maxHeartbeats 4000000 in
theorem clear_err_c (g : Gr) (F T : List Int) (w : World) (A B D : Option Addr) (c cB cD : Nat) (hl : g.L.length ≤ 2000) (hFl : F.length ≤ 100000) (hTl : T.length ≤ 100000) (hA : Row 1 encZ w A g.L) (hB : Row 1 encZ w B F) (hD : Row 1 encZ w D T) (h0 : endsE g F T ≠ 0) :
    Calls Tryz.prog 26 #[.agg #[.int .i64 g.X, .int .i64 g.Y, .int .i64 g.S, .int .i64 g.C, .int .i64 g.R, .slice A g.L.length c], .slice B F.length cB, .slice D T.length cD] w fun e w' => e = .returned (.tuple #[.agg #[.int .i64 0, .slice none 0 0, .slice none 0 0], .int .i64 (endsE g F T)]) ∧ Ext w w' := by
  have HC := Lib.hid (fun w' (hw : Ext w w') => checkEnds_c g F T w' A B D c cB cD hl hFl hTl (hA.ext hw) (hB.ext hw) (hD.ext hw))
  have h0' : (endsE g F T != 0) = true := by rw [bne_iff_ne]; exact h0
  generalize endsE g F T = E at *
  clear h0
  go_enter Tryz.func26, Tryz.ntmps26
  go_wp2_with (first | (go_at_call 61; with_reducible refine Calls.mono (HC.out _ (by (repeat (first | with_reducible exact Ext.rfl' _ | with_reducible assumption | with_reducible refine Ext.al ?_ _ | with_reducible refine Ext.dr ?_ | with_reducible refine Ext.st ?_ (by simp) _ | with_reducible refine Ext.tr ?_ (by assumption))))) ?_; rintro e w1 ⟨rfl, hb⟩; have hc := hb.ccell; have hf := hb.frz; have hs := hb.sz; (try simp at hs); (try have t0 := hs (w.heap.size) (by first | assumption | omega)); (try have t1 := hs (w.heap.size + 1) (by first | assumption | omega)); (try have t2 := hs (w.heap.size + 1 + 1) (by first | assumption | omega)); (try have t3 := hs (w.heap.size + 1 + 1 + 1) (by first | assumption | omega)); (try have t4 := hs (w.heap.size) (by first | assumption | omega)); (try have t5 := hs (w.heap.size) (by first | assumption | omega))))
  have hE2 : Ext w w1 := by (repeat (first | with_reducible exact Ext.rfl' _ | with_reducible assumption | with_reducible refine Ext.al ?_ _ | with_reducible refine Ext.dr ?_ | with_reducible refine Ext.st ?_ (by simp) _ | with_reducible refine Ext.tr ?_ (by assumption)))
  have kz : CellsAt w1 (w.heap.size + 1 + 1 + 1) 0 [.int .i64 0, .slice none 0 0, .slice none 0 0] := by refine cells_three ⟨?_, ?_, ?_⟩ <;> simp [*, go_sem]
  have hSL := stL_at (w.heap.size + 1 + 1 + 1) [.int .i64 0, .slice none 0 0, .slice none 0 0] _ 0 _ kz rfl
  have hXL := stL_ext (w.heap.size + 1 + 1 + 1) (by first | omega | (simp; done) | (simp; omega)) [.int .i64 0, .slice none 0 0, .slice none 0 0] 0 _ hE2
  show bodyPost _ _ _ _ _ (stL (w1) (w.heap.size + 1 + 1 + 1) 0 [.int .i64 0, .slice none 0 0, .slice none 0 0])
  generalize stL (w1) (w.heap.size + 1 + 1 + 1) 0 [.int .i64 0, .slice none 0 0, .slice none 0 0] = WL at hSL hXL ⊢
  obtain ⟨s0, s1, s2⟩ := hSL.three
  refine bodyPost_ret (v := .tuple #[.agg #[.int .i64 0, .slice none 0 0, .slice none 0 0], .int .i64 E]) (by simp [results, Tryz.results26, go_sem, s0, s1, s2]) rfl ⟨rfl, hXL⟩
/-- Where Clear ends, if its ends are right. -/
def OutClear (base : Nat) (g : Gr) (cn rn : Nat) (F T : List Nat) (e : Ending) (w' : World) : Prop :=
  (e = .returned (.tuple #[.agg #[.int .i64 0, .slice none 0 0, .slice none 0 0], .int .i64 11]) ∧ ∀ x, x ∈ g.L → x ≠ 30000 → ¬ wayA g cn rn F T x) ∨
  ∃ lev p Ap cp Ab cb, e = .returned (.tuple #[.agg #[.int .i64 lev, .slice Ap p.length cp, .slice Ab (chs (nbP g lev) g.L.length).length cb], .int .i64 0]) ∧ (lev ∈ g.L ∧ lev ≠ 30000) ∧
    IsWay (adjN cn rn) (naP g lev) (cn * rn) F T p ∧ p.length ≤ cn * rn ∧ (∀ x, x ∈ g.L → x ≠ 30000 → x < lev → ¬ wayA g cn rn F T x) ∧ NewZ base w' Ap cp (zl p) ∧ NewZ base w' Ab cb (zl (chs (nbP g lev) g.L.length))
theorem wayA_mono {g : Gr} {cn rn : Nat} {F T : List Nat} {x y : Int} (h : x ≤ y) (hw : wayA g cn rn F T x) : wayA g cn rn F T y := by
  obtain ⟨p, h1, h2, h3, h4, h5⟩ := hw
  refine ⟨p, h1, h2, h3, fun k hk => ⟨(h4 k hk).1, ?_⟩, h5⟩
  have := (h4 k hk).2
  unfold naP at this ⊢
  rw [Bool.and_eq_true, decide_eq_true_eq] at this ⊢
  exact ⟨this.1, by omega⟩
set_option maxHeartbeats 16000000 in
theorem clear_ok_c {g : Gr} {cn rn : Nat} {F T : List Nat} (E : EndsOk g cn rn F T) (w : World) (A B D : Option Addr) (c cB cD : Nat) (hA : Row 1 encZ w A g.L) (hB : Row 1 encZ w B (zl F)) (hD : Row 1 encZ w D (zl T)) (h0 : endsE g (zl F) (zl T) = 0) :
    Calls Tryz.prog 26 #[.agg #[.int .i64 g.X, .int .i64 g.Y, .int .i64 g.S, .int .i64 g.C, .int .i64 g.R, .slice A g.L.length c], .slice B F.length cB, .slice D T.length cD] w fun e w' => OutClear w.heap.size g cn rn F T e w' ∧ Ext w w' := by
  have hlen := E.len
  have hn1 := E.n1
  have hl : g.L.length ≤ 1100 := by omega
  have HC := Lib.hid (fun w' (hw : Ext w w') => by
    have h := checkEnds_c g (zl F) (zl T) w' A B D c cB cD (by omega) (by rw [zl_len]; have := E.lF; omega) (by rw [zl_len]; have := E.lT; omega) (hA.ext hw) (hB.ext hw) (hD.ext hw)
    rw [h0, zl_len, zl_len] at h
    exact h)
  have HKL := Lib.hid (fun w' (hw : Ext w w') => knownLevels_c g w' A c (by omega) (hA.ext hw))
  have HA := Lib.hid (And.intro hA (And.intro hB hD))
  have HE := Lib.hid E
  have HLN := Lib.hid hlen
  clear h0 hA hB hD E hlen
  go_enter Tryz.func26, Tryz.ntmps26
  go_wp2_with (first | (go_at_call 61; with_reducible refine Calls.mono (HC.out _ (by (repeat (first | with_reducible exact Ext.rfl' _ | with_reducible assumption | with_reducible refine Ext.al ?_ _ | with_reducible refine Ext.dr ?_ | with_reducible refine Ext.st ?_ (by simp) _ | with_reducible refine Ext.tr ?_ (by assumption))))) ?_; rintro e w1 ⟨rfl, hb⟩; have hc := hb.ccell; have hf := hb.frz; have hs := hb.sz; (try simp at hs); (try have t0 := hs (w.heap.size) (by first | assumption | omega)); (try have t1 := hs (w.heap.size + 1) (by first | assumption | omega)); (try have t2 := hs (w.heap.size + 1 + 1) (by first | assumption | omega)); (try have t3 := hs (w.heap.size + 1 + 1 + 1) (by first | assumption | omega)); (try have t4 := hs (w.heap.size) (by first | assumption | omega)); (try have t5 := hs (w.heap.size) (by first | assumption | omega))) | (go_at_call 62; (with_reducible refine Calls.mono (HKL.out _ (by (repeat (first | with_reducible exact Ext.rfl' _ | with_reducible assumption | with_reducible refine Ext.al ?_ _ | with_reducible refine Ext.dr ?_ | with_reducible refine Ext.st ?_ (by simp) _ | with_reducible refine Ext.tr ?_ (by assumption))))) ?_); rintro e w2 ⟨⟨Ls, L, cL, rfl, hNL, hIL, hLl⟩, hb⟩; have hc := hb.ccell; have hf := hb.frz; have hs := hb.sz; (try simp at hs); (try have t0 := hs (w.heap.size) (by first | assumption | omega)); (try have t1 := hs (w.heap.size + 1) (by first | assumption | omega)); (try have t2 := hs (w.heap.size + 1 + 1) (by first | assumption | omega)); (try have t3 := hs (w.heap.size + 1 + 1 + 1) (by first | assumption | omega)); (try have t4 := hs (w.heap.size) (by first | assumption | omega)); (try have t5 := hs (w.heap.size) (by first | assumption | omega))))
  have hE2 : Ext w w2 := by (repeat (first | with_reducible exact Ext.rfl' _ | with_reducible assumption | with_reducible refine Ext.al ?_ _ | with_reducible refine Ext.dr ?_ | with_reducible refine Ext.st ?_ (by simp) _ | with_reducible refine Ext.tr ?_ (by assumption)))
  have hp1 : BoxG w2 w.heap.size g A c := ⟨by assumption, cells_six ⟨by simp [*, go_sem], by simp [*, go_sem], by simp [*, go_sem], by simp [*, go_sem], by simp [*, go_sem], by simp [*, go_sem]⟩⟩
  have hp2 : w2.cell? ⟨w.heap.size + 1, 0, none⟩ = some (.slice B F.length cB) := by simp [*, go_sem]
  have hp3 : w2.cell? ⟨w.heap.size + 1 + 1, 0, none⟩ = some (.slice D T.length cD) := by simp [*, go_sem]
  have kz : CellsAt w2 (w.heap.size + 1 + 1 + 1) 0 [.int .i64 0, .slice none 0 0, .slice none 0 0] := by refine cells_three ⟨?_, ?_, ?_⟩ <;> simp [*, go_sem]
  have hfz : ∀ o, w2.frozen? ⟨w.heap.size + 1 + 1 + 1, o, none⟩ = false := by intro o; simp [*, go_sem]
  have hz3 : w.heap.size + 1 + 1 + 1 < w2.heap.size := by assumption
  have HP := Lib.hid (And.intro hp1 (And.intro hp2 (And.intro hp3 (And.intro kz hfz))))
  have HNL := Lib.hid (And.intro hNL hIL)
  clear hc hf hs hb hp1 hp2 hp3 kz hfz hNL hIL HC HKL t0 t1 t2 t3
  have hEW : Ext w2 (w2.alloc (.cells #[.slice L Ls.length cL] 22)) := Ext.al (Ext.rfl' _) _
  have hk4 : (w2.alloc (.cells #[.slice L Ls.length cL] 22)).cell? ⟨w2.heap.size, 0, none⟩ = some (.slice L Ls.length cL) := by simp [go_sem]
  have hz4 : w2.heap.size < (w2.alloc (.cells #[.slice L Ls.length cL] 22)).heap.size := by simp
  generalize w2.alloc (.cells #[.slice L Ls.length cL] 22) = W at *
  have hCl : ClW W g A c F T B D cB cD Ls L cL w.heap.size (w.heap.size + 1) (w.heap.size + 1 + 1) w2.heap.size := by
    obtain ⟨p1, p2, p3, _⟩ := HP.out
    have hE := hE2.tr hEW
    exact ⟨p1.ext hEW, (hEW.ccell _ _ (by omega)).trans p2, (hEW.ccell _ _ (by omega)).trans p3, hk4, hEW.sz _ (by omega), hEW.sz _ (by omega), hz4, HA.out.1.ext hE, HA.out.2.1.ext hE, HA.out.2.2.ext hE, (HNL.out.1.ext hEW).row⟩
  have HS := Lib.hid (search_c (fun k => wayA g cn rn F T (gi Ls k)) Ls.length w.heap.size (w.heap.size + 1) (w.heap.size + 1 + 1) w2.heap.size W (by omega) (fun i j hij hj h => wayA_mono (by
      rw [gi_lt _ _ (by omega), gi_lt _ _ hj]
      rcases Nat.eq_or_lt_of_le hij with h | h
      · subst h; exact Int.le_refl _
      · exact List.pairwise_iff_getElem.1 HNL.out.2.1 i j (by omega) hj h) h)
    (fun k hk w' hw => clear1_c HE.out k w' A B D L c cB cD cL _ _ _ _ Ls hk (by omega) (hCl.ext hw)))
  have HCl := Lib.hid hCl
  have HPz := Lib.hid (And.intro (HP.out.2.2.2.1.ext hEW hz3) (fun o => (hEW.frz _ o hz3).trans (HP.out.2.2.2.2 o)))
  have hzW := hEW.sz _ hz3
  have hEwW := hE2.tr hEW
  clear hCl HP hk4 hEW hE2 hz3
  refine Calls.mono HS.out ?_
  rintro e w3 ⟨⟨m, rfl, hm⟩, hb⟩
  have hCl3 := HCl.out.ext hb
  have HPz3 := Lib.hid (And.intro (HPz.out.1.ext hb hzW) (fun o => (hb.frz _ o hzW).trans (HPz.out.2 o)))
  have hz3 := hb.sz _ hzW
  have hE3 := hEwW.tr hb
  obtain ⟨hz1, hp1⟩ := hCl3.k1
  obtain ⟨g0, g1, g2, g3, g4, g5⟩ := hp1.six
  have k2 := hCl3.k2
  have k3 := hCl3.k3
  have k4 := hCl3.k4
  have z2 := hCl3.z2
  have z3 := hCl3.z3
  have z4 := hCl3.z4
  have HCl3 := Lib.hid hCl3
  obtain ⟨hm1, hm2, hm3⟩ := hm
  have HM := Lib.hid (And.intro hm2 hm3)
  clear hb HS HCl HPz hCl3 hp1 hEwW hzW hm2 hm3 hz4
  dsimp only
  by_cases hme : m = Ls.length
  · subst hme
    obtain ⟨kz, hfz⟩ := HPz3.out
    obtain ⟨r0, r1, r2⟩ := kz.three
    have hno : ∀ x, x ∈ g.L → x ≠ 30000 → ¬ wayA g cn rn F T x := by
      intro x hx hne
      obtain ⟨i, hi, rfl⟩ := List.mem_iff_getElem.1 ((HNL.out.2.2 x).2 ⟨hx, hne⟩)
      have h9 : ¬ wayA g cn rn F T (gi Ls i) := HM.out.2 i hi
      rwa [gi_lt _ _ hi] at h9
    have HNO := Lib.hid hno
    clear hno
    go_wp2
    have hSL := stL_at (w.heap.size + 1 + 1 + 1) [.int .i64 0, .slice none 0 0, .slice none 0 0] _ 0 _ kz rfl
    have hXL := stL_ext (w.heap.size + 1 + 1 + 1) (by first | omega | (simp; done) | (simp; omega)) [.int .i64 0, .slice none 0 0, .slice none 0 0] 0 _ hE3
    show bodyPost _ _ _ _ _ (stL (w3) (w.heap.size + 1 + 1 + 1) 0 [.int .i64 0, .slice none 0 0, .slice none 0 0])
    generalize stL (w3) (w.heap.size + 1 + 1 + 1) 0 [.int .i64 0, .slice none 0 0, .slice none 0 0] = WL at hSL hXL ⊢
    obtain ⟨s0, s1, s2⟩ := hSL.three
    refine bodyPost_ret (v := .tuple #[.agg #[.int .i64 0, .slice none 0 0, .slice none 0 0], .int .i64 11]) (by simp [results, Tryz.results26, go_sem, s0, s1, s2]) rfl ⟨.inl ⟨rfl, HNO.out⟩, hXL⟩
  · have hml : m < Ls.length := by omega
    have hme' : ((m : Int) == (Ls.length : Int)) = false := by rw [beq_eq_false_iff_ne]; omega
    obtain ⟨bl, ol, hL, hbl, hcell⟩ := (HCl3.out.rL).p1 hml
    have e6 := hcell _ (Ext.rfl' _)
    subst hL
    rw [← gi_lt] at e6
    obtain ⟨lev, hlev⟩ : ∃ lev, gi Ls m = lev := ⟨_, rfl⟩
    rw [hlev] at e6
    have HLV := Lib.hid hlev
    clear hlev hcell hme
    have HN := Lib.hid (fun w' => notAbove_c g lev w' A c)
    have HB := Lib.hid (fun w' (hw : Ext w3 w') => notBelow_c g lev w' A c hl ((HCl3.out.rA).ext hw))
    have HF := Lib.hid (fun p q w' (hw : Ext w3 w') (hp : BoxG w' p g A c) (hq : w'.cell? ⟨q, 0, none⟩ = some (.int .i64 lev)) (hqz : q < w'.heap.size) => (findA_c HE.out lev p q w' A B D c cB cD ((HCl3.out.rA).ext hw) ((HCl3.out.rB).ext hw) ((HCl3.out.rD).ext hw) hp hq hqz).mono fun e w'' h => (⟨NilOr.of h.1, h.2⟩ : NilOr w'.heap.size (adjN cn rn) (naP g lev) (cn * rn) F T e w'' ∧ Ext w' w''))
    have keepP : ∀ w', Ext w3 w' → (∀ b j : Nat, b < w.heap.size + 1 + 1 + 1 → w'.cell? ⟨b, j, none⟩ = w3.cell? ⟨b, j, none⟩) ∧ Ext w w' := fun w' h => ⟨fun b j hb => h.ccell _ _ (by omega), hE3.tr h⟩
    have KP := Lib.hid keepP
    clear keepP
    go_upto_region 9 with fail
    clear e6 k4 z4 hbl hme'
    refine wp_region_held_drew (S := (fun w' => (∀ b j : Nat, b < w.heap.size + 1 + 1 + 1 → w'.cell? ⟨b, j, none⟩ = w3.cell? ⟨b, j, none⟩) ∧ Ext w w')) (by kernel_rfl) ?_ (fun hHeld => ?_)
    · (try dsimp only); exact KP.out _ (Ext.dr (Ext.rfl' w3))
    have hEd := Ext.dr (Ext.rfl' w3)
    refine wpAnyH_take (i := 0) (v := _) rfl (by kernel_rfl) (by kernel_rfl) (by kernel_rfl) (fun _ _ _ h => h) (Or.inl ⟨by kernel_rfl, by intro w hSw; (try dsimp only at hSw); go_simp; (try with_reducible rfl)⟩) (by assumption) ?_
    (try simp only [Act.put, List.getElem_toArray, List.getElem_cons_zero, List.setIfInBounds_toArray, List.set_cons_zero, List.set_cons_succ])
    refine wpAnyH_take (i := 1) (v := _) rfl (by kernel_rfl) (by kernel_rfl) (by kernel_rfl) (fun _ _ _ h => h) (Or.inl ⟨by kernel_rfl, by intro w hSw; (try dsimp only at hSw); go_simp; (try with_reducible rfl)⟩) (by assumption) ?_
    (try simp only [Act.put, List.getElem_toArray, List.getElem_cons_zero, List.getElem_cons_succ, List.setIfInBounds_toArray, List.set_cons_zero, List.set_cons_succ])
    refine wpAnyH_take (i := 2) (v := _) rfl (by kernel_rfl) (by kernel_rfl) (by kernel_rfl) (fun _ _ _ h => h) (Or.inl ⟨by kernel_rfl, by intro w hSw; (try dsimp only at hSw); go_simp; (try with_reducible rfl)⟩) (by assumption) ?_
    (try simp only [Act.put, List.getElem_toArray, List.getElem_cons_zero, List.getElem_cons_succ, List.setIfInBounds_toArray, List.set_cons_zero, List.set_cons_succ])
    refine wpAnyH_take (i := 3) (v := _) rfl (by kernel_rfl) (by kernel_rfl) (by kernel_rfl) (fun _ _ _ h => h) (Or.inl ⟨by kernel_rfl, by intro w hSw; (try dsimp only at hSw); go_simp; (try with_reducible rfl)⟩) (by assumption) ?_
    (try simp only [Act.put, List.getElem_toArray, List.getElem_cons_zero, List.getElem_cons_succ, List.setIfInBounds_toArray, List.set_cons_zero, List.set_cons_succ])
    refine wpAnyH_take (i := 4) (v := _) rfl (by kernel_rfl) (by kernel_rfl) (by kernel_rfl) (fun _ _ _ h => h) (Or.inl ⟨by kernel_rfl, by intro w hSw; (try dsimp only at hSw); go_simp; (try with_reducible rfl)⟩) (by assumption) ?_
    (try simp only [Act.put, List.getElem_toArray, List.getElem_cons_zero, List.getElem_cons_succ, List.setIfInBounds_toArray, List.set_cons_zero, List.set_cons_succ])
    refine wpAnyH_take (i := 5) (v := _) rfl (by kernel_rfl) (by kernel_rfl) (by kernel_rfl) (fun _ _ _ h => h) (Or.inl ⟨by kernel_rfl, by intro w hSw; (try dsimp only at hSw); go_simp; (try with_reducible rfl)⟩) (by assumption) ?_
    (try simp only [Act.put, List.getElem_toArray, List.getElem_cons_zero, List.getElem_cons_succ, List.setIfInBounds_toArray, List.set_cons_zero, List.set_cons_succ])
    refine wpAnyH_take (i := 8) (v := _) rfl (by kernel_rfl) (by kernel_rfl) (by kernel_rfl) (fun _ _ _ h => h) (Or.inl ⟨by kernel_rfl, by intro w hSw; (try dsimp only at hSw); go_simp; (try with_reducible rfl)⟩) (by assumption) ?_
    (try simp only [Act.put, List.getElem_toArray, List.getElem_cons_zero, List.getElem_cons_succ, List.setIfInBounds_toArray, List.set_cons_zero, List.set_cons_succ])
    refine wpAnyH_take (i := 9) (v := _) rfl (by kernel_rfl) (by kernel_rfl) (by kernel_rfl) (fun _ _ _ h => h) (Or.inl ⟨by kernel_rfl, by intro w hSw; (try dsimp only at hSw); go_simp; (try with_reducible rfl)⟩) (by assumption) ?_
    (try simp only [Act.put, List.getElem_toArray, List.getElem_cons_zero, List.getElem_cons_succ, List.setIfInBounds_toArray, List.set_cons_zero, List.set_cons_succ])
    refine wpAnyH_ready (rs := [6]) (by kernel_rfl) (by simp) ?_
    refine AllReadyH.cons (o := _) rfl (fun K hK => ?_) AllReadyH.nil
    go_simp
    (go_at_call 66; refine Calls.mono (HN.out _) ?_; rintro e w4 ⟨⟨pc, qc, rfl, hpb, hqb, hqz⟩, hb⟩; have hE4 := Ext.tr hEd hb)
    refine hK.out _ _ ?_ (fun hHeld => ?_)
    · (try dsimp only); exact KP.out _ hE4
    clear hK K
    (try simp only [Act.put, List.getElem_toArray, List.getElem_cons_zero, List.getElem_cons_succ, List.setIfInBounds_toArray, List.set_cons_zero, List.set_cons_succ])
    have HR := Lib.hid (HF.out pc qc _ hE4 hpb hqb hqz)
    clear hpb hqb hqz HF HN hb
    refine wpAnyH_ready (rs := [7]) (by kernel_rfl) (by simp) ?_
    refine AllReadyH.cons (o := _) rfl (fun K hK => ?_) AllReadyH.nil
    go_simp
    (go_at_call 65; refine Calls.mono HR.out ?_; rintro e w5 ⟨⟨Aw, mw, cw, rfl, hW5⟩, hb⟩; have hE5 := Ext.tr hE4 hb)
    refine hK.out _ _ ?_ (fun hHeld => ?_)
    · (try dsimp only); exact KP.out _ hE5
    clear hK K
    (try simp only [Act.put, List.getElem_toArray, List.getElem_cons_zero, List.getElem_cons_succ, List.setIfInBounds_toArray, List.set_cons_zero, List.set_cons_succ])
    clear hb HR
    rcases hW5 with ⟨rfl, rfl, rfl, hno⟩ | ⟨pw, gw, rfl, rfl, hway, hpl, hNP⟩
    · exfalso
      obtain ⟨pp, hpp⟩ : wayA g cn rn F T (gi Ls m) := HM.out.1 hml
      rw [HLV.out] at hpp
      exact hno pp hpp
    have HW5 := Lib.hid (And.intro hway hNP)
    have hs54 := hE4.size
    clear hway hNP
    refine wpAnyH_ready (rs := [10]) (by kernel_rfl) (by simp) ?_
    refine AllReadyH.cons (o := _) rfl (fun K hK => ?_) AllReadyH.nil
    go_simp
    (go_at_call 67; refine Calls.mono (HB.out _ hE5) ?_; rintro e w6 ⟨⟨Ab, cb, rfl, hNB⟩, hb⟩; have hE6 := Ext.tr hE5 hb)
    refine hK.out _ _ ?_ (fun hHeld => ?_)
    · (try dsimp only); exact KP.out _ hE6
    clear hK K
    (try simp only [Act.put, List.getElem_toArray, List.getElem_cons_zero, List.getElem_cons_succ, List.setIfInBounds_toArray, List.set_cons_zero, List.set_cons_succ])
    refine wpAnyH_take (i := 11) (v := _) rfl (by kernel_rfl) (by kernel_rfl) (by kernel_rfl) (fun _ _ _ h => h) (Or.inl ⟨by kernel_rfl, by intro w hSw; (try dsimp only at hSw); go_simp; (try with_reducible rfl)⟩) (by assumption) ?_
    (try simp only [Act.put, List.getElem_toArray, List.getElem_cons_zero, List.getElem_cons_succ, List.setIfInBounds_toArray, List.set_cons_zero, List.set_cons_succ])
    have hz6 := hE6.sz _ hz3
    have kz6 := HPz3.out.1.ext hE6 hz3
    have fz6 : ∀ o, w6.frozen? ⟨w.heap.size + 1 + 1 + 1, o, none⟩ = false := fun o => (hE6.frz _ o hz3).trans (HPz3.out.2 o)
    obtain ⟨r0, r1, r2⟩ := kz6.three
    have HZ6 := Lib.hid kz6
    have HNB := Lib.hid hNB
    have HB6 := Lib.hid hb
    clear hb hNB kz6
    have hsz6 := hE6.size
    have hz4 := hE4.size
    have hz5 := hE5.size
    have KST := Lib.hid (show (∀ b j : Nat, b < w.heap.size + 1 + 1 + 1 → (stL w6 (w.heap.size + 1 + 1 + 1) 0 [.int .i64 lev, .slice (some ⟨gw, 0, none⟩) pw.length cw, .slice Ab (chs (nbP g lev) g.L.length).length cb]).cell? ⟨b, j, none⟩ = w3.cell? ⟨b, j, none⟩) ∧ Ext w (stL w6 (w.heap.size + 1 + 1 + 1) 0 [.int .i64 lev, .slice (some ⟨gw, 0, none⟩) pw.length cw, .slice Ab (chs (nbP g lev) g.L.length).length cb]) from
      ⟨fun b j hb => (stL_far _ _ _ _ ⟨b, j, none⟩ (.inl (by show b ≠ _; omega)) rfl).trans (hE6.ccell _ _ (by omega)), stL_ext _ (by omega) _ _ _ (hE3.tr hE6)⟩)
    refine wpAnyH_ready (rs := [12]) (by kernel_rfl) (by simp) ?_
    refine AllReadyH.cons (o := _) rfl (fun K hK => ?_) AllReadyH.nil
    go_simp
    skip
    refine hK.out _ _ ?_ (fun hHeld => ?_)
    · (try dsimp only); exact KST.out
    clear hK K
    (try simp only [Act.put, List.getElem_toArray, List.getElem_cons_zero, List.getElem_cons_succ, List.setIfInBounds_toArray, List.set_cons_zero, List.set_cons_succ])
    refine wpAnyH_take (i := 13) (v := _) rfl (by kernel_rfl) (by kernel_rfl) (by kernel_rfl) (fun _ _ _ h => h) (Or.inl ⟨by kernel_rfl, by intro w hSw; (try dsimp only at hSw); go_simp; (try with_reducible rfl)⟩) (by assumption) ?_
    (try simp only [Act.put, List.getElem_toArray, List.getElem_cons_zero, List.getElem_cons_succ, List.setIfInBounds_toArray, List.set_cons_zero, List.set_cons_succ])
    refine wpAnyH_done (by kernel_rfl) ?_ _
    go_wp2
    have hNW := ((HW5.out.2.ext HB6.out).stL (b := w.heap.size + 1 + 1 + 1) (by omega) 0 [.int .i64 lev, .slice (some ⟨gw, 0, none⟩) pw.length cw, .slice Ab (chs (nbP g lev) g.L.length).length cb]).mono (base' := w.heap.size) (by omega)
    have hNX := (HNB.out.stL (b := w.heap.size + 1 + 1 + 1) (by omega) 0 [.int .i64 lev, .slice (some ⟨gw, 0, none⟩) pw.length cw, .slice Ab (chs (nbP g lev) g.L.length).length cb]).mono (base' := w.heap.size) (by omega)
    have hXL := KST.out.2
    have hSL := stL_at (w.heap.size + 1 + 1 + 1) [.int .i64 lev, .slice (some ⟨gw, 0, none⟩) pw.length cw, .slice Ab (chs (nbP g lev) g.L.length).length cb] _ 0 _ HZ6.out rfl
    show bodyPost _ _ _ _ _ (stL w6 (w.heap.size + 1 + 1 + 1) 0 [.int .i64 lev, .slice (some ⟨gw, 0, none⟩) pw.length cw, .slice Ab (chs (nbP g lev) g.L.length).length cb])
    clear HB6 HNB KST HZ6
    generalize stL w6 (w.heap.size + 1 + 1 + 1) 0 [.int .i64 lev, .slice (some ⟨gw, 0, none⟩) pw.length cw, .slice Ab (chs (nbP g lev) g.L.length).length cb] = WL at *
    obtain ⟨s0, s1, s2⟩ := hSL.three
    have hlv : lev ∈ g.L ∧ lev ≠ 30000 := by
      have h := HLV.out
      rw [gi_lt _ _ hml] at h
      exact (HNL.out.2.2 lev).1 (h ▸ List.getElem_mem hml)
    have hmin : ∀ x, x ∈ g.L → x ≠ 30000 → x < lev → ¬ wayA g cn rn F T x := by
      intro x hx hne hlt
      obtain ⟨i, hi, rfl⟩ := List.mem_iff_getElem.1 ((HNL.out.2.2 x).2 ⟨hx, hne⟩)
      have hlv2 := HLV.out
      rw [gi_lt _ _ hml] at hlv2
      by_cases him : i < m
      · have h9 : ¬ wayA g cn rn F T (gi Ls i) := HM.out.2 i him
        rwa [gi_lt _ _ hi] at h9
      · exfalso
        rcases Nat.eq_or_lt_of_le (Nat.le_of_not_lt him) with h | h
        · subst h; omega
        · have := List.pairwise_iff_getElem.1 HNL.out.2.1 m i hml hi h; omega
    refine bodyPost_ret (v := .tuple #[.agg #[.int .i64 lev, .slice (some ⟨gw, 0, none⟩) pw.length cw, .slice Ab (chs (nbP g lev) g.L.length).length cb], .int .i64 0]) (by simp [results, Tryz.results26, go_sem, s0, s1, s2]) rfl ⟨.inr ⟨lev, pw, some ⟨gw, 0, none⟩, cw, Ab, cb, rfl, hlv, HW5.out.1, hpl, hmin, hNW, hNX⟩, hXL⟩
end Go.Proofs.YtgnakeemcccfjaaGreat
