/- The contracts of setOf, of firstSteps and of wayTo. -/
import Derived.Test.YtgnakeemcccfjaaGreatBlib
import Derived.Test.YtgnakeemcccfjaaGreatBways
namespace Go.Proofs.YtgnakeemcccfjaaGreat
open Go Go.RowKit Go.IntWalk

theorem wf_of {x : Int} (h0 : -9000000000000000000 ≤ x) (h1 : x ≤ 9000000000000000000) : (Lit.int .i64 x).wf = true := WalkArith.wf_i64 (by omega)
/-- A set that a call has made. -/
def OutSet (base : Nat) (f : Int → Bool) (e : Ending) (w' : World) : Prop := ∃ b n, e = .returned (.map (some b)) ∧ base ≤ b ∧ n ≤ 200000 ∧ SetZ w' b n f
set_option maxHeartbeats 4000000 in
theorem setOf_c (l : List Int) (w : World) (A : Option Addr) (c : Nat) (hl : l.length ≤ 100000) (hw : ∀ x ∈ l, 0 ≤ x ∧ x ≤ 100000) (hA : Row 1 encZ w A l) :
    Calls Tryz.prog 90 #[.slice A l.length c] w fun e w' => OutSet w.heap.size (fun y => decide (y ∈ l)) e w' ∧ Ext w w' := by
  have HWF := Lib.hid hw
  have hmm := @run_makeMap Tryz.prog
  clear hw
  go_enter Tryz.func90, Tryz.ntmps90
  go_wp2
  have hS : SetZ (w.alloc (.map #[] 0)) w.heap.size 0 (fun _ => false) := SetZ.made w
  have hE0 : Ext w (w.alloc (.map #[] 0)) := Ext.al (Ext.rfl' w) _
  generalize w.alloc (.map #[] 0) = w0 at *
  have HS0 := Lib.hid hS
  clear hS hmm
  go_loopw [5, 9] (fun _ i wr => Ext w wr ∧ ∃ k : Nat, k ≤ l.length ∧ i = .int .i64 k ∧ Hid (SetZ wr w.heap.size k (fun y => decide (y ∈ l.take k)))) (fun _ i _ => l.length - (intOf i).toNat)
  case atStart => exact ⟨hE0, 0, Nat.zero_le _, rfl, Lib.hid (by simpa using HS0.out)⟩
  case round =>
    obtain ⟨hE, k, hk, rfl, hS⟩ := hrel
    by_cases hlt : k < l.length
    · obtain ⟨b, off, rfl, hb0, hcell⟩ := hA.p1 hlt
      have c1 := hcell _ hE
      have hz := hE.sz _ hb0
      obtain ⟨v1, v2⟩ := HWF.out l[k] (List.getElem_mem hlt)
      have ht : l.take (k + 1) = l.take k ++ [l[k]] := List.take_succ_eq_append_getElem hlt
      have HT := Lib.hid ht
      clear hcell ht
      obtain ⟨v, hv⟩ : ∃ v, l[k] = v := ⟨_, rfl⟩
      rw [hv] at c1 v1 v2 HT
      clear hv
      go_wp2_with (first | (at_mapUpdate; refine wpList_setPut rfl _ _ _ rfl w.heap.size k _ rfl hS.out ?_ v rfl rfl (wf_of (by omega) (by omega)) ?_))
      · unfold maxLen; omega
      intro w2 hS2 hg
      have hE2 : Ext w w2 := Below.grown hE hg hE.size (by intro q hq; injection hq with hq; omega)
      have HS2 := Lib.hid hS2
      clear hS2 hg hS
      go_wp2
      refine ⟨⟨hE2, k + 1, by omega, by go_num, Lib.hid ?_⟩, by simp [intOf]; omega⟩
      have := HS2.out
      rw [HT.out]
      have e : (fun y => decide (y = v) || decide (y ∈ l.take k)) = (fun y => decide (y ∈ l.take k ++ [v])) := by
        funext y
        rw [Bool.eq_iff_iff]
        simp only [Bool.or_eq_true, decide_eq_true_eq, List.mem_append, List.mem_singleton]
        exact Or.comm
      rwa [e] at this
    · have hks : k = l.length := by omega
      subst hks
      have HO : Hid (SetZ wr w.heap.size l.length (fun y => decide (y ∈ l))) := Lib.hid (by have := hS.out; rwa [List.take_length] at this)
      clear hS
      go_wp2
      go_ret
      exact ⟨⟨w.heap.size, l.length, rfl, Nat.le_refl _, by omega, HO.out⟩, hE⟩
/-- A step's two cells. -/
def encSt (x : Nat × Nat) : List Value := [.int .i64 (x.1 : Int), .int .i64 (x.2 : Int)]
theorem encSt_len (x : Nat × Nat) : (encSt x).length = 2 := rfl
theorem encSt_one : ∀ (x : Nat × Nat), ∀ v ∈ encSt x, v.oneCell' = true := fun x v hv => by simp [encSt] at hv; rcases hv with rfl | rfl <;> rfl
theorem infoSt : (Tryz.prog.info? 133).map (fun i => (i.zero, i.size, i.bytes)) = some (some (.agg #[.int .i64 0, .int .i64 0]), 2, 16) := by kernel_rfl
theorem two_newZ (w : World) (x y : Value) (t : TypeId) : ∀ j u, [x, y][j]? = some u → (w.alloc (.cells #[x, y] t)).cell? ((⟨w.heap.size, 0, none⟩ : Addr).add j) = some u := by
  intro j u hu
  match j with
  | 0 => simpa [Addr.add, go_sem] using hu
  | 1 => simpa [Addr.add, go_sem] using hu
  | j + 2 => simp at hu
/-- Steps that a call has made. -/
def NewS (base : Nat) (w' : World) (A : Option Addr) (c : Nat) (l : List (Nat × Nat)) : Prop :=
  l.length ≤ c ∧ c ≤ maxLen ∧ ((l = [] ∧ A = none ∧ c = 0) ∨ ∃ g, A = some ⟨g, 0, none⟩ ∧ base ≤ g ∧ OwnK 133 2 encSt w' g c l)
theorem NewS.of {base : Nat} {w : World} {v : Value} {n : Nat} {xs : List Value} {l : List (Nat × Nat)} (hxs : xs = l.flatMap encSt) (hn : n = l.length) (h : w.ownsRow base 133 2 v n xs) : ∃ A c, v = .slice A l.length c ∧ NewS base w A c l := by
  obtain ⟨A, c, h1, h2, h3, h4⟩ := ownK_cases encSt_len hxs hn h
  exact ⟨A, c, h1, h2, h3, h4⟩
theorem NewS.row {base : Nat} {w : World} {A : Option Addr} {c : Nat} {l : List (Nat × Nat)} (h : NewS base w A c l) : Row 2 encSt w A l := ownK_row encSt_len h.2.2
theorem NewS.ext {base : Nat} {w w' : World} {A : Option Addr} {c : Nat} {l : List (Nat × Nat)} (h : NewS base w A c l) (hw : Ext w w') : NewS base w' A c l := by
  refine ⟨h.1, h.2.1, ?_⟩
  rcases h.2.2 with h | ⟨g, h1, h2, h3⟩
  · exact .inl h
  · exact .inr ⟨g, h1, h2, h3.ext hw⟩
def OutS (base : Nat) (l : List (Nat × Nat)) (e : Ending) (w' : World) : Prop := ∃ A c, e = .returned (.slice A l.length c) ∧ NewS base w' A c l
theorem Row.s2 {w : World} {A : Option Addr} {l : List (Nat × Nat)} (h : Row 2 encSt w A l) {k : Nat} (hk : k < l.length) :
    ∃ b off, A = some ⟨b, off, none⟩ ∧ b < w.heap.size ∧ ∀ w', Ext w w' → w'.cell? ⟨b, off + k * 2, none⟩ = some (.int .i64 (l[k].1 : Int)) ∧ w'.cell? ⟨b, off + k * 2 + 1, none⟩ = some (.int .i64 (l[k].2 : Int)) := by
  obtain ⟨b, off, h1, h2, h3⟩ := h.addr (by omega)
  exact ⟨b, off, h1, h2, fun w' hw => ⟨h3 w' hw k hk 0 _ rfl, h3 w' hw k hk 1 _ rfl⟩⟩
set_option maxHeartbeats 4000000 in
theorem firstSteps_c (F : List Nat) (w : World) (A : Option Addr) (c : Nat) (hl : F.length ≤ 100000) (hA : Row 1 encZ w A (zl F)) :
    Calls Tryz.prog 91 #[.slice A F.length c] w fun e w' => OutS w.heap.size (F.map fun c => (c, c)) e w' ∧ Ext w w' := by
  obtain ⟨i0, hi0, hzi0, hzi1, hzi2⟩ := info_parts infoSt
  have HI := Lib.hid (And.intro hi0 (And.intro hzi0 (And.intro hzi1 hzi2)))
  clear hi0 hzi0 hzi1 hzi2
  go_enter Tryz.func91, Tryz.ntmps91
  go_wp2
  go_loopw [3, 5, 8] (fun v _ i wr => Ext w wr ∧ ∃ k : Nat, k ≤ F.length ∧ i = .int .i64 k ∧ Hid (wr.ownsRow w.heap.size 133 2 v k (((F.take k).map fun c => (c, c)).flatMap encSt))) (fun _ _ i _ => F.length - (intOf i).toNat)
  case atStart => exact ⟨Ext.rfl' _, 0, Nat.zero_le _, rfl, Lib.hid (World.ownsRow_nil _ _ _ _)⟩
  case round =>
    obtain ⟨hE, k, hk, rfl, hO⟩ := hrel
    by_cases hlt : k < F.length
    · obtain ⟨b, off, rfl, hb0, hcell⟩ := hA.p1 (k := k) (by rw [zl_len]; exact hlt)
      have c1 := hcell _ hE
      have hz := hE.sz _ hb0
      have ht : F.take (k + 1) = F.take k ++ [F[k]] := List.take_succ_eq_append_getElem hlt
      have HT := Lib.hid ht
      rw [show (zl F)[k]'(by rw [zl_len]; exact hlt) = (F[k] : Int) by simp [zl]] at c1
      clear hcell ht
      obtain ⟨x, hx⟩ : ∃ x, F[k] = x := ⟨_, rfl⟩
      rw [hx] at c1 HT
      clear hx
      obtain ⟨hi0, hzi0, hzi1, hzi2⟩ := HI.out
      go_wp2_with (first | (at_builtin; refine wpList_append_own _ rfl _ _ 130 rfl w.heap.size 133 i0 _ 2 16 Tryz.underlying130 hi0 hzi0 hzi1 hzi2 rfl (by decide) _ _ _ rfl (World.ownsRow.alloc hO.out _) ⟨_, 0, none⟩ 1 1 [.int .i64 (x : Int), .int .i64 (x : Int)] rfl rfl ?_ ?_ ?_ ?_ ?_ ?_))
      · exact two_newZ _ _ _ _
      · intro u hu; simp at hu; subst hu; rfl
      · unfold maxLen; omega
      · omega
      · have := hE.size; simp; omega
      intro v' w2 hown hgrow _
      have hE2 : Ext w w2 := grown_ext (Ext.al hE _) (World.ownsRow.alloc hO.out _) (Nat.le_refl _) hgrow
      have hown2 := Lib.hid hown
      clear hown hgrow hi0 hzi0 hzi1 hzi2
      go_wp2
      refine ⟨⟨hE2, k + 1, by omega, by go_num, Lib.hid ?_⟩, by simp [intOf]; omega⟩
      have := hown2.out
      rw [HT.out]
      simpa [encSt] using this
    · have hks : k = F.length := by omega
      subst hks
      have h1 := hO.out
      rw [List.take_length] at h1
      obtain ⟨A', c', hv, hN⟩ := NewS.of (l := F.map fun c => (c, c)) rfl (by simp) h1
      subst hv
      have HN := Lib.hid hN
      clear hO hN h1
      go_wp2
      go_ret
      exact ⟨⟨A', c', rfl, HN.out⟩, hE⟩
/-! ### The way back -/
def mapOf (O : List (Nat × Nat)) (y : Int) : Option Int := (O.find? (fun x => decide ((x.1 : Int) = y))).map (fun x => (x.2 : Int))
theorem mapOf_none {O : List (Nat × Nat)} {c : Nat} (h : c ∉ cellsOf O) : mapOf O c = none := by
  unfold mapOf
  rw [List.find?_eq_none.2]; rfl
  intro x hx
  simp
  intro e
  exact h (List.mem_map.2 ⟨x, hx, by omega⟩)
theorem mapOf_isSome (O : List (Nat × Nat)) (c : Nat) : (mapOf O c).isSome = decide (c ∈ cellsOf O) := by
  unfold mapOf
  rw [Option.isSome_map, Bool.eq_iff_iff, List.find?_isSome, decide_eq_true_eq]
  unfold cellsOf
  rw [List.mem_map]
  constructor
  · rintro ⟨x, hx, h⟩
    have h : (x.1 : Int) = (c : Int) := by simpa using h
    exact ⟨x, hx, by omega⟩
  · rintro ⟨x, hx, h⟩
    exact ⟨x, hx, by simp [h]⟩
theorem mapOf_mem {adj : Nat → Nat → Prop} {op : Nat → Bool} {n : Nat} {F : List Nat} {O : List (Nat × Nat)} (h : Tree adj op n F O) {c b : Nat} (hm : (c, b) ∈ O) : mapOf O c = some (b : Int) := by
  have hs : (mapOf O c).isSome = true := by rw [mapOf_isSome, decide_eq_true_eq]; exact List.mem_map.2 ⟨_, hm, rfl⟩
  unfold mapOf at hs ⊢
  rw [Option.isSome_map] at hs
  obtain ⟨x, hx⟩ := Option.isSome_iff_exists.1 hs
  rw [hx]
  have h1 := List.find?_some hx
  have h2 := List.mem_of_find?_eq_some hx
  have h3 : (x.1 : Int) = (c : Int) := by simpa using h1
  have h3 : x.1 = c := by omega
  have : b = x.2 := h.one hm (by rw [← h3]; exact h2)
  rw [this]; rfl
theorem mapOf_snoc {O : List (Nat × Nat)} {c b : Nat} (h : c ∉ cellsOf O) : mapOf (O ++ [(c, b)]) = fun y => if y = (c : Int) then some (b : Int) else mapOf O y := by
  funext y
  unfold mapOf
  rw [List.find?_append]
  by_cases hy : y = (c : Int)
  · subst hy
    rw [if_pos rfl]
    have := mapOf_none h
    unfold mapOf at this
    rw [Option.map_eq_none_iff] at this
    rw [this]
    simp
  · rw [if_neg hy]
    have : [(c, b)].find? (fun x => decide ((x.1 : Int) = y)) = none := by
      rw [List.find?_eq_none]
      intro x hx
      simp at hx
      subst hx
      simp
      exact fun e => hy e.symm
    rw [this, Option.or_none]
/-- The result is a way. -/
def OutWay (base : Nat) (adj : Nat → Nat → Prop) (op : Nat → Bool) (n : Nat) (F T : List Nat) (e : Ending) (w' : World) : Prop :=
  ∃ p A c, IsWay adj op n F T p ∧ p.length ≤ n ∧ e = .returned (.slice A p.length c) ∧ NewZ base w' A c (zl p)
theorem way_len (p : List Nat) : (zl p).length = p.length := zl_len p
set_option maxHeartbeats 8000000 in
theorem wayTo_c {adj : Nat → Nat → Prop} {op : Nat → Bool} {n : Nat} {F T : List Nat} {O : List (Nat × Nat)} (last b m : Nat) (w : World) (hT : Tree adj op n F O) (hirr : ∀ c, ¬ adj c c) (hm : last ∈ cellsOf O) (hl : last ∈ T) (hn : n ≤ 100000) (hM : MapI w b m (mapOf O)) :
    Calls Tryz.prog 93 #[.int .i64 last, .map (some b)] w fun e w' => OutWay w.heap.size adj op n F T e w' ∧ Ext w w' := by
  have hO := hT.len
  have hlt : ∀ c ∈ cellsOf O, c < n := fun c hc => (hT.lt c hc).1
  have HLT := Lib.hid hlt
  have HUP := Lib.hid (fun c b (h : (c, b) ∈ O) => hT.up hirr h)
  have HMO := Lib.hid (fun c b (h : (c, b) ∈ O) => mapOf_mem hT h)
  have hp0 := pos_lt hm
  have hln := hlt last hm
  obtain ⟨i0, hi0, hzi0, hzi1, hzi2⟩ := info_parts infoZ
  have HI := Lib.hid (And.intro hi0 (And.intro hzi0 (And.intro hzi1 hzi2)))
  have HM := Lib.hid hM
  have HB := Lib.hid hm
  have HTR := Lib.hid hT
  have HL := Lib.hid hl
  clear hi0 hzi0 hzi1 hzi2 hlt hirr hm hl hT hM
  go_enter Tryz.func93, Tryz.ntmps93
  go_wp2
  have hE0 : Ext w (w.alloc (.cells #[.int .i64 last] 3)) := Ext.al (Ext.rfl' w) _
  have hO0 : (w.alloc (.cells #[.int .i64 last] 3)).ownsRow w.heap.size 3 1 (.slice (some ⟨w.heap.size, 0, none⟩) 1 1) 1 ((zl [last]).flatMap encZ) := World.ownsRow_lit _ #[.int .i64 last] 1 (Nat.le_refl _) (by decide) rfl
  have HO0 := Lib.hid hO0
  clear hO0
  generalize w.alloc (.cells #[.int .i64 last] 3) = w0 at *
  go_loopw [5, 6] (fun v i wr => Ext w wr ∧ ∃ (k : Nat) (U : List Nat), i = .int .i64 k ∧ Hid (IsBack (adj := adj) O last k U) ∧ U.length + pos O k ≤ O.length ∧ Hid (wr.ownsRow w.heap.size 3 1 v U.length ((zl U).flatMap encZ))) (fun _ i _ => pos O (intOf i).toNat)
  case atStart => exact ⟨hE0, last, [last], rfl, Lib.hid (back_start HB.out), by simp; omega, HO0.out⟩
  case round =>
    obtain ⟨hE, k, U, rfl, hB, hU, hOw⟩ := hrel
    have hkc : k ∈ cellsOf O := by
      obtain ⟨h1, h2, h3, h4, h5⟩ := hB.out
      rw [← h3]; exact h4 _ (by omega)
    have hkn := HLT.out k hkc
    obtain ⟨q, hq⟩ := mem_cells hkc
    have hup := HUP.out k q hq
    have hmo := HMO.out k q hq
    have hqn : q < n := by
      rcases hup with ⟨h, _⟩ | ⟨_, h, _⟩
      · omega
      · exact HLT.out q h
    have hlk := (HM.out.ext hE).look k (wf_of (by omega) (by omega))
    rw [hmo] at hlk
    simp only [Option.getD_some] at hlk
    by_cases hqk : q = k
    · have hF : k ∈ F := by
        rcases hup with ⟨_, h⟩ | ⟨h, _⟩
        · exact h
        · exact absurd hqk h
      have HW := Lib.hid (hB.out.way (T := T) HTR.out hF HL.out)
      have hUl : U.length ≤ 100000 := by omega
      have hU0 : 0 < U.length := hB.out.1
      obtain ⟨A', c', hv, h1, h2, h3⟩ := ownK_cases encZ_len (l := zl U) rfl (zl_len U).symm hOw.out
      rw [zl_len] at hv
      subst hv
      rcases h3 with ⟨h3, _⟩ | ⟨g, rfl, hg, ho⟩
      · have h9 : (zl U).length = 0 := by rw [h3]; rfl
        rw [zl_len] at h9
        omega
      have hR := reverse_own_c wr g c' (zl U) ho (by rw [zl_len]; omega)
      rw [zl_len] at hR
      have HR := Lib.hid hR
      have H12 := Lib.hid (And.intro h1 h2)
      clear hup hmo hq hOw hB ho h1 h2 hF HLT HUP HMO HM HB HTR HL HO0 HI hR
      subst hqk
      go_wp2_with fail
      refine Calls.mono HR.out ?_
      rintro e w2 ⟨rfl, ho2, ht⟩
      have hE2 : Ext w w2 := ht.ext hE hg
      have HO2 := Lib.hid ho2
      clear ho2 ht
      dsimp only
      go_wp2
      go_ret
      have h12 := H12.out
      rw [zl_len] at h12
      refine ⟨⟨U.reverse, some ⟨g, 0, none⟩, c', HW.out, by simp; omega, by rw [List.length_reverse]; rfl, ?_, h12.2, .inr ⟨g, rfl, hg, ?_⟩⟩, hE2⟩
      · rw [zl_len, List.length_reverse]; exact h12.1
      · have := HO2.out
        rwa [show (zl U).reverse = zl U.reverse by simp [zl]] at this
    · have hup2 : q ∈ cellsOf O ∧ adj q k ∧ pos O q < pos O k := by
        rcases hup with ⟨h, _⟩ | ⟨_, h1, h2, h3⟩
        · exact absurd h hqk
        · exact ⟨h1, h2, h3⟩
      have hB2 := Lib.hid (hB.out.more hup2.1 hup2.2.1)
      have hne : ((q : Int) != (k : Int)) = true := by rw [bne_iff_ne]; omega
      have hpos := hup2.2.2
      have hlk2 := Lib.hid (fun w' (hw : Ext w w') => (HM.out.ext hw).look k (wf_of (by omega) (by omega)))
      rw [hmo] at hlk2
      simp only [Option.getD_some] at hlk2
      obtain ⟨hi0, hzi0, hzi1, hzi2⟩ := HI.out
      have hU0 : U.length ≤ 100000 := by omega
      clear hup hup2 hmo hq hB HLT HUP HMO HTR HL HO0 hqk
      go_wp2_with (first | (at_builtin; refine wpList_append_own _ rfl _ _ 22 rfl w.heap.size 3 i0 _ 1 8 Tryz.underlying22 hi0 hzi0 hzi1 hzi2 rfl (by decide) _ _ _ rfl (World.ownsRow.alloc hOw.out _) ⟨_, 0, none⟩ 1 1 [.int .i64 (q : Int)] rfl rfl ?_ ?_ ?_ ?_ ?_ ?_))
      · exact one_newZ _ _ _
      · intro u hu; simp at hu; subst hu; rfl
      · unfold maxLen; omega
      · omega
      · have := hE.size; simp; omega
      intro v' w2 hown hgrow _
      have hE2 : Ext w w2 := grown_ext (Ext.al hE _) (World.ownsRow.alloc hOw.out _) (Nat.le_refl _) hgrow
      have hlk3 := hlk2.out w2 hE2
      have hown2 := Lib.hid hown
      clear hown hgrow hi0 hzi0 hzi1 hzi2 hlk
      go_wp2
      refine ⟨⟨hE2, q, U ++ [q], rfl, hB2, by simp; omega, Lib.hid ?_⟩, by simp [intOf]; omega⟩
      have := hown2.out
      exact own_put this
end Go.Proofs.YtgnakeemcccfjaaGreat
