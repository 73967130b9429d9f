/- The level by three nodes of a plane is that of the plane: the law returns true for every input. Conditions: the slopes are of Go's type int8. -/
import Derived.Test.YtcdbekmcobghbaaPlane
import Derived.Test.YtcdbekmcobghbaaLawPoints
import Derived.Deep.RegionHeld3
import Derived.Deep.DeepCutAuto
namespace Go.Proofs.Ytcdbekmcobghbaa
open Go Go.RowKit Go.IntWalk

theorem mod_is_c (n r : Int) (h : n % 1000 = r) (w : World) : Calls Try.prog 70 #[.int .i64 n, .int .i64 1000] w fun e w' => e = .returned (.int .i64 r) ∧ w = w' := by
  rw [← h]; exact mod_c n 1000 w (by omega) (by omega)
def Eight (w : World) (b : Nat) (c0 c1 c2 c3 c4 c5 c6 c7 : Int) : Prop :=
  w.cell? ⟨b, 0, none⟩ = some (.int .i64 c0) ∧ w.cell? ⟨b, 1, none⟩ = some (.int .i64 c1) ∧ w.cell? ⟨b, 2, none⟩ = some (.int .i64 c2) ∧ w.cell? ⟨b, 3, none⟩ = some (.int .i64 c3) ∧ w.cell? ⟨b, 4, none⟩ = some (.int .i64 c4) ∧ w.cell? ⟨b, 5, none⟩ = some (.int .i64 c5) ∧ w.cell? ⟨b, 6, none⟩ = some (.int .i64 c6) ∧ w.cell? ⟨b, 7, none⟩ = some (.int .i64 c7)
structure PlW (w wr : World) (v : Value) (c0 c1 c2 c3 c4 c5 c6 c7 : Int) (l : List I3) : Prop where
  ext : Ext w wr
  sz : w.heap.size + 1 < wr.heap.size
  e : Eight wr w.heap.size c0 c1 c2 c3 c4 c5 c6 c7
  fz : NoFreeze wr w.heap.size
  own : wr.ownsRow (w.heap.size + 2) 86 3 v l.length (l.flatMap encI)
theorem PlW.grown {w wr wr' : World} {v v' : Value} {c0 c1 c2 c3 c4 c5 c6 c7 : Int} {l l' : List I3} (h : PlW w wr v c0 c1 c2 c3 c4 c5 c6 c7 l) (k : Below (w.heap.size + 2) wr wr')
    (ho : wr'.ownsRow (w.heap.size + 2) 86 3 v' l'.length (l'.flatMap encI)) : PlW w wr' v' c0 c1 c2 c3 c4 c5 c6 c7 l' := by
  have hc : ∀ o, wr'.cell? ⟨w.heap.size, o, none⟩ = wr.cell? ⟨w.heap.size, o, none⟩ := fun o => Below.cell (p := ⟨w.heap.size, o, none⟩) k (by simp)
  have hf : ∀ o, wr'.frozen? ⟨w.heap.size, o, none⟩ = wr.frozen? ⟨w.heap.size, o, none⟩ := fun o => Below.frozen (p := ⟨w.heap.size, o, none⟩) k (by simp)
  obtain ⟨h1, h2, ⟨e0, e1, e2, e3, e4, e5, e6, e7⟩, h4, _⟩ := h
  refine ⟨Below.trans h1 (Below.mono k (by omega)), Nat.lt_of_lt_of_le h2 k.size, ⟨?_, ?_, ?_, ?_, ?_, ?_, ?_, ?_⟩, fun j => ?_, ho⟩
  all_goals first | (rw [hc]; assumption) | (rw [hf]; exact h4 j)
theorem row_of_own {B : Nat} {v : Value} {l : List I3} {w : World} (h : w.ownsRow B 86 3 v l.length (l.flatMap encI)) (h0 : 0 < l.length) : ∃ g cap, v = .slice (some ⟨g, 0, none⟩) l.length cap ∧ B ≤ g ∧ Row 3 encI w (some ⟨g, 0, none⟩) l := by
  have h' := h
  rcases h'.2 with ⟨_, h2⟩ | ⟨g, cap, cur, rfl, hb, hg, _⟩
  · omega
  · refine ⟨g, cap, rfl, hb, .inr ⟨g, 0, rfl, (h.lt g rfl).2, fun i hi j u hu => ?_⟩⟩
    have hx := flat_get encI_len l i hi j u hu
    have hlt : i * 3 + j < l.length * 3 := by
      have := (List.getElem?_eq_some_iff.1 hx).1
      rw [h.1] at this; exact this
    have := h.cellAt (i * 3 + j) hlt
    rw [show 0 + i * 3 + j = i * 3 + j by omega, this, hx]
def PlRel (w : World) (X Y Z m0 m1 m2 m3 m4 m5 m6 m7 x0 y0 x1 y1 x2 y2 x3 y3 : Int) (v i : Value) (wr : World) : Prop :=
  (i = .int .i64 0 ∧ PlW w wr v m0 m1 m2 m3 m4 m5 m6 m7 []) ∨
  (i = .int .i64 1 ∧ PlW w wr v x0 y0 m2 m3 m4 m5 m6 m7 [pl X Y Z x0 y0]) ∨
  (i = .int .i64 2 ∧ PlW w wr v x0 y0 x1 y1 m4 m5 m6 m7 [pl X Y Z x0 y0, pl X Y Z x1 y1]) ∨
  (i = .int .i64 3 ∧ PlW w wr v x0 y0 x1 y1 x2 y2 m6 m7 [pl X Y Z x0 y0, pl X Y Z x1 y1, pl X Y Z x2 y2]) ∨
  (i = .int .i64 4 ∧ PlW w wr v x0 y0 x1 y1 x2 y2 x3 y3 (four X Y Z x0 y0 x1 y1 x2 y2 x3 y3))

theorem own_setCell {w : World} {base e size n : Nat} {v : Value} {xs : List Value} (h : w.ownsRow base e size v n xs) {p : Addr} (hp : p.block < base) (u : Value) : (w.setCell p u).ownsRow base e size v n xs :=
  World.ownsRow.kept (row := some p.block) h ⟨rfl, rfl, rfl, by simp, fun k _ hne => Below.heap_setCell _ _ _ _ (fun hk => hne (by rw [hk]))⟩ (.inr fun hb => by have := (h.lt _ hb).1; omega)
theorem step_append_own {P : Program} {ops : Array Oper} {o : Oper} {a : Act} {w : World} {K : Act → World → Prop} {Q : Exit → Act → World → Prop} {E : Prop}
    (hg : o.guard = none) (s x : Operand) (t : TypeId) (hop : o.op = Op.call { callee := Callee.builtin Builtin.append, args := #[s, x], argTypes := #[t, t] })
    (base : Nat) (e : TypeId) (i : TypeInfo) (z : Value) (size bytes : Nat) (h1 : P.underlying t = some (.slice e)) (h2 : P.info? e = some i) (h3 : i.zero = some z) (h4 : i.size = size) (h5 : i.bytes = bytes) (h6 : z.cells.size = size) (h7 : 0 < size)
    (v : Value) (n : Nat) (xs : List Value) (hs : a.eval s = v) (hown : w.ownsRow base e size v n xs)
    (ad : Addr) (m c : Nat) (news : List Value) (hx : a.eval x = .slice (some ad) m c) (hn : news.length = m * size) (hc : ∀ j u, news[j]? = some u → w.cell? (ad.add j) = some u) (h1c : ∀ u ∈ news, u.oneCell' = true)
    (b1 : n + m ≤ maxLen) (b2 : (n + m) * bytes ≤ 140737488355328) (b3 : base ≤ w.heap.size)
    (hK : ∀ v' w', w'.ownsRow base e size v' (n + m) (xs ++ news) → w.grownBy w' v.ownBlock → K (a.put o.dst v') w') :
    if Region.wanted o (yielded ops a.tmps) = true then Oper.wp P o a w K Q else E := by
  have hw : Region.wanted o (yielded ops a.tmps) = true := by simp [Region.wanted, hg]
  rw [if_pos hw]
  obtain ⟨v', w', hrun, r1, r2, _⟩ := run_append_own (P := P) w base t o.type e i z size bytes h1 h2 h3 h4 h5 h6 h7 v n xs hown ad m c news hn hc h1c b1 b2 b3
  unfold Oper.wp
  simp [execOp, hop, resolve, invoke, builtin, hs, hx, hrun, Result.andThen]
  exact hK v' w' r1 r2
theorem plane_wraps {X Y Z x y : Int} (hX : -10 ≤ X ∧ X ≤ 10) (hY : -10 ≤ Y ∧ Y ≤ 10) (hZ : -128 ≤ Z ∧ Z ≤ 127) (h : (-500 ≤ x ∧ x ≤ 499) ∧ (-500 ≤ y ∧ y ≤ 499)) :
    IntKind.i64.wrap (X * x) = X * x ∧ IntKind.i64.wrap (Y * y) = Y * y ∧ IntKind.i64.wrap (X * x + Y * y) = X * x + Y * y ∧ IntKind.i64.wrap (X * x + Y * y + Z) = X * x + Y * y + Z := by
  have h1 := mul_bound (x := X) (y := x) (M := 10) (N := 500) hX.1 hX.2 (by omega) (by omega)
  have h2 := mul_bound (x := Y) (y := y) (M := 10) (N := 500) hY.1 hY.2 (by omega) (by omega)
  exact ⟨IntWalk.i64_in _ (by omega), IntWalk.i64_in _ (by omega), IntWalk.i64_in _ (by omega), IntWalk.i64_in _ (by omega)⟩
theorem infoN : (Try.prog.info? 86).map (fun i => (i.zero, i.size, i.bytes)) = some (some (.agg #[.int .i64 0, .int .i64 0, .int .i64 0]), 3, 24) := by kernel_rfl

set_option maxHeartbeats 8000000 in
set_option maxRecDepth 100000 in
theorem planes_walk (m0 m1 m2 m3 m4 m5 m6 m7 s0 s1 s2 : Int) (w : World) (h0 : -128 ≤ s0 ∧ s0 ≤ 127) (h1 : -128 ≤ s1 ∧ s1 ≤ 127) (h2 : -128 ≤ s2 ∧ s2 ≤ 127) :
    Calls Try.prog 18 #[.agg #[.int .i64 m0, .int .i64 m1, .int .i64 m2, .int .i64 m3, .int .i64 m4, .int .i64 m5, .int .i64 m6, .int .i64 m7], .agg #[.int .i8 s0, .int .i8 s1, .int .i8 s2]] w
      fun e w' => e = .returned (.bool true) ∧ Ext w w' := by
  have hw0 : IntKind.i64.wrap s0 = s0 := IntWalk.i64_in _ (by omega)
  have hw1 : IntKind.i64.wrap s1 = s1 := IntWalk.i64_in _ (by omega)
  have hw2 : IntKind.i64.wrap s2 = s2 := IntWalk.i64_in _ (by omega)
  go_enter Try.func18, Try.ntmps18
  go_wp2_with (first | (go_at_call 19; refine Calls.mono (awake_c _) ?_; rintro e w1 ⟨rfl, hb⟩; have hc := hb.ccell; have hf := hb.frz; have hs := hb.sz; (try simp at hs); (try have hs0 := hs w.heap.size (by omega)); (try have hs1 := hs (w.heap.size + 1) (by omega)); (try have hs2 := hs (w.heap.size + 1 + 1) (by omega)); (try have hs3 := hs (w.heap.size + 1 + 1 + 1) (by omega))))
  refine region_grow (by kernel_rfl) (by kernel_rfl) ?_
  repeat (first | go_big_quiet_step (first  | fail) | quiet_step (first  | fail))
  refine wpQuiet_nil ?_
  intro w1 hb
  have hc := hb.ccell
  have hf := hb.frz
  have hs := hb.sz
  (try simp at hs); (try have hs0 := hs w.heap.size (by omega)); (try have hs1 := hs (w.heap.size + 1) (by omega)); (try have hs2 := hs (w.heap.size + 1 + 1) (by omega)); (try have hs3 := hs (w.heap.size + 1 + 1 + 1) (by omega))
  (try simp only [IntWalk.i64_left])
  have hX : -10 ≤ s0.tmod 11 ∧ s0.tmod 11 ≤ 10 := by have := tmod_form s0 11 (by omega); omega
  have hY : -10 ≤ s1.tmod 11 ∧ s1.tmod 11 ≤ 10 := by have := tmod_form s1 11 (by omega); omega
  generalize s0.tmod 11 = X at *
  generalize s1.tmod 11 = Y at *
  clear hw0 hw1 hw2 h0 h1
  obtain ⟨q0, hq0⟩ : ∃ q, m0 % 1000 = q := ⟨_, rfl⟩
  have b0 : -500 ≤ q0 - 500 ∧ q0 - 500 ≤ 499 := by omega
  have HM0 := Lib.hid (mod_is_c m0 q0 hq0)
  clear hq0
  obtain ⟨q1, hq1⟩ : ∃ q, m1 % 1000 = q := ⟨_, rfl⟩
  have b1 : -500 ≤ q1 - 500 ∧ q1 - 500 ≤ 499 := by omega
  have HM1 := Lib.hid (mod_is_c m1 q1 hq1)
  clear hq1
  obtain ⟨q2, hq2⟩ : ∃ q, m2 % 1000 = q := ⟨_, rfl⟩
  have b2 : -500 ≤ q2 - 500 ∧ q2 - 500 ≤ 499 := by omega
  have HM2 := Lib.hid (mod_is_c m2 q2 hq2)
  clear hq2
  obtain ⟨q3, hq3⟩ : ∃ q, m3 % 1000 = q := ⟨_, rfl⟩
  have b3 : -500 ≤ q3 - 500 ∧ q3 - 500 ≤ 499 := by omega
  have HM3 := Lib.hid (mod_is_c m3 q3 hq3)
  clear hq3
  obtain ⟨q4, hq4⟩ : ∃ q, m4 % 1000 = q := ⟨_, rfl⟩
  have b4 : -500 ≤ q4 - 500 ∧ q4 - 500 ≤ 499 := by omega
  have HM4 := Lib.hid (mod_is_c m4 q4 hq4)
  clear hq4
  obtain ⟨q5, hq5⟩ : ∃ q, m5 % 1000 = q := ⟨_, rfl⟩
  have b5 : -500 ≤ q5 - 500 ∧ q5 - 500 ≤ 499 := by omega
  have HM5 := Lib.hid (mod_is_c m5 q5 hq5)
  clear hq5
  obtain ⟨q6, hq6⟩ : ∃ q, m6 % 1000 = q := ⟨_, rfl⟩
  have b6 : -500 ≤ q6 - 500 ∧ q6 - 500 ≤ 499 := by omega
  have HM6 := Lib.hid (mod_is_c m6 q6 hq6)
  clear hq6
  obtain ⟨q7, hq7⟩ : ∃ q, m7 % 1000 = q := ⟨_, rfl⟩
  have b7 : -500 ≤ q7 - 500 ∧ q7 - 500 ≤ 499 := by omega
  have HM7 := Lib.hid (mod_is_c m7 q7 hq7)
  clear hq7
  have hx0 : IntKind.i64.wrap (q0 - 500) = q0 - 500 := IntWalk.i64_in _ (by omega)
  obtain ⟨x0, e0⟩ : ∃ x, q0 - 500 = x := ⟨_, rfl⟩
  rw [e0] at b0
  have HX0 := Lib.hid (hx0.trans e0)
  clear hx0 e0
  have hx1 : IntKind.i64.wrap (q1 - 500) = q1 - 500 := IntWalk.i64_in _ (by omega)
  obtain ⟨y0, e1⟩ : ∃ x, q1 - 500 = x := ⟨_, rfl⟩
  rw [e1] at b1
  have HX1 := Lib.hid (hx1.trans e1)
  clear hx1 e1
  have hx2 : IntKind.i64.wrap (q2 - 500) = q2 - 500 := IntWalk.i64_in _ (by omega)
  obtain ⟨x1, e2⟩ : ∃ x, q2 - 500 = x := ⟨_, rfl⟩
  rw [e2] at b2
  have HX2 := Lib.hid (hx2.trans e2)
  clear hx2 e2
  have hx3 : IntKind.i64.wrap (q3 - 500) = q3 - 500 := IntWalk.i64_in _ (by omega)
  obtain ⟨y1, e3⟩ : ∃ x, q3 - 500 = x := ⟨_, rfl⟩
  rw [e3] at b3
  have HX3 := Lib.hid (hx3.trans e3)
  clear hx3 e3
  have hx4 : IntKind.i64.wrap (q4 - 500) = q4 - 500 := IntWalk.i64_in _ (by omega)
  obtain ⟨x2, e4⟩ : ∃ x, q4 - 500 = x := ⟨_, rfl⟩
  rw [e4] at b4
  have HX4 := Lib.hid (hx4.trans e4)
  clear hx4 e4
  have hx5 : IntKind.i64.wrap (q5 - 500) = q5 - 500 := IntWalk.i64_in _ (by omega)
  obtain ⟨y2, e5⟩ : ∃ x, q5 - 500 = x := ⟨_, rfl⟩
  rw [e5] at b5
  have HX5 := Lib.hid (hx5.trans e5)
  clear hx5 e5
  have hx6 : IntKind.i64.wrap (q6 - 500) = q6 - 500 := IntWalk.i64_in _ (by omega)
  obtain ⟨x3, e6⟩ : ∃ x, q6 - 500 = x := ⟨_, rfl⟩
  rw [e6] at b6
  have HX6 := Lib.hid (hx6.trans e6)
  clear hx6 e6
  have hx7 : IntKind.i64.wrap (q7 - 500) = q7 - 500 := IntWalk.i64_in _ (by omega)
  obtain ⟨y3, e7⟩ : ∃ x, q7 - 500 = x := ⟨_, rfl⟩
  rw [e7] at b7
  have HX7 := Lib.hid (hx7.trans e7)
  clear hx7 e7
  have HPL := Lib.hid (show Plane4 X Y s2 x0 y0 x1 y1 x2 y2 x3 y3 from ⟨hX, hY, h2, ⟨b0, b1⟩, ⟨b2, b3⟩, ⟨b4, b5⟩, ⟨b6, b7⟩⟩)
  clear hX hY h2 b0 b1 b2 b3 b4 b5 b6 b7
  go_wp2
  have hEw : Ext w w1 := by (repeat (first | with_reducible exact Ext.rfl' _ | with_reducible assumption | with_reducible refine Ext.al ?_ _ | with_reducible refine Ext.dr ?_ | with_reducible refine Ext.st ?_ (by simp) _ | with_reducible refine Ext.tr ?_ (by assumption)))
  have hP0 : PlW w w1 (.slice none 0 0) m0 m1 m2 m3 m4 m5 m6 m7 [] := by
    refine ⟨hEw, hs1, ⟨?_, ?_, ?_, ?_, ?_, ?_, ?_, ?_⟩, fun j => ?_, World.ownsRow_nil _ _ _ _⟩ <;> simp [*, go_sem]
  have HP0 := Lib.hid hP0
  clear hP0
  clear hb hc hf hs hs0 hs1
  go_loopw [5, 9] (fun v i wr => PlRel w X Y s2 m0 m1 m2 m3 m4 m5 m6 m7 x0 y0 x1 y1 x2 y2 x3 y3 v i wr) (fun _ i _ => (4 - intOf i).toNat)
  case atStart => exact .inl ⟨rfl, HP0.out⟩
  case round =>
    rcases hrel with ⟨rfl, hP⟩ | ⟨rfl, hP⟩ | ⟨rfl, hP⟩ | ⟨rfl, hP⟩ | ⟨rfl, hP⟩
    · obtain ⟨hE, hz, ⟨e0, e1, e2, e3, e4, e5, e6, e7⟩, fz, hown⟩ := hP
      simp only [NoFreeze] at fz
      have HO := Lib.hid hown
      clear hown
      go_wp2_with fail
      go_cut [5, 42] (fun v _ wx => PlW w wx v x0 y0 m2 m3 m4 m5 m6 m7 [])
      case first =>
        have hxa := HX0.out
        have hxb := HX1.out
        go_region_with (first | (go_at_call 70; (first | (with_reducible refine Calls.mono (HM0.out _) ?_) | (with_reducible refine Calls.mono (HM1.out _) ?_)); rintro e w' ⟨rfl, rfl⟩))
        all_goals
          rename_i J0 K0 h1 h2
          refine h2 _ _ (Met.intro (h1 _ _ ?_))
          (repeat apply Exists.intro)
          refine ⟨?_, rfl⟩
          refine ⟨by (repeat (first | with_reducible exact Ext.rfl' _ | with_reducible assumption | with_reducible refine Ext.al ?_ _ | with_reducible refine Ext.dr ?_ | with_reducible refine Ext.st ?_ (by simp) _ | with_reducible refine Ext.tr ?_ (by assumption))), by simpa using hz, ⟨?_, ?_, ?_, ?_, ?_, ?_, ?_, ?_⟩, fun j => ?_, World.ownsRow.drew (own_setCell (own_setCell HO.out (by simp) _) (by simp) _)⟩
          all_goals first | (simp [go_sem, e0, e1, e2, e3, e4, e5, e6, e7]; done) | (simp [go_sem, fz]; done)
      case rest =>
        clear hE hz e0 e1 e2 e3 e4 e5 e6 e7 fz HO
        have HC := Lib.hid hcut
        obtain ⟨hE, hz, ⟨e0, e1, e2, e3, e4, e5, e6, e7⟩, fz, hown⟩ := hcut
        have HO := Lib.hid hown
        clear hown
        obtain ⟨hp0, hp1, hp2, hp3⟩ := plane_wraps HPL.out.hX HPL.out.hY HPL.out.hZ HPL.out.b0
        obtain ⟨i0, hi, hz0, hz1, hz2⟩ := info_parts infoN
        go_wp2_with fail
        go_region_held3 (fun w' => w'.cell? ⟨w.heap.size, 0, none⟩ = some (.int .i64 x0) ∧ w'.cell? ⟨w.heap.size, 1, none⟩ = some (.int .i64 y0)) (first | exact ⟨r0, r1⟩ | (simp [e0, e1, World.cell?_alloc_some])) ((refine step_append_own rfl (.tmp 53) (.tmp 78) 66 rfl (w.heap.size + 2) 86 i0 _ 3 24 Try.underlying66 hi hz0 hz1 hz2 rfl (by decide) _ 0 _ rfl (World.ownsRow.alloc (World.ownsRow.drew HO.out) _) ⟨_, 0, none⟩ 1 1 [.int .i64 x0, .int .i64 y0, .int .i64 (X * x0 + Y * y0 + s2)] rfl rfl (three_new _ _ _ _ _) (by intro u hu; simp at hu; rcases hu with rfl | rfl | rfl <;> rfl) (by unfold maxLen; omega) (by omega) (by simp; omega) ?_; intro v' w3 hown3 hgrow3; have hB3 : Below (w.heap.size + 2) wc w3 := (Below.grown (Below.mono (Ext.al (Ext.dr (Ext.rfl' wc)) _) (by omega)) hgrow3 (by simp; omega) (by intro q hq; exact (World.ownsRow.lt HO.out q hq).1)); have r0 := (Below.cell (p := ⟨w.heap.size, 0, none⟩) hB3 (by simp)).trans e0; have r1 := (Below.cell (p := ⟨w.heap.size, 1, none⟩) hB3 (by simp)).trans e1))
        clear hi hz0 hz1 hz2 hp0 hp1 hp2 hp3 hgrow3 e0 e1 e2 e3 e4 e5 e6 e7 fz hE hz HO
        go_wp2
        exact ⟨.inr (.inl ⟨rfl, HC.out.grown hB3 hown3⟩), by simp [intOf]⟩
    · obtain ⟨hE, hz, ⟨e0, e1, e2, e3, e4, e5, e6, e7⟩, fz, hown⟩ := hP
      simp only [NoFreeze] at fz
      have HO := Lib.hid hown
      clear hown
      go_wp2_with fail
      go_cut [5, 42] (fun v _ wx => PlW w wx v x0 y0 x1 y1 m4 m5 m6 m7 [pl X Y s2 x0 y0])
      case first =>
        have hxa := HX2.out
        have hxb := HX3.out
        go_region_with (first | (go_at_call 70; (first | (with_reducible refine Calls.mono (HM2.out _) ?_) | (with_reducible refine Calls.mono (HM3.out _) ?_)); rintro e w' ⟨rfl, rfl⟩))
        all_goals
          rename_i J0 K0 h1 h2
          refine h2 _ _ (Met.intro (h1 _ _ ?_))
          (repeat apply Exists.intro)
          refine ⟨?_, rfl⟩
          refine ⟨by (repeat (first | with_reducible exact Ext.rfl' _ | with_reducible assumption | with_reducible refine Ext.al ?_ _ | with_reducible refine Ext.dr ?_ | with_reducible refine Ext.st ?_ (by simp) _ | with_reducible refine Ext.tr ?_ (by assumption))), by simpa using hz, ⟨?_, ?_, ?_, ?_, ?_, ?_, ?_, ?_⟩, fun j => ?_, World.ownsRow.drew (own_setCell (own_setCell HO.out (by simp) _) (by simp) _)⟩
          all_goals first | (simp [go_sem, e0, e1, e2, e3, e4, e5, e6, e7]; done) | (simp [go_sem, fz]; done)
      case rest =>
        clear hE hz e0 e1 e2 e3 e4 e5 e6 e7 fz HO
        have HC := Lib.hid hcut
        obtain ⟨hE, hz, ⟨e0, e1, e2, e3, e4, e5, e6, e7⟩, fz, hown⟩ := hcut
        have HO := Lib.hid hown
        clear hown
        obtain ⟨hp0, hp1, hp2, hp3⟩ := plane_wraps HPL.out.hX HPL.out.hY HPL.out.hZ HPL.out.b1
        obtain ⟨i0, hi, hz0, hz1, hz2⟩ := info_parts infoN
        go_wp2_with fail
        go_region_held3 (fun w' => w'.cell? ⟨w.heap.size, 2, none⟩ = some (.int .i64 x1) ∧ w'.cell? ⟨w.heap.size, 3, none⟩ = some (.int .i64 y1)) (first | exact ⟨r0, r1⟩ | (simp [e2, e3, World.cell?_alloc_some])) ((refine step_append_own rfl (.tmp 53) (.tmp 78) 66 rfl (w.heap.size + 2) 86 i0 _ 3 24 Try.underlying66 hi hz0 hz1 hz2 rfl (by decide) _ 1 _ rfl (World.ownsRow.alloc (World.ownsRow.drew HO.out) _) ⟨_, 0, none⟩ 1 1 [.int .i64 x1, .int .i64 y1, .int .i64 (X * x1 + Y * y1 + s2)] rfl rfl (three_new _ _ _ _ _) (by intro u hu; simp at hu; rcases hu with rfl | rfl | rfl <;> rfl) (by unfold maxLen; omega) (by omega) (by simp; omega) ?_; intro v' w3 hown3 hgrow3; have hB3 : Below (w.heap.size + 2) wc w3 := (Below.grown (Below.mono (Ext.al (Ext.dr (Ext.rfl' wc)) _) (by omega)) hgrow3 (by simp; omega) (by intro q hq; exact (World.ownsRow.lt HO.out q hq).1)); have r0 := (Below.cell (p := ⟨w.heap.size, 2, none⟩) hB3 (by simp)).trans e2; have r1 := (Below.cell (p := ⟨w.heap.size, 3, none⟩) hB3 (by simp)).trans e3))
        clear hi hz0 hz1 hz2 hp0 hp1 hp2 hp3 hgrow3 e0 e1 e2 e3 e4 e5 e6 e7 fz hE hz HO
        go_wp2
        exact ⟨.inr (.inr (.inl ⟨rfl, HC.out.grown hB3 hown3⟩)), by simp [intOf]⟩
    · obtain ⟨hE, hz, ⟨e0, e1, e2, e3, e4, e5, e6, e7⟩, fz, hown⟩ := hP
      simp only [NoFreeze] at fz
      have HO := Lib.hid hown
      clear hown
      go_wp2_with fail
      go_cut [5, 42] (fun v _ wx => PlW w wx v x0 y0 x1 y1 x2 y2 m6 m7 [pl X Y s2 x0 y0, pl X Y s2 x1 y1])
      case first =>
        have hxa := HX4.out
        have hxb := HX5.out
        go_region_with (first | (go_at_call 70; (first | (with_reducible refine Calls.mono (HM4.out _) ?_) | (with_reducible refine Calls.mono (HM5.out _) ?_)); rintro e w' ⟨rfl, rfl⟩))
        all_goals
          rename_i J0 K0 h1 h2
          refine h2 _ _ (Met.intro (h1 _ _ ?_))
          (repeat apply Exists.intro)
          refine ⟨?_, rfl⟩
          refine ⟨by (repeat (first | with_reducible exact Ext.rfl' _ | with_reducible assumption | with_reducible refine Ext.al ?_ _ | with_reducible refine Ext.dr ?_ | with_reducible refine Ext.st ?_ (by simp) _ | with_reducible refine Ext.tr ?_ (by assumption))), by simpa using hz, ⟨?_, ?_, ?_, ?_, ?_, ?_, ?_, ?_⟩, fun j => ?_, World.ownsRow.drew (own_setCell (own_setCell HO.out (by simp) _) (by simp) _)⟩
          all_goals first | (simp [go_sem, e0, e1, e2, e3, e4, e5, e6, e7]; done) | (simp [go_sem, fz]; done)
      case rest =>
        clear hE hz e0 e1 e2 e3 e4 e5 e6 e7 fz HO
        have HC := Lib.hid hcut
        obtain ⟨hE, hz, ⟨e0, e1, e2, e3, e4, e5, e6, e7⟩, fz, hown⟩ := hcut
        have HO := Lib.hid hown
        clear hown
        obtain ⟨hp0, hp1, hp2, hp3⟩ := plane_wraps HPL.out.hX HPL.out.hY HPL.out.hZ HPL.out.b2
        obtain ⟨i0, hi, hz0, hz1, hz2⟩ := info_parts infoN
        go_wp2_with fail
        go_region_held3 (fun w' => w'.cell? ⟨w.heap.size, 4, none⟩ = some (.int .i64 x2) ∧ w'.cell? ⟨w.heap.size, 5, none⟩ = some (.int .i64 y2)) (first | exact ⟨r0, r1⟩ | (simp [e4, e5, World.cell?_alloc_some])) ((refine step_append_own rfl (.tmp 53) (.tmp 78) 66 rfl (w.heap.size + 2) 86 i0 _ 3 24 Try.underlying66 hi hz0 hz1 hz2 rfl (by decide) _ 2 _ rfl (World.ownsRow.alloc (World.ownsRow.drew HO.out) _) ⟨_, 0, none⟩ 1 1 [.int .i64 x2, .int .i64 y2, .int .i64 (X * x2 + Y * y2 + s2)] rfl rfl (three_new _ _ _ _ _) (by intro u hu; simp at hu; rcases hu with rfl | rfl | rfl <;> rfl) (by unfold maxLen; omega) (by omega) (by simp; omega) ?_; intro v' w3 hown3 hgrow3; have hB3 : Below (w.heap.size + 2) wc w3 := (Below.grown (Below.mono (Ext.al (Ext.dr (Ext.rfl' wc)) _) (by omega)) hgrow3 (by simp; omega) (by intro q hq; exact (World.ownsRow.lt HO.out q hq).1)); have r0 := (Below.cell (p := ⟨w.heap.size, 4, none⟩) hB3 (by simp)).trans e4; have r1 := (Below.cell (p := ⟨w.heap.size, 5, none⟩) hB3 (by simp)).trans e5))
        clear hi hz0 hz1 hz2 hp0 hp1 hp2 hp3 hgrow3 e0 e1 e2 e3 e4 e5 e6 e7 fz hE hz HO
        go_wp2
        exact ⟨.inr (.inr (.inr (.inl ⟨rfl, HC.out.grown hB3 hown3⟩))), by simp [intOf]⟩
    · obtain ⟨hE, hz, ⟨e0, e1, e2, e3, e4, e5, e6, e7⟩, fz, hown⟩ := hP
      simp only [NoFreeze] at fz
      have HO := Lib.hid hown
      clear hown
      go_wp2_with fail
      go_cut [5, 42] (fun v _ wx => PlW w wx v x0 y0 x1 y1 x2 y2 x3 y3 [pl X Y s2 x0 y0, pl X Y s2 x1 y1, pl X Y s2 x2 y2])
      case first =>
        have hxa := HX6.out
        have hxb := HX7.out
        go_region_with (first | (go_at_call 70; (first | (with_reducible refine Calls.mono (HM6.out _) ?_) | (with_reducible refine Calls.mono (HM7.out _) ?_)); rintro e w' ⟨rfl, rfl⟩))
        all_goals
          rename_i J0 K0 h1 h2
          refine h2 _ _ (Met.intro (h1 _ _ ?_))
          (repeat apply Exists.intro)
          refine ⟨?_, rfl⟩
          refine ⟨by (repeat (first | with_reducible exact Ext.rfl' _ | with_reducible assumption | with_reducible refine Ext.al ?_ _ | with_reducible refine Ext.dr ?_ | with_reducible refine Ext.st ?_ (by simp) _ | with_reducible refine Ext.tr ?_ (by assumption))), by simpa using hz, ⟨?_, ?_, ?_, ?_, ?_, ?_, ?_, ?_⟩, fun j => ?_, World.ownsRow.drew (own_setCell (own_setCell HO.out (by simp) _) (by simp) _)⟩
          all_goals first | (simp [go_sem, e0, e1, e2, e3, e4, e5, e6, e7]; done) | (simp [go_sem, fz]; done)
      case rest =>
        clear hE hz e0 e1 e2 e3 e4 e5 e6 e7 fz HO
        have HC := Lib.hid hcut
        obtain ⟨hE, hz, ⟨e0, e1, e2, e3, e4, e5, e6, e7⟩, fz, hown⟩ := hcut
        have HO := Lib.hid hown
        clear hown
        obtain ⟨hp0, hp1, hp2, hp3⟩ := plane_wraps HPL.out.hX HPL.out.hY HPL.out.hZ HPL.out.b3
        obtain ⟨i0, hi, hz0, hz1, hz2⟩ := info_parts infoN
        go_wp2_with fail
        go_region_held3 (fun w' => w'.cell? ⟨w.heap.size, 6, none⟩ = some (.int .i64 x3) ∧ w'.cell? ⟨w.heap.size, 7, none⟩ = some (.int .i64 y3)) (first | exact ⟨r0, r1⟩ | (simp [e6, e7, World.cell?_alloc_some])) ((refine step_append_own rfl (.tmp 53) (.tmp 78) 66 rfl (w.heap.size + 2) 86 i0 _ 3 24 Try.underlying66 hi hz0 hz1 hz2 rfl (by decide) _ 3 _ rfl (World.ownsRow.alloc (World.ownsRow.drew HO.out) _) ⟨_, 0, none⟩ 1 1 [.int .i64 x3, .int .i64 y3, .int .i64 (X * x3 + Y * y3 + s2)] rfl rfl (three_new _ _ _ _ _) (by intro u hu; simp at hu; rcases hu with rfl | rfl | rfl <;> rfl) (by unfold maxLen; omega) (by omega) (by simp; omega) ?_; intro v' w3 hown3 hgrow3; have hB3 : Below (w.heap.size + 2) wc w3 := (Below.grown (Below.mono (Ext.al (Ext.dr (Ext.rfl' wc)) _) (by omega)) hgrow3 (by simp; omega) (by intro q hq; exact (World.ownsRow.lt HO.out q hq).1)); have r0 := (Below.cell (p := ⟨w.heap.size, 6, none⟩) hB3 (by simp)).trans e6; have r1 := (Below.cell (p := ⟨w.heap.size, 7, none⟩) hB3 (by simp)).trans e7))
        clear hi hz0 hz1 hz2 hp0 hp1 hp2 hp3 hgrow3 e0 e1 e2 e3 e4 e5 e6 e7 fz hE hz HO
        go_wp2
        exact ⟨.inr (.inr (.inr (.inr ⟨rfl, HC.out.grown hB3 hown3⟩))), by simp [intOf]⟩
    · obtain ⟨hE, hz, ⟨e0, e1, e2, e3, e4, e5, e6, e7⟩, fz, hown⟩ := hP
      obtain ⟨g, cap, hv, hg2, hrow⟩ := row_of_own hown (by simp [four])
      have hv' : _ = Value.slice (some ⟨g, 0, none⟩) 4 cap := hv
      subst hv'
      have n0 : wr.cell? ⟨g, 2, none⟩ = some (.int .i64 (X * x0 + Y * y0 + s2)) := by have := (hrow.q3' (k := 0) rfl wr (Ext.rfl' _)).2.2; simpa using this
      have n1 : wr.cell? ⟨g, 5, none⟩ = some (.int .i64 (X * x1 + Y * y1 + s2)) := by have := (hrow.q3' (k := 1) rfl wr (Ext.rfl' _)).2.2; simpa using this
      have n2 : wr.cell? ⟨g, 8, none⟩ = some (.int .i64 (X * x2 + Y * y2 + s2)) := by have := (hrow.q3' (k := 2) rfl wr (Ext.rfl' _)).2.2; simpa using this
      have n3 : wr.cell? ⟨g, 11, none⟩ = some (.int .i64 (X * x3 + Y * y3 + s2)) := by have := (hrow.q3' (k := 3) rfl wr (Ext.rfl' _)).2.2; simpa using this
      have hgr : g < wr.heap.size := World.block_lt_of_cell? wr ⟨g, 2, none⟩ n0
      have hpr : w.heap.size < wr.heap.size := by omega
      have hO := fun w => rorient_c x0 y0 x1 y1 x2 y2 w
      have hC := fun w => rcross_c x0 y0 x1 y1 x2 y2 w
      rw [crossW_good (small_good HPL.out.b0) (small_good HPL.out.b1) (small_good HPL.out.b2)] at hO hC
      have HC1 := Lib.hid hC
      have hbd0 := crossZ_bound (small_good HPL.out.b0) (small_good HPL.out.b1) (small_good HPL.out.b2)
      have hl0 := plane_level HPL.out.hX HPL.out.hY HPL.out.hZ HPL.out.b0.1 HPL.out.b0.2
      have hl1 := plane_level HPL.out.hX HPL.out.hY HPL.out.hZ HPL.out.b1.1 HPL.out.b1.2
      have hl2 := plane_level HPL.out.hX HPL.out.hY HPL.out.hZ HPL.out.b2.1 HPL.out.b2.2
      by_cases hD : crossZ ⟨x0, y0⟩ ⟨x1, y1⟩ ⟨x2, y2⟩ = 0
      · have HL1 := Lib.hid (fun w' (hw : Ext wr w') => flat_level_c HPL.out hD w' _ cap (hrow.ext hw))
        have HL2 := Lib.hid (fun w' (hw : Ext wr w') => flat_level_c' HPL.out hD w' _ cap (hrow.ext hw))
        have HPR := Lib.hid (fun w' (hw : Ext wr w') => flat_prism_c HPL.out hD w' _ cap (hrow.ext hw))
        rw [hD] at hO
        have HO1 := Lib.hid (show ∀ w, Calls _ _ _ w fun e w' => e = .returned (.int .i64 0) ∧ Ext w w' from hO)
        clear hO hC hD hv hown hrow hbd0 hl0 hl1 hl2
        go_wp2_with (first | (go_at_call 63; (first | (with_reducible refine Calls.mono (HL1.out _ (by (repeat (first | with_reducible exact Ext.rfl' _ | with_reducible assumption | with_reducible refine Ext.al ?_ _ | with_reducible refine Ext.dr ?_ | with_reducible refine Ext.st ?_ (by simp) _ | with_reducible refine Ext.tr ?_ (by assumption))))) ?_; rintro e wa ⟨rfl, hba⟩; have hEa : Ext wr wa := (by (repeat (first | with_reducible exact Ext.rfl' _ | with_reducible assumption | with_reducible refine Ext.al ?_ _ | with_reducible refine Ext.dr ?_ | with_reducible refine Ext.st ?_ (by simp) _ | with_reducible refine Ext.tr ?_ (by assumption)))); have hca := hEa.ccell; have h10a := (fun o => hba.ccell wr.heap.size o (by simp)); have ga := hEa.sz _ hgr; have pa := hEa.sz _ hpr; have ta := hba.sz wr.heap.size (by simp)) | (with_reducible refine Calls.mono (HL2.out _ (by (repeat (first | with_reducible exact Ext.rfl' _ | with_reducible assumption | with_reducible refine Ext.al ?_ _ | with_reducible refine Ext.dr ?_ | with_reducible refine Ext.st ?_ (by simp) _ | with_reducible refine Ext.tr ?_ (by assumption))))) ?_; rintro e wb ⟨rfl, hbb⟩; have hEb : Ext wa wb := (by (repeat (first | with_reducible exact Ext.rfl' _ | with_reducible assumption | with_reducible refine Ext.al ?_ _ | with_reducible refine Ext.dr ?_ | with_reducible refine Ext.st ?_ (by simp) _ | with_reducible refine Ext.tr ?_ (by assumption)))); have hcb := hEb.ccell; have h11b := (fun o => hbb.ccell wa.heap.size o (by simp)); have gb := hEb.sz _ ga; have pb := hEb.sz _ pa; have tb := hEb.sz _ ta; have ub := hbb.sz wa.heap.size (by simp)))) | (go_at_call 64; with_reducible refine Calls.mono (HPR.out _ (by (repeat (first | with_reducible exact Ext.rfl' _ | with_reducible assumption | with_reducible refine Ext.al ?_ _ | with_reducible refine Ext.dr ?_ | with_reducible refine Ext.st ?_ (by simp) _ | with_reducible refine Ext.tr ?_ (by assumption))))) ?_; rintro e wp ⟨rfl, hbp⟩; have hEp : Ext wb wp := (by (repeat (first | with_reducible exact Ext.rfl' _ | with_reducible assumption | with_reducible refine Ext.al ?_ _ | with_reducible refine Ext.dr ?_ | with_reducible refine Ext.st ?_ (by simp) _ | with_reducible refine Ext.tr ?_ (by assumption)))); have hcp := hEp.ccell; have h13p := (fun o => hbp.ccell wb.heap.size o (by simp)); have gp := hEp.sz _ gb; have pp := hEp.sz _ pb; have tp := hEp.sz _ tb; have up := hEp.sz _ ub; have vp := hbp.sz wb.heap.size (by simp)) | (go_at_call 28; with_reducible refine Calls.mono (HO1.out _) ?_; rintro e wd ⟨rfl, hbd⟩; have hcd := hbd.ccell; have gd := hbd.sz _ gp; have pd := hbd.sz _ pp; have td := hbd.sz _ tp; have ud := hbd.sz _ up; have vd := hbd.sz _ vp))
        go_ret
        exact ⟨ret_bool rfl, by (repeat (first | with_reducible exact Ext.rfl' _ | with_reducible assumption | with_reducible refine Ext.al ?_ _ | with_reducible refine Ext.dr ?_ | with_reducible refine Ext.st ?_ (by simp) _ | with_reducible refine Ext.tr ?_ (by assumption)))⟩
      · have HL1 := Lib.hid (fun w' (hw : Ext wr w') => plane_level_c HPL.out hD w' _ cap (hrow.ext hw))
        have HL2 := Lib.hid (fun w' (hw : Ext wr w') => plane_level_c' HPL.out hD w' _ cap (hrow.ext hw))
        have hPR := fun w' (hw : Ext wr w') => plane_prism_c HPL.out hD w' _ cap (hrow.ext hw)
        unfold prismV at hPR
        have hA := fun w => abs_c (crossZ ⟨x0, y0⟩ ⟨x1, y1⟩ ⟨x2, y2⟩) w
        rw [absW_abs (by omega) (by omega), ← sizeW_abs (by omega) (by omega)] at hA
        generalize crossZ ⟨x0, y0⟩ ⟨x1, y1⟩ ⟨x2, y2⟩ = D at *
        generalize sizeW D = SD at *
        generalize X * x0 + Y * y0 + s2 = l0 at *
        generalize X * x1 + Y * y1 + s2 = l1 at *
        generalize X * x2 + Y * y2 + s2 = l2 at *
        generalize X * x3 + Y * y3 + s2 = l3 at *
        rw [show l0 + l1 + l2 - 3 * 0 = l0 + l1 + l2 by omega] at hPR
        obtain ⟨q, hq⟩ : ∃ q, wrap64 (SD * (l0 + l1 + l2)) = q := ⟨_, rfl⟩
        rw [hq] at hPR
        obtain ⟨o, ho⟩ : ∃ o, cmpI D 0 = o := ⟨_, rfl⟩
        have ho0 : ¬ o = 0 := by rw [← ho]; unfold cmpI; split <;> (try split) <;> omega
        rw [ho] at hO
        have HPR := Lib.hid hPR
        have HO1 := Lib.hid hO
        have HA1 := Lib.hid hA
        have hs1 : IntKind.i64.wrap (l0 + l1) = l0 + l1 := IntWalk.i64_in _ (by omega)
        have hs2 : IntKind.i64.wrap (l0 + l1 + l2) = l0 + l1 + l2 := IntWalk.i64_in _ (by omega)
        have hs3 : IntKind.i64.wrap (SD * (l0 + l1 + l2)) = q := by simp only [IntWalk.i64_left]; exact hq
        have HS := Lib.hid (And.intro hs1 (And.intro hs2 hs3))
        clear hO hC hD hv hown hrow hbd0 hl0 hl1 hl2 hPR hA hq ho hs1 hs2 hs3
        go_wp2_with (first | (go_at_call 63; (first | (with_reducible refine Calls.mono (HL1.out _ (by (repeat (first | with_reducible exact Ext.rfl' _ | with_reducible assumption | with_reducible refine Ext.al ?_ _ | with_reducible refine Ext.dr ?_ | with_reducible refine Ext.st ?_ (by simp) _ | with_reducible refine Ext.tr ?_ (by assumption))))) ?_; rintro e wa ⟨rfl, hba⟩; have hEa : Ext wr wa := (by (repeat (first | with_reducible exact Ext.rfl' _ | with_reducible assumption | with_reducible refine Ext.al ?_ _ | with_reducible refine Ext.dr ?_ | with_reducible refine Ext.st ?_ (by simp) _ | with_reducible refine Ext.tr ?_ (by assumption)))); have hca := hEa.ccell; have h10a := (fun o => hba.ccell wr.heap.size o (by simp)); have ga := hEa.sz _ hgr; have pa := hEa.sz _ hpr; have ta := hba.sz wr.heap.size (by simp)) | (with_reducible refine Calls.mono (HL2.out _ (by (repeat (first | with_reducible exact Ext.rfl' _ | with_reducible assumption | with_reducible refine Ext.al ?_ _ | with_reducible refine Ext.dr ?_ | with_reducible refine Ext.st ?_ (by simp) _ | with_reducible refine Ext.tr ?_ (by assumption))))) ?_; rintro e wb ⟨rfl, hbb⟩; have hEb : Ext wa wb := (by (repeat (first | with_reducible exact Ext.rfl' _ | with_reducible assumption | with_reducible refine Ext.al ?_ _ | with_reducible refine Ext.dr ?_ | with_reducible refine Ext.st ?_ (by simp) _ | with_reducible refine Ext.tr ?_ (by assumption)))); have hcb := hEb.ccell; have h11b := (fun o => hbb.ccell wa.heap.size o (by simp)); have gb := hEb.sz _ ga; have pb := hEb.sz _ pa; have tb := hEb.sz _ ta; have ub := hbb.sz wa.heap.size (by simp)))) | (go_at_call 64; with_reducible refine Calls.mono (HPR.out _ (by (repeat (first | with_reducible exact Ext.rfl' _ | with_reducible assumption | with_reducible refine Ext.al ?_ _ | with_reducible refine Ext.dr ?_ | with_reducible refine Ext.st ?_ (by simp) _ | with_reducible refine Ext.tr ?_ (by assumption))))) ?_; rintro e wp ⟨rfl, hbp⟩; have hEp : Ext wb wp := (by (repeat (first | with_reducible exact Ext.rfl' _ | with_reducible assumption | with_reducible refine Ext.al ?_ _ | with_reducible refine Ext.dr ?_ | with_reducible refine Ext.st ?_ (by simp) _ | with_reducible refine Ext.tr ?_ (by assumption)))); have hcp := hEp.ccell; have h13p := (fun o => hbp.ccell wb.heap.size o (by simp)); have gp := hEp.sz _ gb; have pp := hEp.sz _ pb; have tp := hEp.sz _ tb; have up := hEp.sz _ ub; have vp := hbp.sz wb.heap.size (by simp)) | (go_at_call 28; with_reducible refine Calls.mono (HO1.out _) ?_; rintro e wd ⟨rfl, hbd⟩; have hcd := hbd.ccell; have gd := hbd.sz _ gp; have pd := hbd.sz _ pp; have td := hbd.sz _ tp; have ud := hbd.sz _ up; have vd := hbd.sz _ vp) | (go_at_call 27; with_reducible refine Calls.mono (HC1.out _) ?_; rintro e we ⟨rfl, hbe⟩; have hce := hbe.ccell; have ge := hbe.sz _ gd; have pe := hbe.sz _ pd; have te := hbe.sz _ td; have ue := hbe.sz _ ud; have ve := hbe.sz _ vd) | (go_at_call 71; refine Calls.mono (HA1.out _) ?_; rintro e w' ⟨rfl, rfl⟩))
        obtain ⟨hs1, hs2, hs3⟩ := HS.out
        refine region_grow (by kernel_rfl) (by kernel_rfl) ?_
        repeat (first | go_big_quiet_step (first  | fail) | quiet_step (first  | fail))
        refine wpQuiet_nil ?_
        intro w1 hb
        have hc := hb.ccell
        have hf := hb.frz
        have hs := hb.sz
        (try simp at hs); (try have hs0 := hs w.heap.size (by omega)); (try have hs1 := hs (w.heap.size + 1) (by omega)); (try have hs2 := hs (w.heap.size + 1 + 1) (by omega)); (try have hs3 := hs (w.heap.size + 1 + 1 + 1) (by omega))
        (try simp only [IntWalk.i64_left])
        go_wp2
        go_ret
        exact ⟨ret_bool rfl, by (repeat (first | with_reducible exact Ext.rfl' _ | with_reducible assumption | with_reducible refine Ext.al ?_ _ | with_reducible refine Ext.dr ?_ | with_reducible refine Ext.st ?_ (by simp) _ | with_reducible refine Ext.tr ?_ (by assumption)))⟩
end Go.Proofs.Ytcdbekmcobghbaa
