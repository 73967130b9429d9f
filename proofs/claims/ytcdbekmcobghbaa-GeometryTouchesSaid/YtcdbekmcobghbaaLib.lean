/- The library's functions on slices of points, in the words of this program. -/
import Derived.Test.YtcdbekmcobghbaaOwn
import Derived.Laws.StructEq
import Derived.Carry
namespace Go.Proofs.Ytcdbekmcobghbaa
open Go Go.RowKit Go.Sort Go.Shelf Go.Lib

theorem encP_one : ∀ (x : Pt), ∀ v ∈ encP x, v.oneCell' = true := fun x v hv => by simp [encP] at hv; rcases hv with rfl | rfl <;> rfl
theorem encP_all (l : List Pt) : ∀ v ∈ l.flatMap encP, v.oneCell' = true := fun v hv => by
  obtain ⟨x, _, hx⟩ := List.mem_flatMap.1 hv
  exact encP_one x v hx

theorem comparePoints_g (ax ay bx by_ : Int) (w : World) :
    Calls Try.prog 121 #[.agg #[.int .i64 ax, .int .i64 ay], .agg #[.int .i64 bx, .int .i64 by_]] w
      fun e w' => e = .returned (.int .i64 (cmpPt ⟨ax, ay⟩ ⟨bx, by_⟩)) ∧ ∃ q os', w' = grow (w.drewN q) os' := by
  unfold cmpPt
  go_enter Try.func121, Try.ntmps121
  by_cases h : cmpI ax bx = 0
  · go_wp2_with (first | (go_at_call 111; refine Calls.mono (cmp_c _ _ _) ?_; rintro e w' ⟨rfl, rfl⟩))
    go_ret
    exact ⟨by simp, 0, _, by rw [alloc_eq_grow, alloc_eq_grow, grow_grow]; rfl⟩
  · have h' : (cmpI ax bx == 0) = false := by simp [h]
    go_wp2_with (first | (go_at_call 111; refine Calls.mono (cmp_c _ _ _) ?_; rintro e w' ⟨rfl, rfl⟩))
    go_ret
    exact ⟨by simp, 0, _, by rw [alloc_eq_grow, alloc_eq_grow, grow_grow]; rfl⟩

theorem cmpI_lt (x y : Int) : (cmpI x y < 0 ↔ x < y) ∧ (cmpI x y = 0 ↔ x = y) ∧ (0 < cmpI x y ↔ y < x) := by
  unfold cmpI; split
  · refine ⟨?_, ?_, ?_⟩ <;> omega
  · split <;> refine ⟨?_, ?_, ?_⟩ <;> omega
theorem cmpPt_lt (a b : Pt) : (cmpPt a b < 0 ↔ a.x < b.x ∨ a.x = b.x ∧ a.y < b.y) ∧ (cmpPt a b = 0 ↔ a = b) ∧ (0 < cmpPt a b ↔ b.x < a.x ∨ b.x = a.x ∧ b.y < a.y) := by
  have h1 := cmpI_lt a.x b.x
  have h2 := cmpI_lt a.y b.y
  have e : a = b ↔ a.x = b.x ∧ a.y = b.y := by cases a; cases b; simp
  unfold cmpPt
  rw [e]
  split <;> refine ⟨?_, ?_, ?_⟩ <;> omega
theorem swoPt : SWO (ltOf cmpPt) where
  irrefl x := by have := (cmpPt_lt x x).2.1.2 rfl; simp [ltOf, this]
  trans x y z h1 h2 := by
    simp only [ltOf, decide_eq_true_eq] at *
    rw [(cmpPt_lt _ _).1] at *; omega
  ntrans x y z h1 h2 := by
    simp only [ltOf, decide_eq_false_iff_not] at *
    rw [(cmpPt_lt _ _).1] at *; omega
theorem onePt (x y : Pt) (h1 : ltOf cmpPt x y = false) (h2 : ltOf cmpPt y x = false) : x = y := by
  simp only [ltOf, decide_eq_false_iff_not] at *
  rw [(cmpPt_lt _ _).1] at *
  cases x; cases y; simp at *; omega
def sortL (l : List Pt) : List Pt := l.mergeSort fun x y => !(ltOf cmpPt) y x

theorem sort_c (w : World) (g cap : Nat) (l : List Pt) (h : Own w g cap l) (hl : l.length ≤ 1000) :
    Calls Try.prog 120 #[.slice (some ⟨g, 0, none⟩) l.length cap, .func (.func 121) #[] #[]] w
      fun e w' => e = .returned (.tuple #[]) ∧ Own w' g cap (sortL l) ∧ Touch g w w' := by
  have eg : ∀ args w, (callFunc 121 args).run Try.prog w = .ok (.enter 121 args) w := enters_of Try.func121 (by kernel_rfl) rfl
  have hsz : l.toArray.size < 4611686018427387904 := by simp; omega
  have hcon := AnyQ.slices_SortFunc_total Try.sortP 2 Try.isAgg23 Try.sizeOf23 encP (fun _ => rfl) encP_one cmpPt swoPt 121 #[] g 0 cap l.toArray w eg (fun _ _ _ _ x y => comparePoints_g x.x x.y y.x y.y _) h.holds h.lt hsz onePt
  refine Calls.mono (show Calls Try.prog 120 _ w _ from hcon) ?_
  rintro e w' ⟨he, n, os, rfl⟩
  refine ⟨he, ?_, touch_sort _ n os h.lt⟩
  exact own_sort h _ n os (by simp)

theorem reverse_c (w : World) (g cap : Nat) (l : List Pt) (h : Own w g cap l) :
    Calls Try.prog 124 #[.slice (some ⟨g, 0, none⟩) l.length cap] w
      fun e w' => e = .returned (.tuple #[]) ∧ Own w' g cap l.reverse ∧ Touch g w w' := by
  have hsz : l.toArray.size ≤ 9223372036854775807 := by
    obtain ⟨cur, h1, h2, h3, h4, h5⟩ := h
    unfold maxLen at h4; simp; omega
  have hcon := AnyQ.slices_Reverse Try.reverseP 2 Try.isAgg23 Try.sizeOf23 encP (fun _ => rfl) encP_one g 0 cap l.toArray w h.holds hsz
  refine Calls.mono (show Calls Try.prog 124 _ w _ from hcon) ?_
  rintro e w' ⟨he, n, rfl⟩
  have e1 : putRowK encP 2 (Sort.ahead w n) g 0 l.toArray.reverse = sortWorldK encP 2 w g 0 n l.toArray.reverse #[] := by unfold sortWorldK; rw [grow_empty]
  rw [e1]
  refine ⟨he, ?_, touch_sort _ n #[] h.lt⟩
  have := own_sort h l.toArray.reverse n #[] (by simp)
  simpa using this

theorem Row.flat {α : Type} {k : Nat} {enc : α → List Value} {w : World} {b off : Nat} {l : List α} (h : Row k enc w (some ⟨b, off, none⟩) l) (hk : ∀ x, (enc x).length = k) (h0 : 0 < k) :
    ∀ j u, (l.flatMap enc)[j]? = some u → w.cell? ⟨b, off + j, none⟩ = some u := by
  intro j u hu
  have hfl : ∀ l : List α, (l.flatMap enc).length = l.length * k := by
    intro l
    induction l with
    | nil => simp
    | cons x l ih => rw [List.flatMap_cons, List.length_append, ih, List.length_cons, hk, Nat.succ_mul]; omega
  have hlt : j < l.length * k := by have := (List.getElem?_eq_some_iff.1 hu).1; rwa [hfl] at this
  rcases h with rfl | ⟨b', off', h1, h2, h3⟩
  · simp at hlt
  · injection h1 with h1
    injection h1 with e1 e2
    subst e1 e2
    have hi : j / k < l.length := by rw [Nat.div_lt_iff_lt_mul h0]; exact hlt
    have hm : j % k < k := Nat.mod_lt _ h0
    have hx : (enc l[j / k])[j % k]? = some ((enc l[j / k])[j % k]'(by rw [hk]; exact hm)) := List.getElem?_eq_getElem _
    have e := flat_get hk l (j / k) hi (j % k) _ hx
    have ej : j / k * k + j % k = j := Nat.div_add_mod' j k
    rw [ej, hu] at e
    have := h3 (j / k) hi (j % k) _ hx
    rw [show off + j / k * k + j % k = off + j by omega] at this
    rw [this, e]

theorem infoP : (Try.prog.info? 23).map (fun i => (i.zero, i.size, i.bytes)) = some (some (.agg #[.int .i64 0, .int .i64 0]), 2, 16) := by kernel_rfl

theorem clone_c (w : World) (b off c : Nat) (l : List Pt) (hl : l.length ≤ maxLen) (hb16 : l.length * 16 ≤ 140737488355328) (hA : Row 2 encP w (some ⟨b, off, none⟩) l) (_h0 : 0 < l.length) :
    Calls Try.prog 119 #[.slice (some ⟨b, off, none⟩) l.length c] w
      fun e w' => ∃ g cap, e = .returned (.slice (some ⟨g, 0, none⟩) l.length cap) ∧ Own w' g cap l ∧ w.heap.size ≤ g ∧ Ext w w' := by
  obtain ⟨i0, hi, hz0, hz1, hz2⟩ := info_parts infoP
  have hcell := hA.flat encP_len (by decide)
  have hcon := AnyE.slices_Clone Try.cloneP i0 _ 2 16 hi hz0 hz1 hz2 rfl (by decide) Try.sizeOf23 b off l.length c (l.flatMap encP) w (flat_len l) hl hb16 hcell (encP_all l)
  refine Calls.mono (show Calls Try.prog 119 _ w _ from hcon) ?_
  rintro e w' ⟨v', he, hown, hv, hb⟩
  rcases hown.2 with ⟨h', _⟩ | ⟨g, cap, cur, rfl, hg, _⟩
  · exact absurd h' hv
  · exact ⟨g, cap, he, (Own.of_row hown).1, hg, hb⟩

theorem eqPt : EqlAt Try.prog 23 (fun x => .agg (encP x).toArray) (fun x y => x.x == y.x && x.y == y.y) := by
  refine ⟨fun x y w => ?_, GuardAt.agg _ (by kernel_rfl)⟩
  have u3 := Try.underlying3
  have a3 := Try.isAgg3
  have z3 := Try.sizeOf3
  have hS : Try.prog.underlying 23 = some (.struct (Try.prog.fieldsOf 23)) := by kernel_rfl
  have hp : Try.prog.stoodInHeld 23 = false := by kernel_rfl
  simp only [encP]
  rw [run_eql_struct, show (10000 : Nat) = 9999 + 1 from rfl, run_equalIn_agg w 9999 23 _ _ hS hp]
  simp only [Program.fieldsOf, Try.underlying23]
  go_simp
  by_cases h1 : x.x = y.x <;> by_cases h2 : x.y = y.y <;> simp [h1, h2]

@[go_sem] theorem run_eqPt (ax ay bx by_ : Int) (w : World) : (binOp .eql 23 (.agg #[.int .i64 ax, .int .i64 ay]) (.agg #[.int .i64 bx, .int .i64 by_])).run Try.prog w = .ok (.bool (ax == bx && ay == by_)) w := eqPt.1 ⟨ax, ay⟩ ⟨bx, by_⟩ w

theorem contains_c (w : World) (b off c k : Nat) (l : List Pt) (x y : Int) (hl : l.length ≤ maxLen) (hA : Row 2 encP w (some ⟨b, off, none⟩) l) (hk : k ≤ l.length) :
    Calls Try.prog 133 #[.slice (some ⟨b, off, none⟩) k c, .agg #[.int .i64 x, .int .i64 y]] w
      fun e w' => e = .returned (.bool (decide ((⟨x, y⟩ : Pt) ∈ l.take k))) ∧ Ext w w' := by
  have hcell : ∀ j, j < l.length → ∀ i v, (encP l[j]!)[i]? = some v → w.cell? ⟨b, off + j * 2 + i, none⟩ = some v := by
    intro j hj i v hv
    rw [getElem!_pos l j hj] at hv
    rcases hA with rfl | ⟨b', off', h1, h2, h3⟩
    · simp at hj
    · injection h1 with h1
      injection h1 with e1 e2
      subst e1 e2
      exact h3 j hj i v hv
  have hcon := AnyQ.slices_Contains Try.containsP 2 Try.isAgg23 Try.sizeOf23 encP (fun _ => rfl) (fun x y => x.x == y.x && x.y == y.y) eqPt b off k c l ⟨x, y⟩ w hk (by unfold maxLen at hl; omega) hcell
  refine Calls.mono (show Calls Try.prog 133 _ w _ from hcon) ?_
  rintro e w' ⟨he, hb⟩
  refine ⟨?_, hb⟩
  rw [he]
  refine ret_bool ?_
  rw [Bool.eq_iff_iff]
  simp only [List.any_eq_true, decide_eq_true_eq, Bool.and_eq_true, beq_iff_eq]
  constructor
  · rintro ⟨p, hp, h1, h2⟩
    cases p; simp at h1 h2; subst h1 h2; exact hp
  · intro h
    exact ⟨_, h, rfl, rfl⟩

end Go.Proofs.Ytcdbekmcobghbaa
