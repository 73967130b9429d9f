/- The contract of awake: three of the document's examples hold. -/
import Derived.Test.YtcdbekmcobghbaaTriang
namespace Go.Proofs.Ytcdbekmcobghbaa
open Go Go.RowKit Go.Sort Go.Shelf

abbrev I3 := Int × Int × Int
def encI (t : I3) : List Value := [.int .i64 t.1, .int .i64 t.2.1, .int .i64 t.2.2]
theorem encI_len (t : I3) : (encI t).length = 3 := rfl
def castT (t : T3) : I3 := (t.1, t.2.1, t.2.2)
theorem Row.p3 {w : World} {A : Option Addr} {l : List I3} (h : Row 3 encI w A l) {k : Nat} (hk : k < l.length) :
    ∃ b off, A = some ⟨b, off, none⟩ ∧ b < w.heap.size ∧ ∀ w', Ext w w' → w'.cell? ⟨b, off + k * 3, none⟩ = some (.int .i64 l[k].1) ∧ w'.cell? ⟨b, off + k * 3 + 1, none⟩ = some (.int .i64 l[k].2.1) ∧ w'.cell? ⟨b, off + k * 3 + 2, none⟩ = some (.int .i64 l[k].2.2) := by
  obtain ⟨b, off, h1, h2, h3⟩ := h.addr (by omega)
  exact ⟨b, off, h1, h2, fun w' hw => ⟨h3 w' hw k hk 0 _ rfl, h3 w' hw k hk 1 _ rfl, h3 w' hw k hk 2 _ rfl⟩⟩

def icV (a b c d : Pt) : Int := if allGood [a, b, c, d] && closeB [a, b, c, d] && !(cmpI (crossW a b c) 0 == 0) then wrap64 (cmpI (crossW a b c) 0 * sideP a b c d) else 0
def icE (a b c d : Pt) : Int := if !allGood [a, b, c, d] then 2 else if !closeB [a, b, c, d] then 8 else if cmpI (crossW a b c) 0 == 0 then 10 else 0

theorem isClose4_c (ax ay bx by_ cx cy dx dy : Int) (w : World) (c n : Nat) (t : TypeId) (hn : n = w.heap.size) :
    Calls Try.prog 87 #[.slice (some ⟨n, 0, none⟩) 4 c] (w.alloc (.cells #[.int .i64 ax, .int .i64 ay, .int .i64 bx, .int .i64 by_, .int .i64 cx, .int .i64 cy, .int .i64 dx, .int .i64 dy] t))
      fun e w' => e = .returned (.bool (closeB [⟨ax, ay⟩, ⟨bx, by_⟩, ⟨cx, cy⟩, ⟨dx, dy⟩])) ∧ Ext (w.alloc (.cells #[.int .i64 ax, .int .i64 ay, .int .i64 bx, .int .i64 by_, .int .i64 cx, .int .i64 cy, .int .i64 dx, .int .i64 dy] t)) w' :=
  isClose_c [⟨ax, ay⟩, ⟨bx, by_⟩, ⟨cx, cy⟩, ⟨dx, dy⟩] _ _ c (small_len (by simp)) (Row.new' encP_len _ _ _ _ _ hn rfl)

set_option maxHeartbeats 400000 in
theorem inCircle_c (ax ay bx by_ cx cy dx dy : Int) (w : World) :
    Calls Try.prog 37 #[.agg #[.int .i64 ax, .int .i64 ay], .agg #[.int .i64 bx, .int .i64 by_], .agg #[.int .i64 cx, .int .i64 cy], .agg #[.int .i64 dx, .int .i64 dy]] w
      fun e w' => e = .returned (.tuple #[.int .i64 (icV ⟨ax, ay⟩ ⟨bx, by_⟩ ⟨cx, cy⟩ ⟨dx, dy⟩), .int .i64 (icE ⟨ax, ay⟩ ⟨bx, by_⟩ ⟨cx, cy⟩ ⟨dx, dy⟩)]) ∧ Ext w w' := by
  unfold icV icE
  cases h1 : allGood [⟨ax, ay⟩, ⟨bx, by_⟩, ⟨cx, cy⟩, ⟨dx, dy⟩]
  · go_enter Try.func37, Try.ntmps37
    go_wp2_with (first | (go_at_call 73; refine Calls.mono (inRange4_c _ _ _ _ _ _ _ _ _ _ _ _ ?_) ?_; (focus simp); rintro e w1 ⟨rfl, hb⟩; have hc := hb.ccell; have hf := hb.frz; have hs := hb.sz; (try simp at hs); (try have hs0 := hs w.heap.size (by omega)); (try have hs1 := hs (w.heap.size + 1) (by omega)); (try have hs2 := hs (w.heap.size + 1 + 1) (by omega)); (try have hs3 := hs (w.heap.size + 1 + 1 + 1) (by omega))))
    go_ret2
    exact ⟨by simp, by (repeat (first | with_reducible exact Ext.rfl' _ | with_reducible assumption | with_reducible refine Ext.al ?_ _ | with_reducible refine Ext.dr ?_ | with_reducible refine Ext.st ?_ (by simp) _ | with_reducible refine Ext.tr ?_ (by assumption)))⟩
  cases h2 : closeB [⟨ax, ay⟩, ⟨bx, by_⟩, ⟨cx, cy⟩, ⟨dx, dy⟩]
  · go_enter Try.func37, Try.ntmps37
    go_wp2_with (first | (go_at_call 73; refine Calls.mono (inRange4_c _ _ _ _ _ _ _ _ _ _ _ _ ?_) ?_; (focus simp); rintro e w1 ⟨rfl, hb⟩; have hc := hb.ccell; have hf := hb.frz; have hs := hb.sz; (try simp at hs); (try have hs0 := hs w.heap.size (by omega)); (try have hs1 := hs (w.heap.size + 1) (by omega)); (try have hs2 := hs (w.heap.size + 1 + 1) (by omega)); (try have hs3 := hs (w.heap.size + 1 + 1 + 1) (by omega))) | (go_at_call 87; refine Calls.mono (isClose4_c _ _ _ _ _ _ _ _ _ _ _ _ ?_) ?_; (focus simp); rintro e w1 ⟨rfl, hb⟩; have hc := hb.ccell; have hf := hb.frz; have hs := hb.sz; (try simp at hs); (try have hs0 := hs w.heap.size (by omega)); (try have hs1 := hs (w.heap.size + 1) (by omega)); (try have hs2 := hs (w.heap.size + 1 + 1) (by omega)); (try have hs3 := hs (w.heap.size + 1 + 1 + 1) (by omega))))
    go_ret2
    exact ⟨by simp, by (repeat (first | with_reducible exact Ext.rfl' _ | with_reducible assumption | with_reducible refine Ext.al ?_ _ | with_reducible refine Ext.dr ?_ | with_reducible refine Ext.st ?_ (by simp) _ | with_reducible refine Ext.tr ?_ (by assumption)))⟩
  cases h3 : (cmpI (crossW ⟨ax, ay⟩ ⟨bx, by_⟩ ⟨cx, cy⟩) 0 == 0)
  all_goals
    go_enter Try.func37, Try.ntmps37
    go_wp2_with (first | (go_at_call 73; refine Calls.mono (inRange4_c _ _ _ _ _ _ _ _ _ _ _ _ ?_) ?_; (focus simp); rintro e w1 ⟨rfl, hb⟩; have hc := hb.ccell; have hf := hb.frz; have hs := hb.sz; (try simp at hs); (try have hs0 := hs w.heap.size (by omega)); (try have hs1 := hs (w.heap.size + 1) (by omega)); (try have hs2 := hs (w.heap.size + 1 + 1) (by omega)); (try have hs3 := hs (w.heap.size + 1 + 1 + 1) (by omega))) | (go_at_call 87; refine Calls.mono (isClose4_c _ _ _ _ _ _ _ _ _ _ _ _ ?_) ?_; (focus simp); rintro e w1 ⟨rfl, hb⟩; have hc := hb.ccell; have hf := hb.frz; have hs := hb.sz; (try simp at hs); (try have hs0 := hs w.heap.size (by omega)); (try have hs1 := hs (w.heap.size + 1) (by omega)); (try have hs2 := hs (w.heap.size + 1 + 1) (by omega)); (try have hs3 := hs (w.heap.size + 1 + 1 + 1) (by omega))) | (go_at_call 74; refine Calls.mono (cross_c _ _ _ _ _ _ _) ?_; rintro e w1 ⟨rfl, hb⟩; have hc := hb.ccell; have hf := hb.frz; have hs := hb.sz; (try simp at hs); (try have hs0 := hs w.heap.size (by omega)); (try have hs1 := hs (w.heap.size + 1) (by omega)); (try have hs2 := hs (w.heap.size + 1 + 1) (by omega)); (try have hs3 := hs (w.heap.size + 1 + 1 + 1) (by omega))) | (go_at_call 75; refine Calls.mono (sign_c _ _) ?_; rintro e w' ⟨rfl, rfl⟩) | (go_at_call 88; refine Calls.mono (circleSide_c _ _ _ _ _ _ _ _ _) ?_; rintro e w1 ⟨rfl, hb⟩; have hc := hb.ccell; have hf := hb.frz; have hs := hb.sz; (try simp at hs); (try have hs0 := hs w.heap.size (by omega)); (try have hs1 := hs (w.heap.size + 1) (by omega)); (try have hs2 := hs (w.heap.size + 1 + 1) (by omega)); (try have hs3 := hs (w.heap.size + 1 + 1 + 1) (by omega))))
    go_ret2
    exact ⟨by simp, by (repeat (first | with_reducible exact Ext.rfl' _ | with_reducible assumption | with_reducible refine Ext.al ?_ _ | with_reducible refine Ext.dr ?_ | with_reducible refine Ext.st ?_ (by simp) _ | with_reducible refine Ext.tr ?_ (by assumption)))⟩

theorem same_c (la lb : List I3) (w : World) (A B : Option Addr) (c c2 : Nat) (ha : la.length ≤ 9223372036854775807) (hA : Row 3 encI w A la) (hB : Row 3 encI w B lb) :
    Calls Try.prog 57 #[.slice A la.length c, .slice B lb.length c2] w
      fun e w' => e = .returned (.bool (decide (la = lb))) ∧ Ext w w' := by
  by_cases hne : la.length = lb.length
  · have HNE := Lib.hid hne
    rw [← hne]
    clear hne
    go_enter Try.func57, Try.ntmps57
    go_wp2
    go_loopw [5] (fun i wr => Ext w wr ∧ ∃ k : Nat, k ≤ la.length ∧ i = .int .i64 k ∧ Hid (la.take k = lb.take k)) (fun i _ => la.length - (intOf i).toNat)
    case atStart => exact ⟨Ext.rfl' _, 0, Nat.zero_le _, rfl, rfl⟩
    case round =>
      obtain ⟨hE, k, hk, rfl, hK⟩ := hrel
      by_cases hlt : k < la.length
      · have hltb : k < lb.length := by have := HNE.out; omega
        obtain ⟨b, off, rfl, hb0, hcell⟩ := hA.p3 hlt
        obtain ⟨b', off', rfl, hb0', hcell'⟩ := hB.p3 hltb
        have cc := hcell _ hE
        have cc' := hcell' _ hE
        have hz := hE.sz _ hb0
        have hz' := hE.sz _ hb0'
        clear hcell hcell'
        by_cases h1 : la[k].1 = lb[k].1 <;> by_cases h2 : la[k].2.1 = lb[k].2.1 <;> by_cases h3 : la[k].2.2 = lb[k].2.2
        all_goals
          have H1 := Lib.hid h1
          have H2 := Lib.hid h2
          have H3 := Lib.hid h3
          go_wp2_with fail
          refine region_grow (by kernel_rfl) (by kernel_rfl) ?_
          repeat (first | go_big_quiet_step (first  | fail) | quiet_step (first  | fail))
          refine wpQuiet_nil ?_
          intro w1 hb
          have hc := hb.ccell
          have hf := hb.frz
          have hs := hb.sz
          (try simp at hs); (try have hs0 := hs w.heap.size (by omega)); (try have hs1 := hs (w.heap.size + 1) (by omega)); (try have hs2 := hs (w.heap.size + 1 + 1) (by omega)); (try have hs3 := hs (w.heap.size + 1 + 1 + 1) (by omega))
          (try simp only [IntWalk.i64_left])
          go_wp2
        · refine ⟨⟨by (repeat (first | with_reducible exact Ext.rfl' _ | with_reducible assumption | with_reducible refine Ext.al ?_ _ | with_reducible refine Ext.dr ?_ | with_reducible refine Ext.st ?_ (by simp) _ | with_reducible refine Ext.tr ?_ (by assumption))), k + 1, by omega, by go_num, ?_⟩, by simp [intOf]; omega⟩
          have h := hK.out
          show la.take (k + 1) = lb.take (k + 1)
          rw [List.take_succ_eq_append_getElem hlt, List.take_succ_eq_append_getElem hltb, h, show la[k] = lb[k] from Prod.ext H1.out (Prod.ext H2.out H3.out)]
        all_goals
          go_ret
          refine ⟨ret_bool ?_, by (repeat (first | with_reducible exact Ext.rfl' _ | with_reducible assumption | with_reducible refine Ext.al ?_ _ | with_reducible refine Ext.dr ?_ | with_reducible refine Ext.st ?_ (by simp) _ | with_reducible refine Ext.tr ?_ (by assumption)))⟩
          have hd : la ≠ lb := by
            intro e
            subst e
            first | exact H1.out rfl | exact H2.out rfl | exact H3.out rfl
          simp [hd]
      · go_wp2
        go_ret
        have h := hK.out
        have hn := HNE.out
        rw [List.take_of_length_le (by omega), List.take_of_length_le (by omega)] at h
        exact ⟨ret_bool (by simp [h]), hE⟩
  · have hne' : ((la.length : Int) == (lb.length : Int)) = false := by simp; omega
    have hd : la ≠ lb := fun e => hne (by rw [e])
    have HD := Lib.hid hd
    clear hd
    go_enter Try.func57, Try.ntmps57
    go_wp2
    go_ret
    exact ⟨ret_bool (by simp [HD.out]), Ext.rfl' _⟩


def sq4 : List Pt := [⟨0, 0⟩, ⟨0, 2⟩, ⟨2, 0⟩, ⟨2, 2⟩]
theorem sq4_sorted : sortL sq4 = sq4 := by
  unfold sortL
  apply List.mergeSort_of_pairwise
  decide
theorem sq4_patch : patchE sq4 = 0 := by
  unfold patchE
  rw [sq4_sorted]
  decide +kernel
theorem sq4_tris : trisL sq4 = [(0, 2, 3), (0, 3, 1)] := by decide +kernel
theorem ex_ic : icV ⟨0, 0⟩ ⟨2, 0⟩ ⟨0, 2⟩ ⟨1, 1⟩ = 1 ∧ icE ⟨0, 0⟩ ⟨2, 0⟩ ⟨0, 2⟩ ⟨1, 1⟩ = 0 := by decide +kernel
theorem ex_cross : (if allGood [⟨0, 0⟩, ⟨4, 0⟩, ⟨0, 3⟩] then crossW ⟨0, 0⟩ ⟨4, 0⟩ ⟨0, 3⟩ else 0) = 12 := by decide +kernel

theorem row_of_tri {w : World} {B : Nat} {v : Value} {ts : List T3} (h : TriOwn B v ts w) (h0 : 0 < ts.length) : ∃ g cap, v = .slice (some ⟨g, 0, none⟩) ts.length cap ∧ Row 3 encI w (some ⟨g, 0, none⟩) (ts.map castT) := by
  have hl : (ts.map castT).flatMap encI = ts.flatMap encN := by
    rw [List.flatMap_map]; rfl
  have h' := h
  unfold TriOwn at h
  rcases h.2 with ⟨_, h2⟩ | ⟨g, cap, cur, rfl, hb, hg, _⟩
  · omega
  · refine ⟨g, cap, rfl, .inr ⟨g, 0, rfl, ?_, fun i hi j v hv => ?_⟩⟩
    · exact (World.ownsRow.lt h g rfl).2
    · have hx := flat_get encI_len (ts.map castT) i hi j v hv
      rw [hl] at hx
      have hlt : i * 3 + j < ts.length * 3 := by
        have := (List.getElem?_eq_some_iff.1 hx).1
        rwa [flatN_len] at this
      have := h.cellAt (i * 3 + j) hlt
      rw [show 0 + i * 3 + j = i * 3 + j by omega, this, hx]

theorem awakeTri_c (w : World) (n : Nat) (t : TypeId) (hn : n = w.heap.size) :
    Calls Try.prog 55 #[.slice (some ⟨n, 0, none⟩) 4 4] (w.alloc (.cells #[.int .i64 0, .int .i64 0, .int .i64 0, .int .i64 2, .int .i64 2, .int .i64 0, .int .i64 2, .int .i64 2] t))
      fun e w' => ∃ g cap, e = .returned (.tuple #[.slice (some ⟨g, 0, none⟩) 2 cap, .int .i64 0]) ∧ Row 3 encI w' (some ⟨g, 0, none⟩) [(0, 2, 3), (0, 3, 1)] ∧ Ext (w.alloc (.cells #[.int .i64 0, .int .i64 0, .int .i64 0, .int .i64 2, .int .i64 2, .int .i64 0, .int .i64 2, .int .i64 2] t)) w' := by
  refine Calls.mono (triangulate_c sq4 _ _ 4 (small_len (by decide)) (by decide) (Row.new' encP_len _ _ _ _ _ hn rfl)) ?_
  rintro e w' ⟨v, he, hown, hb⟩
  rw [sq4_patch] at he hown
  rw [if_pos rfl, sq4_tris] at hown
  obtain ⟨g, cap, rfl, hrow⟩ := row_of_tri hown (by decide)
  exact ⟨g, cap, he, hrow, hb⟩

theorem same2_c (w : World) (g cap n c : Nat) (t : TypeId) (hrow : Row 3 encI w (some ⟨g, 0, none⟩) [(0, 2, 3), (0, 3, 1)]) (hn : n = w.heap.size) :
    Calls Try.prog 57 #[.slice (some ⟨g, 0, none⟩) 2 cap, .slice (some ⟨n, 0, none⟩) 2 c] (w.alloc (.cells #[.int .i64 0, .int .i64 2, .int .i64 3, .int .i64 0, .int .i64 3, .int .i64 1] t))
      fun e w' => e = .returned (.bool true) ∧ Ext (w.alloc (.cells #[.int .i64 0, .int .i64 2, .int .i64 3, .int .i64 0, .int .i64 3, .int .i64 1] t)) w' := by
  refine Calls.mono (same_c [(0, 2, 3), (0, 3, 1)] [(0, 2, 3), (0, 3, 1)] _ _ _ cap c (by simp) (hrow.ext (Ext.al (Ext.rfl' _) _)) (Row.new' encI_len _ _ _ _ _ hn rfl)) ?_
  rintro e w' ⟨he, hb⟩
  exact ⟨by rw [he]; rfl, hb⟩

theorem awake_c (w : World) : Calls Try.prog 19 #[] w fun e w' => e = .returned (.bool true) ∧ Ext w w' := by
  have HI := Lib.hid ex_ic
  have HC := Lib.hid ex_cross
  have cIC : ∀ w, Calls Try.prog 37 #[.agg #[.int .i64 0, .int .i64 0], .agg #[.int .i64 2, .int .i64 0], .agg #[.int .i64 0, .int .i64 2], .agg #[.int .i64 1, .int .i64 1]] w
      fun e w' => e = .returned (.tuple #[.int .i64 1, .int .i64 0]) ∧ Ext w w' := fun w => by
    have := inCircle_c 0 0 2 0 0 2 1 1 w
    rw [ex_ic.1, ex_ic.2] at this
    exact this
  have HIC := Lib.hid cIC
  have cCR : ∀ w, Calls Try.prog 20 #[.agg #[.int .i64 0, .int .i64 0], .agg #[.int .i64 4, .int .i64 0], .agg #[.int .i64 0, .int .i64 3]] w
      fun e w' => e = .returned (.int .i64 12) ∧ Ext w w' := fun w => by
    have := gcross_c 0 0 4 0 0 3 w
    rw [ex_cross] at this
    exact this
  have HCR := Lib.hid cCR
  clear cIC cCR HI HC
  go_enter Try.func19, Try.ntmps19
  go_wp2_with (first | (go_at_call 72; refine Calls.mono (at_c _ _ _) ?_; rintro e w1 ⟨rfl, hb⟩; have hc := hb.ccell; have hf := hb.frz; have hs := hb.sz; (try simp at hs); (try have hs0 := hs w.heap.size (by omega)); (try have hs1 := hs (w.heap.size + 1) (by omega)); (try have hs2 := hs (w.heap.size + 1 + 1) (by omega)); (try have hs3 := hs (w.heap.size + 1 + 1 + 1) (by omega))) | (go_at_call 37; refine Calls.mono (HIC.out _) ?_; rintro e w1 ⟨rfl, hb⟩; have hc := hb.ccell; have hf := hb.frz; have hs := hb.sz; (try simp at hs); (try have hs0 := hs w.heap.size (by omega)); (try have hs1 := hs (w.heap.size + 1) (by omega)); (try have hs2 := hs (w.heap.size + 1 + 1) (by omega)); (try have hs3 := hs (w.heap.size + 1 + 1 + 1) (by omega))) | (go_at_call 20; refine Calls.mono (HCR.out _) ?_; rintro e w1 ⟨rfl, hb⟩; have hc := hb.ccell; have hf := hb.frz; have hs := hb.sz; (try simp at hs); (try have hs0 := hs w.heap.size (by omega)); (try have hs1 := hs (w.heap.size + 1) (by omega)); (try have hs2 := hs (w.heap.size + 1 + 1) (by omega)); (try have hs3 := hs (w.heap.size + 1 + 1 + 1) (by omega))) | (go_at_call 55; refine Calls.mono (awakeTri_c _ _ _ ?_) ?_; (focus simp); rintro e w1 ⟨g, cap, rfl, hrow, hb⟩; have hc := hb.ccell; have hf := hb.frz; have hs := hb.sz; (try simp at hs)) | (go_at_call 57; refine Calls.mono (same2_c _ _ _ _ _ _ (Row.ext (by assumption) (by (repeat (first | with_reducible exact Ext.rfl' _ | with_reducible assumption | with_reducible refine Ext.al ?_ _ | with_reducible refine Ext.dr ?_ | with_reducible refine Ext.st ?_ (by simp) _ | with_reducible refine Ext.tr ?_ (by assumption))))) ?_) ?_; (focus simp); rintro e w1 ⟨rfl, hb⟩))
  go_ret
  exact ⟨rfl, by (repeat (first | with_reducible exact Ext.rfl' _ | with_reducible assumption | with_reducible refine Ext.al ?_ _ | with_reducible refine Ext.dr ?_ | with_reducible refine Ext.st ?_ (by simp) _ | with_reducible refine Ext.tr ?_ (by assumption)))⟩

end Go.Proofs.Ytcdbekmcobghbaa
