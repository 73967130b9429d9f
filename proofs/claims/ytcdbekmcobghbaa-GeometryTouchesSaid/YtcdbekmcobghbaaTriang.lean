/- The contract of Triangulate. -/
import Derived.Test.YtcdbekmcobghbaaPatch
import Derived.Test.YtcdbekmcobghbaaPure3
namespace Go.Proofs.Ytcdbekmcobghbaa
open Go Go.RowKit Go.Sort Go.Shelf

def encN (t : T3) : List Value := [.int .i64 t.1, .int .i64 t.2.1, .int .i64 t.2.2]
theorem encN_len (t : T3) : (encN t).length = 3 := rfl
theorem flatN_len (l : List T3) : (l.flatMap encN).length = l.length * 3 := by
  induction l with
  | nil => rfl
  | cons x l ih => rw [List.flatMap_cons, List.length_append, ih, List.length_cons, encN_len]; omega
/-- A slice of the call's own that holds triangles. -/
def TriOwn (B : Nat) (v : Value) (ts : List T3) (w : World) : Prop := w.ownsRow B 68 3 v ts.length (ts.flatMap encN)
theorem TriOwn.ext {B : Nat} {v : Value} {ts : List T3} {w w' : World} (h : TriOwn B v ts w) (hw : Ext w w') : TriOwn B v ts w' := ownsRow_ext h hw
theorem infoT : (Try.prog.info? 68).map (fun i => (i.zero, i.size, i.bytes)) = some (some (.agg #[.int .i64 0, .int .i64 0, .int .i64 0]), 3, 24) := by kernel_rfl
theorem three_new (w : World) (x y z : Value) (t : TypeId) : ∀ j u, [x, y, z][j]? = some u → (w.alloc (.cells #[x, y, z] t)).cell? ((⟨w.heap.size, 0, none⟩ : Addr).add j) = some u := by
  intro j u hu
  match j with
  | 0 => simpa [Addr.add, go_sem] using hu
  | 1 => simpa [Addr.add, go_sem] using hu
  | 2 => simpa [Addr.add, go_sem] using hu
  | j + 3 => simp at hu

set_option maxRecDepth 100000 in
set_option maxHeartbeats 2000000 in
theorem triangulate_c (l : List Pt) (w : World) (A : Option Addr) (c : Nat) (hl : l.length ≤ maxLen) (hc : l.length ≤ c) (hA : Row 2 encP w A l) :
    Calls Try.prog 55 #[.slice A l.length c] w
      fun e w' => ∃ v, e = .returned (.tuple #[v, .int .i64 (patchE l)]) ∧ TriOwn w.heap.size v (if patchE l = 0 then trisL l else []) w' ∧ Ext w w' := by
  have HCP := Lib.hid (checkPatch_c l w A c hl hc hA)
  by_cases h0 : patchE l = 0
  · have h64 : l.length ≤ 64 := by
      have := h0
      unfold patchE at this
      by_cases h : 64 < l.length
      · rw [if_pos h] at this; omega
      · omega
    rw [if_pos h0]
    rw [h0] at HCP ⊢
    have HLM := Lib.hid hl
    clear h0 hl hc
    go_enter Try.func55, Try.ntmps55
    go_wp2_with (first | (go_at_call 98; refine Calls.mono (HCP.out) ?_; rintro e w1 ⟨rfl, hb⟩; have hc := hb.ccell; have hf := hb.frz; have hs := hb.sz; (try simp at hs); (try have hs0 := hs w.heap.size (by omega)); (try have hs1 := hs (w.heap.size + 1) (by omega)); (try have hs2 := hs (w.heap.size + 1 + 1) (by omega)); (try have hs3 := hs (w.heap.size + 1 + 1 + 1) (by omega))))
    go_loopw [5, 6, 7, 8, 16, 21, 26] (fun v _ _ _ i _ _ wr => Ext w wr ∧ ∃ a : Nat, a ≤ l.length ∧ i = .int .i64 a ∧ TriOwn w.heap.size v (upA l a) wr) (fun _ _ _ _ i _ _ _ => l.length - (intOf i).toNat)
    case atStart => exact ⟨by (repeat (first | with_reducible exact Ext.rfl' _ | with_reducible assumption | with_reducible refine Ext.al ?_ _ | with_reducible refine Ext.dr ?_ | with_reducible refine Ext.st ?_ (by simp) _ | with_reducible refine Ext.tr ?_ (by assumption))), 0, Nat.zero_le _, rfl, World.ownsRow_nil _ _ _ _⟩
    case round =>
      clear hb hc hf hs
      obtain ⟨hE, a, ha, rfl, hO⟩ := hrel
      have HO := Lib.hid hO
      clear hO
      by_cases hlt : a < l.length
      · go_wp2
        obtain ⟨wa, rfl⟩ : ∃ wa : World, wa = wr := ⟨_, rfl⟩
        go_loopw [5, 7, 8, 21, 26] (fun v _ _ i _ wr => Ext w wr ∧ ∃ b : Nat, b ≤ l.length ∧ i = .int .i64 b ∧ TriOwn w.heap.size v (upA l a ++ upB l a b) wr) (fun _ _ _ i _ _ => l.length - (intOf i).toNat)
        case atStart => exact ⟨hE, 0, Nat.zero_le _, rfl, by simpa [upB] using HO.out⟩
        case round =>
          obtain ⟨hE2, b, hb, rfl, hO2⟩ := hrel
          have HO2 := Lib.hid hO2
          clear hO2 HO hE
          by_cases hltb : b < l.length
          · go_wp2
            obtain ⟨wb, rfl⟩ : ∃ wb : World, wb = wr := ⟨_, rfl⟩
            go_loopw [5, 8, 26] (fun v _ i wr => Ext w wr ∧ ∃ c : Nat, c ≤ l.length ∧ i = .int .i64 c ∧ TriOwn w.heap.size v (upA l a ++ upB l a b ++ upC l a b c) wr) (fun _ _ i _ => l.length - (intOf i).toNat)
            case atStart => exact ⟨hE2, 0, Nat.zero_le _, rfl, by simpa [upC] using HO2.out⟩
            case round =>
              obtain ⟨hE3, c', hc', rfl, hO3⟩ := hrel
              have HO3 := Lib.hid hO3
              clear hO3 HO2 hE2
              by_cases hltc : c' < l.length
              · obtain ⟨bk, off, rfl, hb0, hcA⟩ := hA.p2 hlt
                obtain ⟨bk1, off1, e1, _, hcB⟩ := hA.p2 hltb
                injection e1 with e1
                injection e1 with e2 e3
                subst e2 e3
                obtain ⟨bk1, off1, e1, _, hcC⟩ := hA.p2 hltc
                injection e1 with e1
                injection e1 with e2 e3
                subst e2 e3
                have cA := hcA _ hE3
                have cB := hcB _ hE3
                have cC := hcC _ hE3
                have hz := hE3.sz _ hb0
                have hA' := hA.ext hE3
                clear hcA hcB hcC
                have hT : tst l a b c' = (decide (a < min b c') && isTri l (⟨l[a].x, l[a].y⟩, ⟨l[b].x, l[b].y⟩, ⟨l[c'].x, l[c'].y⟩)) := by
                  unfold tst
                  rw [getElem!_pos l a hlt, getElem!_pos l b hltb, getElem!_pos l c' hltc]
                have HT := Lib.hid hT
                have HU := Lib.hid (upC_succ l a b c')
                have hlen := up_len l a b c' h64 ha hb hc'
                clear hT
                cases h2 : isTri l (⟨l[a].x, l[a].y⟩, ⟨l[b].x, l[b].y⟩, ⟨l[c'].x, l[c'].y⟩)
                · have H2 := Lib.hid h2
                  clear h2
                  by_cases hac : a < min b c'
                  · have hac' : decide ((a : Int) < min (b : Int) (c' : Int)) = true := by simp; omega
                    go_wp2_with fail
                    refine region_grow (by kernel_rfl) (by kernel_rfl) ?_
                    repeat (first | go_big_quiet_step (first | (go_at_call 99; exact callsGrow ((H2.out ▸ isTriangle_c l _ _ _ _ _ _ _ _ c HLM.out (hA'.ext (Grow.ok _))))) | fail) | quiet_step (first | (go_at_call 99; exact callsGrow ((H2.out ▸ isTriangle_c l _ _ _ _ _ _ _ _ c HLM.out (hA'.ext (Grow.ok _))))) | fail))
                    refine wpQuiet_nil ?_
                    intro w1 hb
                    have hc := hb.ccell
                    have hf := hb.frz
                    have hs := hb.sz
                    (try simp at hs); (try have hs0 := hs w.heap.size (by omega)); (try have hs1 := hs (w.heap.size + 1) (by omega)); (try have hs2 := hs (w.heap.size + 1 + 1) (by omega)); (try have hs3 := hs (w.heap.size + 1 + 1 + 1) (by omega))
                    (try simp only [IntWalk.i64_left])
                    have hno : tst l a b c' = false := by rw [HT.out]; first | (rw [H2.out]; simp; done) | (simp; omega)
                    have HN := Lib.hid hno
                    clear hno
                    go_wp2
                    have hu := HU.out
                    rw [HN.out] at hu
                    refine ⟨⟨by (repeat (first | with_reducible exact Ext.rfl' _ | with_reducible assumption | with_reducible refine Ext.al ?_ _ | with_reducible refine Ext.dr ?_ | with_reducible refine Ext.st ?_ (by simp) _ | with_reducible refine Ext.tr ?_ (by assumption))), c' + 1, by omega, by go_num, ?_⟩, by simp [intOf]; omega⟩
                    rw [hu]
                    simpa using HO3.out.ext hb
                  · have hac' : decide ((a : Int) < min (b : Int) (c' : Int)) = false := by simp; omega
                    go_wp2_with fail
                    refine region_grow (by kernel_rfl) (by kernel_rfl) ?_
                    repeat (first | go_big_quiet_step (first | (go_at_call 99; exact callsGrow ((H2.out ▸ isTriangle_c l _ _ _ _ _ _ _ _ c HLM.out (hA'.ext (Grow.ok _))))) | fail) | quiet_step (first | (go_at_call 99; exact callsGrow ((H2.out ▸ isTriangle_c l _ _ _ _ _ _ _ _ c HLM.out (hA'.ext (Grow.ok _))))) | fail))
                    refine wpQuiet_nil ?_
                    intro w1 hb
                    have hc := hb.ccell
                    have hf := hb.frz
                    have hs := hb.sz
                    (try simp at hs); (try have hs0 := hs w.heap.size (by omega)); (try have hs1 := hs (w.heap.size + 1) (by omega)); (try have hs2 := hs (w.heap.size + 1 + 1) (by omega)); (try have hs3 := hs (w.heap.size + 1 + 1 + 1) (by omega))
                    (try simp only [IntWalk.i64_left])
                    have hno : tst l a b c' = false := by rw [HT.out]; first | (rw [H2.out]; simp; done) | (simp; omega)
                    have HN := Lib.hid hno
                    clear hno
                    go_wp2
                    have hu := HU.out
                    rw [HN.out] at hu
                    refine ⟨⟨by (repeat (first | with_reducible exact Ext.rfl' _ | with_reducible assumption | with_reducible refine Ext.al ?_ _ | with_reducible refine Ext.dr ?_ | with_reducible refine Ext.st ?_ (by simp) _ | with_reducible refine Ext.tr ?_ (by assumption))), c' + 1, by omega, by go_num, ?_⟩, by simp [intOf]; omega⟩
                    rw [hu]
                    simpa using HO3.out.ext hb
                · have H2 := Lib.hid h2
                  clear h2
                  by_cases hac : a < min b c'
                  · have hac' : decide ((a : Int) < min (b : Int) (c' : Int)) = true := by simp; omega
                    go_wp2_with fail
                    refine region_grow (by kernel_rfl) (by kernel_rfl) ?_
                    repeat (first | go_big_quiet_step (first | (go_at_call 99; exact callsGrow ((H2.out ▸ isTriangle_c l _ _ _ _ _ _ _ _ c HLM.out (hA'.ext (Grow.ok _))))) | fail) | quiet_step (first | (go_at_call 99; exact callsGrow ((H2.out ▸ isTriangle_c l _ _ _ _ _ _ _ _ c HLM.out (hA'.ext (Grow.ok _))))) | fail))
                    refine wpQuiet_nil ?_
                    intro w1 hb
                    have hc := hb.ccell
                    have hf := hb.frz
                    have hs := hb.sz
                    (try simp at hs); (try have hs0 := hs w.heap.size (by omega)); (try have hs1 := hs (w.heap.size + 1) (by omega)); (try have hs2 := hs (w.heap.size + 1 + 1) (by omega)); (try have hs3 := hs (w.heap.size + 1 + 1 + 1) (by omega))
                    (try simp only [IntWalk.i64_left])
                    have hyes : tst l a b c' = true := by rw [HT.out, H2.out]; simp; omega
                    have HN := Lib.hid hyes
                    clear hyes
                    have hown := (HO3.out.ext hb)
                    have HW := Lib.hid hown
                    clear hown
                    have hsz5 := Below.size (show Ext w w1 from by (repeat (first | with_reducible exact Ext.rfl' _ | with_reducible assumption | with_reducible refine Ext.al ?_ _ | with_reducible refine Ext.dr ?_ | with_reducible refine Ext.st ?_ (by simp) _ | with_reducible refine Ext.tr ?_ (by assumption))))
                    obtain ⟨i0, hi, hz0, hz1, hz2⟩ := info_parts infoT
                    go_wp2_with (first | (at_builtin; refine wpList_append_own _ rfl _ _ 54 rfl w.heap.size 68 i0 _ 3 24 Try.underlying54 hi hz0 hz1 hz2 rfl (by decide) _ _ _ rfl (World.ownsRow.alloc HW.out _) ⟨_, 0, none⟩ 1 1 [.int .i64 a, .int .i64 b, .int .i64 c'] rfl rfl ?c1 ?c2 ?c3 ?c4 ?c5 ?_))
                    case c1 => exact three_new _ _ _ _ _
                    case c2 => intro u hu; simp at hu; rcases hu with rfl | rfl | rfl <;> rfl
                    case c3 => unfold maxLen; omega
                    case c4 => omega
                    case c5 => simp; omega
                    intro v' w2 hown2 hgrow2 _
                    clear hi hz0 hz1 hz2
                    have hlt2 := World.ownsRow.lt HW.out
                    have hE4 : Ext w w2 := Below.grown (show Below w.heap.size w _ from by (repeat (first | with_reducible exact Ext.rfl' _ | with_reducible assumption | with_reducible refine Ext.al ?_ _ | with_reducible refine Ext.dr ?_ | with_reducible refine Ext.st ?_ (by simp) _ | with_reducible refine Ext.tr ?_ (by assumption)))) hgrow2 (by simp; omega) (by intro q hq; exact (hlt2 q hq).1)
                    go_wp2
                    have hu := HU.out
                    rw [HN.out, if_pos rfl] at hu
                    refine ⟨⟨hE4, c' + 1, by omega, by go_num, ?_⟩, by simp [intOf]; omega⟩
                    rw [hu]
                    unfold TriOwn
                    have e1 : (upA l a ++ upB l a b ++ (upC l a b c' ++ [(a, b, c')])).length = (upA l a ++ upB l a b ++ upC l a b c').length + 1 := by simp; omega
                    rw [e1]
                    have e2 : (upA l a ++ upB l a b ++ (upC l a b c' ++ [(a, b, c')])).flatMap encN = (upA l a ++ upB l a b ++ upC l a b c').flatMap encN ++ [.int .i64 a, .int .i64 b, .int .i64 c'] := by simp [encN]
                    rw [e2]
                    first | exact hown2 | simpa using hown2
                  · have hac' : decide ((a : Int) < min (b : Int) (c' : Int)) = false := by simp; omega
                    go_wp2_with fail
                    refine region_grow (by kernel_rfl) (by kernel_rfl) ?_
                    repeat (first | go_big_quiet_step (first | (go_at_call 99; exact callsGrow ((H2.out ▸ isTriangle_c l _ _ _ _ _ _ _ _ c HLM.out (hA'.ext (Grow.ok _))))) | fail) | quiet_step (first | (go_at_call 99; exact callsGrow ((H2.out ▸ isTriangle_c l _ _ _ _ _ _ _ _ c HLM.out (hA'.ext (Grow.ok _))))) | fail))
                    refine wpQuiet_nil ?_
                    intro w1 hb
                    have hc := hb.ccell
                    have hf := hb.frz
                    have hs := hb.sz
                    (try simp at hs); (try have hs0 := hs w.heap.size (by omega)); (try have hs1 := hs (w.heap.size + 1) (by omega)); (try have hs2 := hs (w.heap.size + 1 + 1) (by omega)); (try have hs3 := hs (w.heap.size + 1 + 1 + 1) (by omega))
                    (try simp only [IntWalk.i64_left])
                    have hno : tst l a b c' = false := by rw [HT.out]; first | (rw [H2.out]; simp; done) | (simp; omega)
                    have HN := Lib.hid hno
                    clear hno
                    go_wp2
                    have hu := HU.out
                    rw [HN.out] at hu
                    refine ⟨⟨by (repeat (first | with_reducible exact Ext.rfl' _ | with_reducible assumption | with_reducible refine Ext.al ?_ _ | with_reducible refine Ext.dr ?_ | with_reducible refine Ext.st ?_ (by simp) _ | with_reducible refine Ext.tr ?_ (by assumption))), c' + 1, by omega, by go_num, ?_⟩, by simp [intOf]; omega⟩
                    rw [hu]
                    simpa using HO3.out.ext hb
              · go_wp2
                have e : c' = l.length := by omega
                have h3 := HO3.out
                rw [e, List.append_assoc, ← upB_succ] at h3
                exact ⟨⟨hE3, b + 1, by omega, by go_num, h3⟩, by simp [intOf]; omega⟩
          · go_wp2
            have e : b = l.length := by omega
            have h3 := HO2.out
            rw [e, ← upA_succ] at h3
            exact ⟨⟨hE2, a + 1, by omega, by go_num, h3⟩, by simp [intOf]; omega⟩
      · go_wp2
        go_ret2
        have e : a = l.length := by omega
        have h3 := HO.out
        rw [e] at h3
        exact ⟨_, rfl, h3, hE⟩
  · rw [if_neg h0]
    generalize patchE l = pe at *
    have h0' : (pe == 0) = false := by simp [h0]
    go_enter Try.func55, Try.ntmps55
    go_wp2_with (first | (go_at_call 98; refine Calls.mono (HCP.out) ?_; rintro e w1 ⟨rfl, hb⟩; have hc := hb.ccell; have hf := hb.frz; have hs := hb.sz; (try simp at hs); (try have hs0 := hs w.heap.size (by omega)); (try have hs1 := hs (w.heap.size + 1) (by omega)); (try have hs2 := hs (w.heap.size + 1 + 1) (by omega)); (try have hs3 := hs (w.heap.size + 1 + 1 + 1) (by omega))))
    go_ret2
    exact ⟨_, rfl, World.ownsRow_nil _ _ _ _, by (repeat (first | with_reducible exact Ext.rfl' _ | with_reducible assumption | with_reducible refine Ext.al ?_ _ | with_reducible refine Ext.dr ?_ | with_reducible refine Ext.st ?_ (by simp) _ | with_reducible refine Ext.tr ?_ (by assumption)))⟩
end Go.Proofs.Ytcdbekmcobghbaa
