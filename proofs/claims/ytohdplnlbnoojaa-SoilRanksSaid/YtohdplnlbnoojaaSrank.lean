/- The library's Sort on numbers, in the words of this program; the contract of Ranked. -/
import Derived.Test.YtohdplnlbnoojaaSrkp
import Derived.Test.YtohdplnlbnoojaaSslumps
import Derived.Test.YtohdplnlbnoojaaShelf
namespace Go.Proofs.Ytohdplnlbnoojaa
open Go Go.RowKit Go.IntWalk Go.Sort Go.Shelf Go.Lib

/-- Only block g may have turned, and blocks have come. -/
abbrev Touch (g : Nat) (w w' : World) : Prop := w.grownBy w' (some g)
theorem Touch.ext {w w' w0 : World} {g : Nat} (h : Touch g w w') (h0 : Ext w0 w) (hg : w0.heap.size ≤ g) : Ext w0 w' := Below.grown h0 h h0.size (fun k hk => by injection hk with hk; omega)
theorem Touch.own {α : Type} {t : TypeId} {k : Nat} {enc : α → List Value} {w w' : World} {g g' cap' : Nat} {l' : List α} (h : Touch g w w') (hne : g' ≠ g) (ho : OwnK t k enc w g' cap' l') : OwnK t k enc w' g' cap' l' := by
  have hl := ho.lt
  obtain ⟨cur, h1, h2⟩ := ho
  exact ⟨cur, (h.block g' hl (by intro e; injection e with e; exact hne e)).trans h1, h2⟩
def zWorld (w : World) (g : Nat) (l : List Int) (n : Nat) (os : Array Obj) : World := grow (putRow (Value.int .i64) (Sort.ahead w n) g 0 l.toArray) os
theorem touch_z (w : World) (g : Nat) (l : List Int) (n : Nat) (os : Array Obj) : Touch g w (zWorld w g l n os) := by
  refine ⟨rfl, rfl, rfl, ?_, fun k hk hne => ?_⟩
  · unfold zWorld grow putRow mapBlock Sort.ahead; simp
  · unfold zWorld grow putRow mapBlock Sort.ahead
    simp only
    rw [Array.getElem?_append_left (by simpa using hk), Array.getElem?_modify, if_neg (by intro e; exact hne (by rw [e]))]
theorem zflat_get (l : List Int) (j : Nat) : (l.flatMap encZ)[j]? = (l[j]?).map (Value.int .i64) := by
  have : l.flatMap encZ = l.map (Value.int .i64) := by
    induction l with
    | nil => rfl
    | cons x l ih => rw [List.flatMap_cons, ih]; rfl
  rw [this, List.getElem?_map]
theorem own_z {w : World} {g cap : Nat} {l m : List Int} (h : OwnK 3 1 encZ w g cap l) (n : Nat) (os : Array Obj) (hm : m.length = l.length) : OwnK 3 1 encZ (zWorld w g m n os) g cap m := by
  have hl := h.lt
  obtain ⟨cur, h1, h2, h3, h4, h5⟩ := h
  have hb : (zWorld w g m n os).heap[g]? = some (.cells (putCells (Value.int .i64) 0 m.toArray cur) 3 (0, 0)) := by
    unfold zWorld grow putRow mapBlock Sort.ahead
    simp only
    rw [Array.getElem?_append_left (by simpa using hl), Array.getElem?_modify, if_pos rfl, h1]
    rfl
  refine ⟨_, hb, by unfold putCells; simpa using h2, by omega, h4, ?_⟩
  apply List.ext_getElem?
  intro j
  rw [List.getElem?_take, Nat.mul_one, zflat_get]
  by_cases hj : j < m.length
  · rw [if_pos hj, Array.getElem?_toList]
    unfold putCells
    rw [Array.getElem?_mapIdx, Array.getElem?_eq_getElem (by omega), Option.map_some, if_pos ⟨Nat.zero_le _, by simpa using hj⟩, List.getElem?_eq_getElem hj]
    simp [hj]
  · rw [if_neg hj, List.getElem?_eq_none (by omega)]; rfl
theorem holds_z {w : World} {g cap : Nat} {l : List Int} (h : OwnK 3 1 encZ w g cap l) : Holds (Value.int .i64) w g 0 l.toArray := by
  intro j hj
  have hj' : j < l.length := by simpa using hj
  refine ⟨?_, h.frozen encZ_len _⟩
  rw [Nat.zero_add]
  refine h.cells encZ_len j _ ?_
  rw [zflat_get, List.getElem?_eq_getElem hj']
  simp [hj']
theorem sort_own_c (w : World) (g cap : Nat) (l : List Int) (h : OwnK 3 1 encZ w g cap l) (hl : l.length ≤ 100000) :
    Calls Try.prog 95 #[.slice (some ⟨g, 0, none⟩) l.length cap] w fun e w' => e = .returned (.tuple #[]) ∧ OwnK 3 1 encZ w' g cap (sortZ l) ∧ Touch g w w' := by
  refine (Try.slices_Sort_int g 0 cap l w (holds_z h) h.lt (by omega)).mono ?_
  rintro e w' ⟨he, n, os, hw⟩
  subst hw
  exact ⟨he, own_z h n os (sortZ_len l), touch_z w g (sortZ l) n os⟩

theorem checkRule_c (num den least : Int) (w : World) :
    Calls Try.prog 92 #[.agg #[.int .i64 num, .int .i64 den, .int .i64 least]] w fun e w' => e = .returned (.int .i64 (ruE num den least)) ∧ Ext w w' := by
  have H1 := Lib.hid (fun w => swithin_c den 1 1000 w)
  have H2 := Lib.hid (fun w => swithin_c num 1 den w)
  have H3 := Lib.hid (fun w => swithin_c least 1 60 w)
  unfold ruE
  cases h1 : withinB den 1 1000
  · rw [h1] at H1
    rw [if_neg (by simp)]
    clear h1
    go_enter Try.func92, Try.ntmps92
    go_wp2_with (first | (go_at_call 111; with_reducible refine Calls.mono (H1.out _) ?_; rintro e w' ⟨rfl, rfl⟩))
    go_ret
    exact ⟨rfl, by (repeat (first | with_reducible exact Ext.rfl' _ | with_reducible assumption | with_reducible refine Ext.al ?_ _ | with_reducible refine Ext.dr ?_ | with_reducible refine Ext.st ?_ (by simp) _ | with_reducible refine Ext.tr ?_ (by assumption)))⟩
  rw [h1] at H1
  cases h2 : withinB num 1 den
  · rw [h2] at H2
    rw [if_neg (by simp)]
    clear h1 h2
    go_enter Try.func92, Try.ntmps92
    go_wp2_with (first | (go_at_call 111; with_reducible refine Calls.mono (H1.out _) ?_; rintro e w' ⟨rfl, rfl⟩) | (go_at_call 111; with_reducible refine Calls.mono (H2.out _) ?_; rintro e w' ⟨rfl, rfl⟩))
    go_ret
    exact ⟨rfl, by (repeat (first | with_reducible exact Ext.rfl' _ | with_reducible assumption | with_reducible refine Ext.al ?_ _ | with_reducible refine Ext.dr ?_ | with_reducible refine Ext.st ?_ (by simp) _ | with_reducible refine Ext.tr ?_ (by assumption)))⟩
  rw [h2] at H2
  cases h3 : withinB least 1 60
  · rw [h3] at H3
    rw [if_neg (by simp)]
    clear h1 h2 h3
    go_enter Try.func92, Try.ntmps92
    go_wp2_with (first | (go_at_call 111; with_reducible refine Calls.mono (H1.out _) ?_; rintro e w' ⟨rfl, rfl⟩) | (go_at_call 111; with_reducible refine Calls.mono (H2.out _) ?_; rintro e w' ⟨rfl, rfl⟩) | (go_at_call 111; with_reducible refine Calls.mono (H3.out _) ?_; rintro e w' ⟨rfl, rfl⟩))
    go_ret
    exact ⟨rfl, by (repeat (first | with_reducible exact Ext.rfl' _ | with_reducible assumption | with_reducible refine Ext.al ?_ _ | with_reducible refine Ext.dr ?_ | with_reducible refine Ext.st ?_ (by simp) _ | with_reducible refine Ext.tr ?_ (by assumption)))⟩
  rw [h3] at H3
  rw [if_pos ⟨rfl, rfl, rfl⟩]
  clear h1 h2 h3
  go_enter Try.func92, Try.ntmps92
  go_wp2_with (first | (go_at_call 111; with_reducible refine Calls.mono (H1.out _) ?_; rintro e w' ⟨rfl, rfl⟩) | (go_at_call 111; with_reducible refine Calls.mono (H2.out _) ?_; rintro e w' ⟨rfl, rfl⟩) | (go_at_call 111; with_reducible refine Calls.mono (H3.out _) ?_; rintro e w' ⟨rfl, rfl⟩))
  go_ret
  exact ⟨rfl, by (repeat (first | with_reducible exact Ext.rfl' _ | with_reducible assumption | with_reducible refine Ext.al ?_ _ | with_reducible refine Ext.dr ?_ | with_reducible refine Ext.st ?_ (by simp) _ | with_reducible refine Ext.tr ?_ (by assumption)))⟩
theorem isValue_c (x : Int) (w : World) :
    Calls Try.prog 93 #[.int .i64 x] w fun e w' => e = .returned (.bool (vaB x)) ∧ Ext w w' := by
  have H1 := Lib.hid (fun w => swithin_c x 0 1000000000 w)
  rw [show withinB x 0 1000000000 = vaB x from rfl] at H1
  generalize vaB x = B at *
  go_enter Try.func93, Try.ntmps93
  go_wp2_with (first | (go_at_call 111; with_reducible refine Calls.mono (H1.out _) ?_; rintro e w' ⟨rfl, rfl⟩))
  go_ret
  exact ⟨rfl, by (repeat (first | with_reducible exact Ext.rfl' _ | with_reducible assumption | with_reducible refine Ext.al ?_ _ | with_reducible refine Ext.dr ?_ | with_reducible refine Ext.st ?_ (by simp) _ | with_reducible refine Ext.tr ?_ (by assumption)))⟩
set_option maxHeartbeats 8000000 in
set_option maxRecDepth 100000 in
theorem ranked_c (l : List Int) (num den least : Int) (w : World) (A : Option Addr) (c : Nat) (hl : l.length ≤ 1000) (hA : Row 1 encZ w A l) :
    Calls Try.prog 57 #[.slice A l.length c, .agg #[.int .i64 num, .int .i64 den, .int .i64 least]] w fun e w' => e = .returned (.tuple #[.int .i64 (rkV l num den least), .int .i64 (rkE l num den least)]) ∧ Ext w w' := by
  have HR := Lib.hid (fun w' => checkRule_c num den least w')
  have HV := Lib.hid (fun x w' => isValue_c x w')
  have HCL := Lib.hid (fun w' (hw : Ext w w') => cloneZ_c l w' A c (by omega) (hA.ext hw))
  have HE := Lib.hid (show rkE l num den least = if ruE num den least ≠ 0 then ruE num den least else if 60 < l.length then 8 else if anyN (fun k => !vaB (gi l k)) l.length = true then 2 else if (l.length : Int) < least then 11 else 0 from rfl)
  by_cases h1 : ruE num den least = 0
  case neg =>
    have he : rkE l num den least = ruE num den least := by rw [HE.out, if_pos h1]
    rw [rkV_no (by rw [he]; exact h1), he]
    have h1' : (ruE num den least != 0) = true := by simp [h1]
    generalize ruE num den least = E at *
    clear he h1 HE
    go_enter Try.func57, Try.ntmps57
    go_wp2_with (first | (go_at_call 92; with_reducible refine Calls.mono (HR.out _) ?_; rintro e w1 ⟨rfl, hb⟩; have hc := hb.ccell; have hf := hb.frz; have hs := hb.sz; (try simp at hs); (try have t0 := hs (w.heap.size) (by first | assumption | omega)); (try have t1 := hs (w.heap.size) (by first | assumption | omega)); (try have t2 := hs (w.heap.size) (by first | assumption | omega)); (try have t3 := hs (w.heap.size) (by first | assumption | omega)); (try have t4 := hs (w.heap.size) (by first | assumption | omega)); (try have t5 := hs (w.heap.size) (by first | assumption | omega))))
    exact bodyPost_ret (v := .tuple #[.int .i64 0, .int .i64 E]) (by simp [results, Try.results57, go_sem]) rfl ⟨rfl, by (repeat (first | with_reducible exact Ext.rfl' _ | with_reducible assumption | with_reducible refine Ext.al ?_ _ | with_reducible refine Ext.dr ?_ | with_reducible refine Ext.st ?_ (by simp) _ | with_reducible refine Ext.tr ?_ (by assumption)))⟩
  rw [h1] at HR
  by_cases h2 : 60 < l.length
  · have he : rkE l num den least = 8 := by rw [HE.out, if_neg (by omega), if_pos h2]
    rw [rkV_no (by rw [he]; decide), he]
    have h2' : (60 : Int) < (l.length : Int) := by omega
    clear he h1 h2 HE
    go_enter Try.func57, Try.ntmps57
    go_wp2_with (first | (go_at_call 92; with_reducible refine Calls.mono (HR.out _) ?_; rintro e w1 ⟨rfl, hb⟩; have hc := hb.ccell; have hf := hb.frz; have hs := hb.sz; (try simp at hs); (try have t0 := hs (w.heap.size) (by first | assumption | omega)); (try have t1 := hs (w.heap.size) (by first | assumption | omega)); (try have t2 := hs (w.heap.size) (by first | assumption | omega)); (try have t3 := hs (w.heap.size) (by first | assumption | omega)); (try have t4 := hs (w.heap.size) (by first | assumption | omega)); (try have t5 := hs (w.heap.size) (by first | assumption | omega))))
    exact bodyPost_ret (v := .tuple #[.int .i64 0, .int .i64 8]) (by simp [results, Try.results57, go_sem]) rfl ⟨rfl, by (repeat (first | with_reducible exact Ext.rfl' _ | with_reducible assumption | with_reducible refine Ext.al ?_ _ | with_reducible refine Ext.dr ?_ | with_reducible refine Ext.st ?_ (by simp) _ | with_reducible refine Ext.tr ?_ (by assumption)))⟩
  have h2' : ¬ (60 : Int) < (l.length : Int) := by omega
  have HB : Hid (∀ k, k < l.length → anyN (fun k => !vaB (gi l k)) k = false → vaB (gi l k) = false → rkE l num den least = 2) := Lib.hid (fun k hk _ hv => by
    rw [HE.out, if_neg (by omega), if_neg h2, if_pos (anyN_at (fun k => !vaB (gi l k)) hk (by rw [hv]; rfl))])
  have HN : Hid (anyN (fun k => !vaB (gi l k)) l.length = false → (l.length : Int) < least → rkE l num den least = 11) := Lib.hid (fun h3 h4 => by
    rw [HE.out, if_neg (by omega), if_neg h2, if_neg (by rw [h3]; decide), if_pos h4])
  have HO : Hid (anyN (fun k => !vaB (gi l k)) l.length = false → ¬ (l.length : Int) < least → rkE l num den least = 0) := Lib.hid (fun h3 h4 => by
    rw [HE.out, if_neg (by omega), if_neg h2, if_neg (by rw [h3]; decide), if_neg h4])
  have HX := Lib.hid (fun (h : rkE l num den least = 0) => And.intro (rkE_ok h) (rkV_ok h))
  have HY := Lib.hid (fun (h : rkE l num den least ≠ 0) => rkV_no h)
  have HRA := Lib.hid hA
  have hln : l.length ≤ 60 := by omega
  generalize rkE l num den least = E at *
  generalize rkV l num den least = V at *
  clear HE h1 h2 hA hl
  go_enter Try.func57, Try.ntmps57
  go_upto_region 6 with (first | (go_at_call 92; with_reducible refine Calls.mono (HR.out _) ?_; rintro e w1 ⟨rfl, hb⟩; have hc := hb.ccell; have hf := hb.frz; have hs := hb.sz; (try simp at hs); (try have t0 := hs (w.heap.size) (by first | assumption | omega)); (try have t1 := hs (w.heap.size) (by first | assumption | omega)); (try have t2 := hs (w.heap.size) (by first | assumption | omega)); (try have t3 := hs (w.heap.size) (by first | assumption | omega)); (try have t4 := hs (w.heap.size) (by first | assumption | omega)); (try have t5 := hs (w.heap.size) (by first | assumption | omega))))
  refine wp_name (fun W hW => ?_)
  have hEW : Ext w W := by rw [hW]; (repeat (first | with_reducible exact Ext.rfl' _ | with_reducible assumption | with_reducible refine Ext.al ?_ _ | with_reducible refine Ext.dr ?_ | with_reducible refine Ext.st ?_ (by simp) _ | with_reducible refine Ext.tr ?_ (by assumption)))
  have k0 : W.cell? ⟨w.heap.size, 0, none⟩ = some (.int .i64 num) := by rw [hW]; simp [*, go_sem]
  have k1 : W.cell? ⟨w.heap.size, 1, none⟩ = some (.int .i64 den) := by rw [hW]; simp [*, go_sem]
  have k2 : W.cell? ⟨w.heap.size, 2, none⟩ = some (.int .i64 least) := by rw [hW]; simp [*, go_sem]
  have z0 : w.heap.size < W.heap.size := by rw [hW]; assumption
  clear hW hb hc hf hs t0 t1 t2 t3 t4 t5 HR
  go_wp2
  go_loopw [21] (fun i wr => Ext W wr ∧ ∃ k : Nat, k ≤ l.length ∧ i = .int .i64 k ∧ Hid (anyN (fun k => !vaB (gi l k)) k = false)) (fun i _ => l.length - (intOf i).toNat)
  case atStart => exact ⟨Ext.rfl' _, 0, Nat.zero_le _, rfl, Lib.hid rfl⟩
  case round =>
    obtain ⟨hE, k, hk, rfl, hF⟩ := hrel
    have hEr := hEW.tr hE
    have q0 := (hE.ccell _ 0 z0).trans k0
    have q1 := (hE.ccell _ 1 z0).trans k1
    have q2 := (hE.ccell _ 2 z0).trans k2
    have y0 := hE.sz _ z0
    by_cases hlt : k < l.length
    · obtain ⟨b, off, rfl, hb0, hcell⟩ := HRA.out.p1 hlt
      have x0 := hcell _ hEr
      rw [← gi_lt] at x0
      have zb := hEr.sz _ hb0
      have hbad := HB.out k hlt hF.out
      have hst : vaB (gi l k) = true → Hid (anyN (fun k => !vaB (gi l k)) (k + 1) = false) := fun h => Lib.hid (by rw [anyN, hF.out, h]; rfl)
      have HVK := Lib.hid (fun w' => HV.out (gi l k) w')
      have HST := Lib.hid hst
      have HBD := Lib.hid hbad
      clear hcell hst hbad
      generalize gi l k = x at *
      cases hv : vaB x
      · rw [hv] at HVK
        have hE2 := HBD.out hv
        subst hE2
        have hV2 := HY.out (by decide)
        subst hV2
        clear hv
        go_wp2_with (first | (go_at_call 93; with_reducible refine Calls.mono (HVK.out _) ?_; rintro e w3 ⟨rfl, hb⟩; have hc := hb.ccell; have hf := hb.frz; have hs := hb.sz; (try simp at hs); (try have t0 := hs (w.heap.size) (by first | assumption | omega)); (try have t1 := hs (b) (by first | assumption | omega)); (try have t2 := hs (w.heap.size) (by first | assumption | omega)); (try have t3 := hs (w.heap.size) (by first | assumption | omega)); (try have t4 := hs (w.heap.size) (by first | assumption | omega)); (try have t5 := hs (w.heap.size) (by first | assumption | omega))))
        exact bodyPost_ret (v := .tuple #[.int .i64 0, .int .i64 2]) (by simp [results, Try.results57, go_sem]) rfl ⟨rfl, hEr.tr (by (repeat (first | with_reducible exact Ext.rfl' _ | with_reducible assumption | with_reducible refine Ext.al ?_ _ | with_reducible refine Ext.dr ?_ | with_reducible refine Ext.st ?_ (by simp) _ | with_reducible refine Ext.tr ?_ (by assumption))))⟩
      · rw [hv] at HVK
        have hS := HST.out hv
        clear hv
        go_wp2_with (first | (go_at_call 93; with_reducible refine Calls.mono (HVK.out _) ?_; rintro e w3 ⟨rfl, hb⟩; have hc := hb.ccell; have hf := hb.frz; have hs := hb.sz; (try simp at hs); (try have t0 := hs (w.heap.size) (by first | assumption | omega)); (try have t1 := hs (b) (by first | assumption | omega)); (try have t2 := hs (w.heap.size) (by first | assumption | omega)); (try have t3 := hs (w.heap.size) (by first | assumption | omega)); (try have t4 := hs (w.heap.size) (by first | assumption | omega)); (try have t5 := hs (w.heap.size) (by first | assumption | omega))))
        have hE3 : Ext wr w3 := by assumption
        exact ⟨⟨hE.tr hE3, k + 1, by omega, by go_num, hS⟩, by simp [intOf]; omega⟩
    · have hks : k = l.length := by omega
      have hF2 := hF.out
      rw [hks] at hF2
      by_cases h4 : (l.length : Int) < least
      · have hE2 := HN.out hF2 (by omega)
        subst hE2
        have hV2 := HY.out (by decide)
        subst hV2
        clear hks hF2 hk
        go_wp2
        exact bodyPost_ret (v := .tuple #[.int .i64 0, .int .i64 11]) (by simp [results, Try.results57, go_sem]) rfl ⟨rfl, hEr⟩
      · have hE2 := HO.out hF2 (by omega)
        subst hE2
        obtain ⟨ok, hV2⟩ := HX.out rfl
        obtain ⟨d1, d2⟩ := ok.d
        obtain ⟨n1, n2⟩ := ok.n
        have hp := ok.pos
        obtain ⟨p1, p2, _⟩ := ok.place
        have hpos : 0 < l.length := hp
        have HVE := Lib.hid hV2
        have m1 : (l.length : Int) * num ≤ 60 * 1000 := Int.mul_le_mul (by omega) (by omega) (by omega) (by omega)
        have m2 : 0 ≤ (l.length : Int) * num := Int.mul_nonneg (by omega) (by omega)
        obtain ⟨P, hP⟩ : ∃ P, (l.length : Int) * num = P := ⟨_, rfl⟩
        have ww1 : IntKind.i64.wrap ((l.length : Int) * num) = P := by rw [hP]; exact IntWalk.i64_in _ (by omega)
        rw [hP] at m1 m2 p2
        obtain ⟨r, hr⟩ : ∃ r : Nat, rkP l.length num den = r := ⟨_, rfl⟩
        rw [hr] at p1 p2 HVE
        have hq : (P + den - 1) / den = (r : Int) + 1 := p2
        clear hks hF2 hk hV2 ok hP hr p2 HB HN HO HX HY HV
        go_upto_region 15 with (first | (go_at_call 94; (with_reducible refine Calls.mono (HCL.out _ (by (repeat (first | with_reducible exact Ext.rfl' _ | with_reducible assumption | with_reducible refine Ext.al ?_ _ | with_reducible refine Ext.dr ?_ | with_reducible refine Ext.st ?_ (by simp) _ | with_reducible refine Ext.tr ?_ (by assumption))))) ?_); rintro e w3 ⟨⟨A3, c3, rfl, hN3⟩, hb⟩; have hc := hb.ccell; have hf := hb.frz; have hs := hb.sz; (try simp at hs); (try have t0 := hs (w.heap.size) (by first | assumption | omega)); (try have t1 := hs (w.heap.size) (by first | assumption | omega)); (try have t2 := hs (w.heap.size) (by first | assumption | omega)); (try have t3 := hs (w.heap.size) (by first | assumption | omega)); (try have t4 := hs (w.heap.size) (by first | assumption | omega)); (try have t5 := hs (w.heap.size) (by first | assumption | omega))))
        obtain ⟨g3, hA3, hg3, hO3⟩ := newz_some hpos hN3
        subst hA3
        (try simp at hg3)
        have hE3 : Ext wr w3 := by assumption
        have hO3 := Lib.hid hO3
        clear hb hc hf hs t0 t1 t2 t3 t4 t5 hN3 HCL
        go_upto_region 16 with (first | (go_at_call 95; (with_reducible refine Calls.mono (sort_own_c _ _ _ _ hO3.out (by omega)) ?_); rintro e w4 ⟨rfl, hO4, hT4⟩))
        have hE4 : Ext wr w4 := Touch.ext hT4 hE3 hg3
        have e0 := (hE4.ccell _ 0 y0).trans q0
        have e1 := (hE4.ccell _ 1 y0).trans q1
        have x1 := hE4.sz _ y0
        have xr := hO4.z (i := r) (by rw [sortZ_len]; exact p1)
        have zg := hO4.lt
        have HVR : Hid (V = gi (sortZ l) r) := Lib.hid (by rw [HVE.out]; rfl)
        clear hT4 hO4 q0 q1 q2 HVE hE3
        generalize gi (sortZ l) r = X at *
        have hri : (r : Int) < (l.length : Int) := by omega
        go_wp2
        exact bodyPost_ret (v := .tuple #[.int .i64 X, .int .i64 0]) (by simp [results, Try.results57, go_sem]) rfl ⟨by rw [HVR.out], hEr.tr hE4⟩
end Go.Proofs.Ytohdplnlbnoojaa
