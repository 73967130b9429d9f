/- Contracts of ShortAll and CheckGauges. -/
import Derived.Test.YtmhmfjgahhgbpaaTnext
import Derived.Test.YtmhmfjgahhgbpaaTawake
namespace Go.Proofs.Ytmhmfjgahhgbpaa
open Go Go.RowKit Go.IntWalk

theorem Row.take {α : Type} {k : Nat} {enc : α → List Value} {w : World} {A : Option Addr} {l : List α} (h : Row k enc w A l) (n : Nat) : Row k enc w A (l.take n) := by
  rcases h with rfl | ⟨b, off, h1, h2, h3⟩
  · exact .inl (by simp)
  · refine .inr ⟨b, off, h1, h2, fun i hi j v hv => ?_⟩
    have hi' : i < l.length := by rw [List.length_take] at hi; omega
    rw [List.getElem_take] at hv
    exact h3 i hi' j v hv
theorem Row.r4 {w : World} {b off : Nat} {l : List Ga} (h : Row 4 encG w (some ⟨b, off, none⟩) l) {k : Nat} (hk : k < l.length) :
    ∀ w', Ext w w' → w'.cell? ⟨b, off + k * 4, none⟩ = some (.string l[k].s) ∧ w'.cell? ⟨b, off + k * 4 + 1, none⟩ = some (.int .i64 l[k].x) ∧ w'.cell? ⟨b, off + k * 4 + 2, none⟩ = some (.int .i64 l[k].er) ∧ w'.cell? ⟨b, off + k * 4 + 3, none⟩ = some (.slice l[k].A l[k].l.length l[k].c) := by
  obtain ⟨b', off', h1, _, h3⟩ := h.p4 hk
  injection h1 with h1
  injection h1 with h1 h2
  subst h1 h2
  exact h3
def Marks (w : World) (gs : List Ga) : Prop := ∀ k (hk : k < gs.length), gs[k].l.length ≤ 1000 ∧ Row 2 encP w gs[k].A gs[k].l
theorem Marks.ext {w w' : World} {gs : List Ga} (h : Marks w gs) (hw : Ext w w') : Marks w' gs := fun k hk => ⟨(h k hk).1, (h k hk).2.ext hw⟩
def errG (gs : List Ga) (k : Nat) : Int := if h : k < gs.length then nextE (gs.take k) gs[k] else 0
theorem errG_lt {gs : List Ga} {k : Nat} (h : k < gs.length) : errG gs k = nextE (gs.take k) gs[k] := by unfold errG; rw [dif_pos h]
def gausE (gs : List Ga) : Int := if 6 < gs.length then 8 else firstE (errG gs) gs.length
theorem checkNext_t (gs : List Ga) (k : Nat) (hk : k < gs.length) (w : World) (A : Option Addr) (c : Nat) (hgs : gs.length ≤ 1000) (hA : Row 4 encG w A gs) (hM : Marks w gs) :
    Calls Try.prog 62 #[.slice A k c, .agg #[.string gs[k].s, .int .i64 gs[k].x, .int .i64 gs[k].er, .slice gs[k].A gs[k].l.length gs[k].c]] w fun e w' => e = .returned (.int .i64 (errG gs k)) ∧ Ext w w' := by
  have h := checkNext_c (gs.take k) gs[k] w A c (by rw [List.length_take]; omega) (hA.take k) (hM k hk).1 (hM k hk).2
  rw [List.length_take, Nat.min_eq_left (by omega)] at h
  rw [errG_lt hk]
  exact h

set_option maxHeartbeats 2000000 in
theorem checkAll_c (gs : List Ga) (w : World) (A : Option Addr) (c : Nat) (hl : gs.length ≤ 1000) (hc : gs.length ≤ c) (hA : Row 4 encG w A gs) (hM : Marks w gs) :
    Calls Try.prog 42 #[.slice A gs.length c] w fun e w' => e = .returned (.int .i64 (gausE gs)) ∧ Ext w w' := by
  by_cases h1 : 6 < gs.length
  · have h1' : (6 : Int) < (gs.length : Int) := by omega
    unfold gausE
    rw [if_pos h1]
    go_enter Try.func42, Try.ntmps42
    go_wp2
    go_ret
    exact ⟨rfl, by (repeat (first | with_reducible exact Ext.rfl' _ | with_reducible assumption | with_reducible refine Ext.al ?_ _ | with_reducible refine Ext.dr ?_ | with_reducible refine Ext.st ?_ (by simp) _ | with_reducible refine Ext.tr ?_ (by assumption)))⟩
  have h1' : ¬ (6 : Int) < (gs.length : Int) := by omega
  obtain ⟨E, hE0⟩ : ∃ E, gausE gs = E := ⟨_, rfl⟩
  rw [hE0]
  unfold gausE at hE0
  rw [if_neg h1] at hE0
  have HT := Lib.hid hE0
  clear hE0 h1
  go_enter Try.func42, Try.ntmps42
  go_wp2
  go_loopw [3, 4, 5, 11] (fun _ _ _ i wr => Ext w wr ∧ ∃ k : Nat, k ≤ gs.length ∧ i = .int .i64 k ∧ Hid (firstE (errG gs) k = 0)) (fun _ _ _ i _ => gs.length - (intOf i).toNat)
  case atStart => exact ⟨Ext.rfl' _, 0, Nat.zero_le _, rfl, rfl⟩
  case round =>
    obtain ⟨hE, k, hk, rfl, hF⟩ := hrel
    by_cases hlt : k < gs.length
    · obtain ⟨b, off, rfl, hb0, hcell⟩ := hA.p4 hlt
      have cc := hcell _ hE
      clear hcell
      have hz := hE.sz _ hb0
      have HI := Lib.hid (fun w' (hw : Ext w w') => checkNext_t gs k hlt w' (some ⟨b, off, none⟩) c hl (hA.ext hw) (hM.ext hw))
      generalize gs[k].s = s at *
      generalize gs[k].x = x at *
      generalize gs[k].er = er at *
      generalize gs[k].l.length = n at *
      generalize gs[k].A = Ag at *
      generalize gs[k].c = cg at *
      have hkc : k ≤ c := by omega
      obtain ⟨r, hr⟩ : ∃ r, errG gs k = r := ⟨_, rfl⟩
      rw [hr] at HI
      have HR := Lib.hid hr
      clear hr
      by_cases h0 : r = 0
      · subst h0
        go_upto_region 6 with fail
        refine region_grow (by kernel_rfl) (by kernel_rfl) ?_
        repeat (first | go_big_quiet_step (first | (go_at_call 62; with_reducible exact callsGrow (HI.out _ ((Ext.al hE _).tr (Grow.ok _)))) | fail) | quiet_step (first | (go_at_call 62; with_reducible exact callsGrow (HI.out _ ((Ext.al hE _).tr (Grow.ok _)))) | fail))
        refine wpQuiet_nil ?_
        intro w1 hb
        have hc := hb.ccell
        have hf := hb.frz
        have hs := hb.sz
        (try simp at hs); (try have hs0 := hs w.heap.size (by omega)); (try have hs1 := hs (w.heap.size + 1) (by omega)); (try have hs2 := hs (w.heap.size + 1 + 1) (by omega)); (try have hs3 := hs (w.heap.size + 1 + 1 + 1) (by omega))
        (try simp only [IntWalk.i64_left])
        go_wp2
        exact ⟨⟨by (repeat (first | with_reducible exact Ext.rfl' _ | with_reducible assumption | with_reducible refine Ext.al ?_ _ | with_reducible refine Ext.dr ?_ | with_reducible refine Ext.st ?_ (by simp) _ | with_reducible refine Ext.tr ?_ (by assumption))), k + 1, by omega, by go_num, firstE_step hF.out HR.out⟩, by simp [intOf]; omega⟩
      · have h' : (r == 0) = false := by simp [h0]
        go_upto_region 6 with fail
        refine region_grow (by kernel_rfl) (by kernel_rfl) ?_
        repeat (first | go_big_quiet_step (first | (go_at_call 62; with_reducible exact callsGrow (HI.out _ ((Ext.al hE _).tr (Grow.ok _)))) | fail) | quiet_step (first | (go_at_call 62; with_reducible exact callsGrow (HI.out _ ((Ext.al hE _).tr (Grow.ok _)))) | fail))
        refine wpQuiet_nil ?_
        intro w1 hb
        have hc := hb.ccell
        have hf := hb.frz
        have hs := hb.sz
        (try simp at hs); (try have hs0 := hs w.heap.size (by omega)); (try have hs1 := hs (w.heap.size + 1) (by omega)); (try have hs2 := hs (w.heap.size + 1 + 1) (by omega)); (try have hs3 := hs (w.heap.size + 1 + 1 + 1) (by omega))
        (try simp only [IntWalk.i64_left])
        go_wp2
        go_ret
        exact ⟨ret_int (by rw [← HT.out, firstE_at hlt hF.out (by rw [HR.out]; exact h0), HR.out]), by (repeat (first | with_reducible exact Ext.rfl' _ | with_reducible assumption | with_reducible refine Ext.al ?_ _ | with_reducible refine Ext.dr ?_ | with_reducible refine Ext.st ?_ (by simp) _ | with_reducible refine Ext.tr ?_ (by assumption)))⟩
    · have hks : k = gs.length := by omega
      have hT := HT.out
      rw [← hks, hF.out] at hT
      have HT2 := Lib.hid hT
      clear hT hF
      go_wp2
      go_ret
      exact ⟨ret_int HT2.out, by (repeat (first | with_reducible exact Ext.rfl' _ | with_reducible assumption | with_reducible refine Ext.al ?_ _ | with_reducible refine Ext.dr ?_ | with_reducible refine Ext.st ?_ (by simp) _ | with_reducible refine Ext.tr ?_ (by assumption)))⟩

def shortG (gs : List Ga) : Bool := gs.all fun g => shortB g.s g.l
def shortAllB (gs : List Ga) : Bool := decide (gs.length ≤ 9) && shortG gs
set_option maxHeartbeats 1000000 in
theorem shortAll_c (gs : List Ga) (w : World) (A : Option Addr) (c : Nat) (hA : Row 4 encG w A gs) :
    Calls Try.prog 36 #[.slice A gs.length c] w fun e w' => e = .returned (.bool (shortAllB gs)) ∧ Ext w w' := by
  by_cases h1 : gs.length ≤ 9
  case neg =>
    have h1' : ¬ (gs.length : Int) ≤ 9 := by omega
    have h2' : (0 : Int) < gs.length := by omega
    unfold shortAllB
    rw [decide_eq_false h1]
    go_enter Try.func36, Try.ntmps36
    go_wp2
    go_loopw [3] (fun i wr => Ext w wr ∧ i = .int .i64 0) (fun _ _ => 0)
    case atStart => exact ⟨Ext.rfl' _, rfl⟩
    case round =>
      obtain ⟨hE, rfl⟩ := hrel
      go_wp2
      go_ret
      exact ⟨by simp; omega, by (repeat (first | with_reducible exact Ext.rfl' _ | with_reducible assumption | with_reducible refine Ext.al ?_ _ | with_reducible refine Ext.dr ?_ | with_reducible refine Ext.st ?_ (by simp) _ | with_reducible refine Ext.tr ?_ (by assumption)))⟩
  have h1' : (gs.length : Int) ≤ 9 := by omega
  obtain ⟨B, hB⟩ : ∃ B, shortAllB gs = B := ⟨_, rfl⟩
  rw [hB]
  unfold shortAllB at hB
  rw [decide_eq_true h1, Bool.true_and] at hB
  have HT := Lib.hid hB
  clear hB
  go_enter Try.func36, Try.ntmps36
  go_wp2
  go_loopw [3] (fun i wr => Ext w wr ∧ ∃ k : Nat, k ≤ gs.length ∧ i = .int .i64 k ∧ Hid (∀ j (hj : j < gs.length), j < k → shortB gs[j].s gs[j].l = true)) (fun i _ => gs.length - (intOf i).toNat)
  case atStart => exact ⟨Ext.rfl' _, 0, Nat.zero_le _, rfl, fun j _ hj => absurd hj (by omega)⟩
  case round =>
    obtain ⟨hE, k, hk, rfl, hF⟩ := hrel
    by_cases hlt : k < gs.length
    · obtain ⟨b, off, rfl, hb0, hcell⟩ := hA.p4 hlt
      have cc := hcell _ hE
      clear hcell
      have hz := hE.sz _ hb0
      have HS := Lib.hid (fun w => short_c gs[k].s gs[k].x gs[k].er gs[k].l w gs[k].A gs[k].c)
      cases hs : shortB gs[k].s gs[k].l
      · rw [hs] at HS
        have HF := Lib.hid hs
        clear hs
        go_wp2_with (first | (go_at_call 56; with_reducible refine Calls.mono (HS.out _) ?_; rintro e w1 ⟨rfl, hb⟩; have hc := hb.ccell; have hf := hb.frz; have hs := hb.sz; (try simp at hs); (try have hs0 := hs w.heap.size (by omega)); (try have hs1 := hs (w.heap.size + 1) (by omega)); (try have hs2 := hs (w.heap.size + 1 + 1) (by omega)); (try have hs3 := hs (w.heap.size + 1 + 1 + 1) (by omega))))
        go_ret
        have hsf : shortG gs = false := by
          unfold shortG
          rw [List.all_eq_false]
          exact ⟨gs[k], List.getElem_mem hlt, by rw [HF.out]; decide⟩
        exact ⟨by rw [← HT.out, hsf]; rfl, by (repeat (first | with_reducible exact Ext.rfl' _ | with_reducible assumption | with_reducible refine Ext.al ?_ _ | with_reducible refine Ext.dr ?_ | with_reducible refine Ext.st ?_ (by simp) _ | with_reducible refine Ext.tr ?_ (by assumption)))⟩
      · rw [hs] at HS
        have HG := Lib.hid hs
        clear hs
        go_wp2_with (first | (go_at_call 56; with_reducible refine Calls.mono (HS.out _) ?_; rintro e w1 ⟨rfl, hb⟩; have hc := hb.ccell; have hf := hb.frz; have hs := hb.sz; (try simp at hs); (try have hs0 := hs w.heap.size (by omega)); (try have hs1 := hs (w.heap.size + 1) (by omega)); (try have hs2 := hs (w.heap.size + 1 + 1) (by omega)); (try have hs3 := hs (w.heap.size + 1 + 1 + 1) (by omega))))
        exact ⟨⟨by (repeat (first | with_reducible exact Ext.rfl' _ | with_reducible assumption | with_reducible refine Ext.al ?_ _ | with_reducible refine Ext.dr ?_ | with_reducible refine Ext.st ?_ (by simp) _ | with_reducible refine Ext.tr ?_ (by assumption))), k + 1, by omega, by go_num, fun j hj hjk => by
          rcases Nat.lt_or_ge j k with h | h
          · exact hF.out j hj h
          · have h2 : j = k := by omega
            subst h2
            exact HG.out⟩, by simp [intOf]; omega⟩
    · have hks : k = gs.length := by omega
      have hall : shortG gs = true := by
        unfold shortG
        rw [List.all_eq_true]
        intro g hg
        obtain ⟨j, hj, rfl⟩ := List.mem_iff_getElem.1 hg
        exact hF.out j hj (by omega)
      have HA := Lib.hid hall
      clear hall hF
      go_wp2
      go_ret
      exact ⟨by rw [← HT.out, HA.out]; simp, by (repeat (first | with_reducible exact Ext.rfl' _ | with_reducible assumption | with_reducible refine Ext.al ?_ _ | with_reducible refine Ext.dr ?_ | with_reducible refine Ext.st ?_ (by simp) _ | with_reducible refine Ext.tr ?_ (by assumption)))⟩
end Go.Proofs.Ytmhmfjgahhgbpaa
