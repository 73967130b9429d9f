/- The contracts of changeOver and of Compare. -/
import Derived.Test.YtdbabihjnhnnfaaGreatBcopy
import Derived.Test.YtdbabihjnhnnfaaGreatBpchg
import Derived.Test.YtdbabihjnhnnfaaGreatTtail
namespace Go.Proofs.YtdbabihjnhnnfaaGreat
open Go Go.RowKit Go.IntWalk

def sumC (s : Int) (l m : List Int) (f t k : Nat) : Int := sumN (fun j => cutAt s l m (f + j * t)) k
def sumU (l m : List Int) (f t k : Nat) : Int := sumN (fun j => unkAt l m (f + j * t)) k
/-- The world of changeOver's loop: the two beds, a blank result, the sums so far. -/
structure ChW (w wr : World) (g h : Gr) (A B : Option Addr) (c d : Nat) (x y z : Int) : Prop where
  ext : Ext w wr
  kg : CellsAt wr w.heap.size 0 [.int .i64 g.X, .int .i64 g.Y, .int .i64 g.S, .int .i64 g.C, .int .i64 g.R, .slice A g.L.length c]
  kh : CellsAt wr (w.heap.size + 1) 0 [.int .i64 h.X, .int .i64 h.Y, .int .i64 h.S, .int .i64 h.C, .int .i64 h.R, .slice B h.L.length d]
  kr : CellsAt wr (w.heap.size + 2) 0 [.int .i64 0, .int .i64 0, .int .i64 0]
  ko : CellsAt wr (w.heap.size + 3) 0 [.int .i64 x, .int .i64 y, .int .i64 z]
  fo : ∀ o, wr.frozen? ⟨w.heap.size + 3, o, none⟩ = false
  fr : ∀ o, wr.frozen? ⟨w.heap.size + 2, o, none⟩ = false
  sz : w.heap.size + 3 < wr.heap.size
theorem ChW.next {w wr w' : World} {g h : Gr} {A B : Option Addr} {c d : Nat} {x y z : Int} (H : ChW w wr g h A B c d x y z) (hE : Ext wr w') : ChW w w' g h A B c d x y z := by
  have hs := H.sz
  exact ⟨H.ext.tr hE, H.kg.ext hE (by omega), H.kh.ext hE (by omega), H.kr.ext hE (by omega), H.ko.ext hE (by omega), fun o => (hE.frz _ o (by omega)).trans (H.fo o), fun o => (hE.frz _ o (by omega)).trans (H.fr o), hE.sz _ hs⟩
theorem ChW.store {w wr : World} {g h : Gr} {A B : Option Addr} {c d : Nat} {x y z : Int} (H : ChW w wr g h A B c d x y z) (j : Nat) (v x' y' z' : Int) (hj : (j = 0 ∧ v = x' ∧ y = y' ∧ z = z') ∨ (j = 1 ∧ v = y' ∧ x = x' ∧ z = z') ∨ (j = 2 ∧ v = z' ∧ x = x' ∧ y = y')) :
    ChW w (wr.setCell ⟨w.heap.size + 3, j, none⟩ (.int .i64 v)) g h A B c d x' y' z' := by
  obtain ⟨o0, o1, o2⟩ := H.ko.three
  refine ⟨Ext.st H.ext (by show w.heap.size ≤ w.heap.size + 3; omega) _, H.kg.st (by simp) _, H.kh.st (by simp) _, H.kr.st (by simp) _, cells_three ?_, fun o => by simpa [go_sem] using H.fo o, fun o => by simpa [go_sem] using H.fr o, by simpa using H.sz⟩
  rcases hj with ⟨rfl, rfl, rfl, rfl⟩ | ⟨rfl, rfl, rfl, rfl⟩ | ⟨rfl, rfl, rfl, rfl⟩ <;> refine ⟨?_, ?_, ?_⟩ <;> simp [go_sem, o0, o1, o2]
set_option maxHeartbeats 8000000 in
theorem changeOver_c (g h : Gr) (f t K : Nat) (w : World) (A B : Option Addr) (c d : Nat) (hs0 : 0 ≤ g.S) (hs1 : g.S ≤ 10000) (hgl : ∀ i, i < g.L.length → gi g.L i = 30000 ∨ (-20000 ≤ gi g.L i ∧ gi g.L i ≤ 20000)) (hhl : ∀ i, i < h.L.length → gi h.L i = 30000 ∨ (-20000 ≤ gi h.L i ∧ gi h.L i ≤ 20000))
    (hn : g.L.length = h.L.length) (hl : g.L.length ≤ 2000) (ht0 : 0 < t) (ht : t ≤ 2000) (_hf : f ≤ 2000) (hK : K ≤ 2000) (hin : ∀ k, k < K → f + k * t < g.L.length) (hout : g.L.length ≤ f + K * t) (hA : Row 1 encZ w A g.L) (hB : Row 1 encZ w B h.L) :
    Calls Tryz.prog 65 #[.agg #[.int .i64 g.X, .int .i64 g.Y, .int .i64 g.S, .int .i64 g.C, .int .i64 g.R, .slice A g.L.length c], .agg #[.int .i64 h.X, .int .i64 h.Y, .int .i64 h.S, .int .i64 h.C, .int .i64 h.R, .slice B h.L.length d], .int .i64 f, .int .i64 t] w
      fun e w' => e = .returned (.agg #[.int .i64 (sumC g.S g.L h.L f t K), .int .i64 (sumC g.S h.L g.L f t K), .int .i64 (sumU g.L h.L f t K)]) ∧ Ext w w' := by
  have HKg := Lib.hid (fun k (hk : k < g.L.length) w' (hw : Ext w w') => isKnown_c g k w' A c hk (by unfold maxLen; omega) (hA.ext hw))
  have HKh := Lib.hid (fun k (hk : k < h.L.length) w' (hw : Ext w w') => isKnown_c h k w' B d hk (by unfold maxLen; omega) (hB.ext hw))
  have HAr := Lib.hid (fun w' => area_c g w' A c hs0 hs1)
  have HS := Lib.hid (And.intro hs0 hs1)
  have HGL := Lib.hid hgl
  have HHL := Lib.hid hhl
  have HIN := Lib.hid hin
  have HOUT := Lib.hid hout
  have HN := Lib.hid hn
  have hm : h.L.length ≤ 2000 := by omega
  have hbd : ∀ k, k ≤ K → (0 ≤ sumC g.S g.L h.L f t k ∧ sumC g.S g.L h.L f t k ≤ 4000000000000 * 2000) ∧ (0 ≤ sumC g.S h.L g.L f t k ∧ sumC g.S h.L g.L f t k ≤ 4000000000000 * 2000) ∧ (0 ≤ sumU g.L h.L f t k ∧ sumU g.L h.L f t k ≤ 2000) := by
    intro k hk
    have b1 := sumN_bd (f := fun j => cutAt g.S g.L h.L (f + j * t)) (M := 4000000000000) k (fun j hj => cutC_bd hs0 hs1 (hgl _ (hin j (by omega))) (hhl _ (by rw [← hn]; exact hin j (by omega))))
    have b2 := sumN_bd (f := fun j => cutAt g.S h.L g.L (f + j * t)) (M := 4000000000000) k (fun j hj => cutC_bd hs0 hs1 (hhl _ (by rw [← hn]; exact hin j (by omega))) (hgl _ (hin j (by omega))))
    have b3 := sumN_bd (f := fun j => unkAt g.L h.L (f + j * t)) (M := 1) k (fun j hj => unkC_bd _ _)
    unfold sumC sumU
    omega
  have HBD := Lib.hid hbd
  clear hgl hhl hin hout hn hbd hs0 hs1
  go_enter Tryz.func65, Tryz.ntmps65
  go_wp2
  refine wp_name (fun W hW => ?_)
  have hE : Ext w W := by rw [hW]; (repeat (first | with_reducible exact Ext.rfl' _ | with_reducible assumption | with_reducible refine Ext.al ?_ _ | with_reducible refine Ext.dr ?_ | with_reducible refine Ext.st ?_ (by simp) _ | with_reducible refine Ext.tr ?_ (by assumption)))
  have HW := Lib.hid hW
  clear hW
  have hW : ChW w W g h A B c d 0 0 0 := by
    rw [HW.out]
    refine ⟨by (repeat (first | with_reducible exact Ext.rfl' _ | with_reducible assumption | with_reducible refine Ext.al ?_ _ | with_reducible refine Ext.dr ?_ | with_reducible refine Ext.st ?_ (by simp) _ | with_reducible refine Ext.tr ?_ (by assumption))), cells_six ?_, cells_six ?_, cells_three ?_, cells_three ?_, fun o => by simp [go_sem], fun o => by simp [go_sem], by simp⟩
    · refine ⟨?_, ?_, ?_, ?_, ?_, ?_⟩ <;> simp [World.cell?_alloc_past, World.cell?_alloc_new, go_sem]
    · refine ⟨?_, ?_, ?_, ?_, ?_, ?_⟩ <;> simp [World.cell?_alloc_past, go_sem]
    · refine ⟨?_, ?_, ?_⟩ <;> simp [World.cell?_alloc_past, go_sem]
    · refine ⟨?_, ?_, ?_⟩ <;> simp [go_sem]
  clear HW hE
  go_loopw [10, 11] (fun i _ wr => ∃ k q : Nat, k ≤ K ∧ Hid (q = f + k * t) ∧ i = .int .i64 q ∧ ChW w wr g h A B c d (sumC g.S g.L h.L f t k) (sumC g.S h.L g.L f t k) (sumU g.L h.L f t k)) (fun i _ _ => g.L.length - (intOf i).toNat)
  case atStart => exact ⟨0, f, Nat.zero_le _, Lib.hid (by simp), rfl, hW⟩
  case round =>
    clear hW
    obtain ⟨k, q, hk, hq, rfl, hW⟩ := hrel
    have hE := hW.ext
    have hz3 := hW.sz
    have hz2 : w.heap.size + 2 < wr.heap.size := by omega
    have hz1 : w.heap.size + 1 < wr.heap.size := by omega
    have hz0 : w.heap.size < wr.heap.size := by omega
    obtain ⟨g0, g1, g2, g3, g4, g5⟩ := hW.kg.six
    obtain ⟨h0, h1, h2, h3, h4, h5⟩ := hW.kh.six
    obtain ⟨o0, o1, o2⟩ := hW.ko.three
    have fo := hW.fo
    by_cases hkK : k < K
    · have hqn : q < g.L.length := by rw [hq.out]; exact HIN.out k hkK
      have hqm : q < h.L.length := by rw [← HN.out]; exact hqn
      obtain ⟨⟨b1, b2⟩, ⟨b3, b4⟩, b5, b6⟩ := HBD.out k hk
      have s1 : Hid (sumC g.S g.L h.L f t (k + 1) = sumC g.S g.L h.L f t k + cutAt g.S g.L h.L q) := Lib.hid (by rw [hq.out]; rfl)
      have s2 : Hid (sumC g.S h.L g.L f t (k + 1) = sumC g.S h.L g.L f t k + cutAt g.S h.L g.L q) := Lib.hid (by rw [hq.out]; rfl)
      have s3 : Hid (sumU g.L h.L f t (k + 1) = sumU g.L h.L f t k + unkAt g.L h.L q) := Lib.hid (by rw [hq.out]; rfl)
      have hq2 : Hid (q + t = f + (k + 1) * t) := Lib.hid (by rw [hq.out, Nat.succ_mul]; omega)
      have K1 := Lib.hid (fun w' (hw : Ext w w') => HKg.out q hqn w' hw)
      have K2 := Lib.hid (fun w' (hw : Ext w w') => HKh.out q hqm w' hw)
      have v1 := HGL.out q hqn
      have v2 := HHL.out q hqm
      have HW := Lib.hid hW
      unfold cutAt at s1 s2
      unfold unkAt at s3
      unfold knB at K1 K2
      obtain ⟨a, ha⟩ : ∃ a, gi g.L q = a := ⟨_, rfl⟩
      obtain ⟨b, hb'⟩ : ∃ b, gi h.L q = b := ⟨_, rfl⟩
      have ca : ∀ (A' : Option Addr), A = A' → ∃ bb oo, A' = some ⟨bb, oo, none⟩ ∧ bb < w.heap.size ∧ ∀ w', Ext w w' → w'.cell? ⟨bb, oo + q, none⟩ = some (.int .i64 a) := by
        intro A' e; subst e
        obtain ⟨bb, oo, e1, e2, e3⟩ := hA.p1 hqn
        exact ⟨bb, oo, e1, e2, fun w' hw => by rw [e3 w' hw, ← gi_lt, ha]⟩
      have cb : ∀ (A' : Option Addr), B = A' → ∃ bb oo, A' = some ⟨bb, oo, none⟩ ∧ bb < w.heap.size ∧ ∀ w', Ext w w' → w'.cell? ⟨bb, oo + q, none⟩ = some (.int .i64 b) := by
        intro A' e; subst e
        obtain ⟨bb, oo, e1, e2, e3⟩ := hB.p1 hqm
        exact ⟨bb, oo, e1, e2, fun w' hw => by rw [e3 w' hw, ← gi_lt, hb']⟩
      rw [ha, hb'] at s1 s2 s3
      rw [ha] at K1 v1
      rw [hb'] at K2 v2
      clear ha hb' hW
      generalize sumC g.S g.L h.L f t k = x at *
      generalize sumC g.S h.L g.L f t k = y at *
      generalize sumU g.L h.L f t k = z at *
      by_cases hu1 : a = 30000
      · rw [decide_eq_false (by simpa using hu1)] at K1
        have e1 : Hid (cutC g.S a b = 0) := Lib.hid (by unfold cutC; rw [if_pos (.inl hu1)])
        have e2 : Hid (cutC g.S b a = 0) := Lib.hid (by unfold cutC; rw [if_pos (.inr hu1)])
        have e3 : Hid (unkC a b = 1) := Lib.hid (by unfold unkC; rw [if_pos (.inl hu1)])
        clear hu1 ca cb v1 v2
        go_wp2_with (first | (go_at_call 84; with_reducible refine Calls.mono (K1.out _ (by (repeat (first | with_reducible exact Ext.rfl' _ | with_reducible assumption | with_reducible refine Ext.al ?_ _ | with_reducible refine Ext.dr ?_ | with_reducible refine Ext.st ?_ (by simp) _ | with_reducible refine Ext.tr ?_ (by assumption))))) ?_; rintro e w1 ⟨rfl, hb⟩; have hc := hb.ccell; have hf := hb.frz; have hs := hb.sz; (try simp at hs); (try have t0 := hs (w.heap.size) (by first | assumption | omega)); (try have t1 := hs (w.heap.size + 1) (by first | assumption | omega)); (try have t2 := hs (w.heap.size + 2) (by first | assumption | omega)); (try have t3 := hs (w.heap.size + 3) (by first | assumption | omega)); (try have t4 := hs (w.heap.size) (by first | assumption | omega)); (try have t5 := hs (w.heap.size) (by first | assumption | omega))))
        refine ⟨⟨k + 1, q + t, by omega, hq2, by go_num, ?_⟩, by simp [intOf]; omega⟩
        rw [s1.out, s2.out, s3.out, e1.out, e2.out, e3.out, Int.add_zero, Int.add_zero]
        exact (HW.out.next hb).store 2 _ _ _ _ (.inr (.inr ⟨rfl, rfl, rfl, rfl⟩))
      rw [decide_eq_true hu1] at K1
      by_cases hu2 : b = 30000
      · rw [decide_eq_false (by simpa using hu2)] at K2
        have e1 : Hid (cutC g.S a b = 0) := Lib.hid (by unfold cutC; rw [if_pos (.inr hu2)])
        have e2 : Hid (cutC g.S b a = 0) := Lib.hid (by unfold cutC; rw [if_pos (.inl hu2)])
        have e3 : Hid (unkC a b = 1) := Lib.hid (by unfold unkC; rw [if_pos (.inr hu2)])
        clear hu1 hu2 ca cb v1 v2
        go_wp2_with (first | (go_at_call 84; with_reducible refine Calls.mono (K1.out _ (by (repeat (first | with_reducible exact Ext.rfl' _ | with_reducible assumption | with_reducible refine Ext.al ?_ _ | with_reducible refine Ext.dr ?_ | with_reducible refine Ext.st ?_ (by simp) _ | with_reducible refine Ext.tr ?_ (by assumption))))) ?_; rintro e w1 ⟨rfl, hb⟩; have hc := hb.ccell; have hf := hb.frz; have hs := hb.sz; (try simp at hs); (try have t0 := hs (w.heap.size) (by first | assumption | omega)); (try have t1 := hs (w.heap.size + 1) (by first | assumption | omega)); (try have t2 := hs (w.heap.size + 2) (by first | assumption | omega)); (try have t3 := hs (w.heap.size + 3) (by first | assumption | omega)); (try have t4 := hs (w.heap.size) (by first | assumption | omega)); (try have t5 := hs (w.heap.size) (by first | assumption | omega))) | (go_at_call 84; with_reducible refine Calls.mono (K2.out _ (by (repeat (first | with_reducible exact Ext.rfl' _ | with_reducible assumption | with_reducible refine Ext.al ?_ _ | with_reducible refine Ext.dr ?_ | with_reducible refine Ext.st ?_ (by simp) _ | with_reducible refine Ext.tr ?_ (by assumption))))) ?_; rintro e w2 ⟨rfl, hb⟩; have hc := hb.ccell; have hf := hb.frz; have hs := hb.sz; (try simp at hs); (try have t0 := hs (w.heap.size) (by first | assumption | omega)); (try have t1 := hs (w.heap.size + 1) (by first | assumption | omega)); (try have t2 := hs (w.heap.size + 2) (by first | assumption | omega)); (try have t3 := hs (w.heap.size + 3) (by first | assumption | omega)); (try have t4 := hs (w.heap.size) (by first | assumption | omega)); (try have t5 := hs (w.heap.size) (by first | assumption | omega))))
        have hE2 : Ext wr w2 := by (repeat (first | with_reducible exact Ext.rfl' _ | with_reducible assumption | with_reducible refine Ext.al ?_ _ | with_reducible refine Ext.dr ?_ | with_reducible refine Ext.st ?_ (by simp) _ | with_reducible refine Ext.tr ?_ (by assumption)))
        refine ⟨⟨k + 1, q + t, by omega, hq2, by go_num, ?_⟩, by simp [intOf]; omega⟩
        rw [s1.out, s2.out, s3.out, e1.out, e2.out, e3.out, Int.add_zero, Int.add_zero]
        exact (HW.out.next hE2).store 2 _ _ _ _ (.inr (.inr ⟨rfl, rfl, rfl, rfl⟩))
      rw [decide_eq_true hu2] at K2
      have e3 : Hid (unkC a b = 0) := Lib.hid (by unfold unkC; rw [if_neg (by omega)])
      obtain ⟨u1, u2, u3, u4⟩ := vol_cut HS.out.1 HS.out.2 v1 v2 hu1 hu2
      obtain ⟨bb, oo, hA', hb0, hca⟩ := ca _ rfl
      subst hA'
      obtain ⟨bb2, oo2, hB', hb2, hcb⟩ := cb _ rfl
      subst hB'
      have HCA := Lib.hid hca
      have HCB := Lib.hid hcb
      obtain ⟨V, hV⟩ : ∃ V, g.S * g.S * (b - a) = V := ⟨_, rfl⟩
      rw [hV] at u1 u2 u3 u4
      obtain ⟨P, hP⟩ : ∃ P, g.S * g.S = P := ⟨_, rfl⟩
      have HAR := Lib.hid (fun w' => by have h := HAr.out w'; rw [hP] at h; exact h)
      rw [hP] at hV
      have wba : IntKind.i64.wrap (b - a) = b - a := IntWalk.i64_in _ (by omega)
      have wv : IntKind.i64.wrap (P * (b - a)) = V := by rw [hV]; exact IntWalk.i64_in _ (by omega)
      have U := Lib.hid (And.intro u1 u2)
      have hzb := hE.sz _ hb0
      have hzb2 := hE.sz _ hb2
      have e6 := hca _ hE
      have e7 := hcb _ hE
      have q0 : (0 : Int) ≤ q := by omega
      clear ca cb hca hcb v1 v2 hV hP hu1 hu2 u1 u2
      · go_wp2_with (first | (go_at_call 84; with_reducible refine Calls.mono (K1.out _ (by (repeat (first | with_reducible exact Ext.rfl' _ | with_reducible assumption | with_reducible refine Ext.al ?_ _ | with_reducible refine Ext.dr ?_ | with_reducible refine Ext.st ?_ (by simp) _ | with_reducible refine Ext.tr ?_ (by assumption))))) ?_; rintro e w1 ⟨rfl, hb⟩; have hc := hb.ccell; have hf := hb.frz; have hs := hb.sz; (try simp at hs); (try have t0 := hs (w.heap.size) (by first | assumption | omega)); (try have t1 := hs (w.heap.size + 1) (by first | assumption | omega)); (try have t2 := hs (w.heap.size + 2) (by first | assumption | omega)); (try have t3 := hs (w.heap.size + 3) (by first | assumption | omega)); (try have t4 := hs (bb) (by first | assumption | omega)); (try have t5 := hs (bb2) (by first | assumption | omega))) | (go_at_call 84; with_reducible refine Calls.mono (K2.out _ (by (repeat (first | with_reducible exact Ext.rfl' _ | with_reducible assumption | with_reducible refine Ext.al ?_ _ | with_reducible refine Ext.dr ?_ | with_reducible refine Ext.st ?_ (by simp) _ | with_reducible refine Ext.tr ?_ (by assumption))))) ?_; rintro e w2 ⟨rfl, hb⟩; have hc := hb.ccell; have hf := hb.frz; have hs := hb.sz; (try simp at hs); (try have t0 := hs (w.heap.size) (by first | assumption | omega)); (try have t1 := hs (w.heap.size + 1) (by first | assumption | omega)); (try have t2 := hs (w.heap.size + 2) (by first | assumption | omega)); (try have t3 := hs (w.heap.size + 3) (by first | assumption | omega)); (try have t4 := hs (bb) (by first | assumption | omega)); (try have t5 := hs (bb2) (by first | assumption | omega))))
        refine region_grow (by kernel_rfl) (by kernel_rfl) ?_
        repeat (first | go_big_quiet_step (first | (go_at_call 85; with_reducible exact callsGrow (HAR.out _)) | fail) | quiet_step (first | (go_at_call 85; with_reducible exact callsGrow (HAR.out _)) | fail))
        refine wpQuiet_nil ?_
        intro w1 hb
        have hc := hb.ccell
        have hf := hb.frz
        have hs := hb.sz
        (try simp at hs); (try have hs0 := hs w.heap.size (by omega)); (try have hs1 := hs (w.heap.size + 1) (by omega)); (try have hs2 := hs (w.heap.size + 1 + 1) (by omega)); (try have hs3 := hs (w.heap.size + 1 + 1 + 1) (by omega))
        (try simp only [IntWalk.i64_left])
        go_wp2
        refine ⟨⟨k + 1, q + t, by omega, hq2, by go_num, ?_⟩, by simp [intOf]; omega⟩
        rw [s1.out, s2.out, s3.out, U.out.1, U.out.2, e3.out, Int.add_zero]
        have hEx : Ext wr w1 := by (repeat (first | with_reducible exact Ext.rfl' _ | with_reducible assumption | with_reducible refine Ext.al ?_ _ | with_reducible refine Ext.dr ?_ | with_reducible refine Ext.st ?_ (by simp) _ | with_reducible refine Ext.tr ?_ (by assumption)))
        exact ((HW.out.next hEx).store 0 _ _ _ _ (.inl ⟨rfl, rfl, rfl, rfl⟩)).store 1 _ _ _ _ (.inr (.inl ⟨rfl, rfl, rfl, rfl⟩))
    · have hkK2 : k = K := by omega
      subst hkK2
      have hqn : ¬ q < g.L.length := by have := HOUT.out; rw [hq.out]; omega
      have hkr := hW.kr
      have hkE := hW.ext
      have fr := hW.fr
      obtain ⟨r0, r1, r2⟩ := hkr.three
      clear hW hq h0 h1 h2 h3 h4 h5 g0 g1 g2 g3 g4
      go_wp2
      have hSL := stL_at (w.heap.size + 2) [.int .i64 (sumC g.S g.L h.L f t k), .int .i64 (sumC g.S h.L g.L f t k), .int .i64 (sumU g.L h.L f t k)] _ 0 _ hkr rfl
      have hXL := stL_ext (w.heap.size + 2) (by first | omega | (simp; done) | (simp; omega)) [.int .i64 (sumC g.S g.L h.L f t k), .int .i64 (sumC g.S h.L g.L f t k), .int .i64 (sumU g.L h.L f t k)] 0 _ hkE
      show bodyPost _ _ _ _ _ (stL (wr) (w.heap.size + 2) 0 [.int .i64 (sumC g.S g.L h.L f t k), .int .i64 (sumC g.S h.L g.L f t k), .int .i64 (sumU g.L h.L f t k)])
      generalize stL (wr) (w.heap.size + 2) 0 [.int .i64 (sumC g.S g.L h.L f t k), .int .i64 (sumC g.S h.L g.L f t k), .int .i64 (sumU g.L h.L f t k)] = WL at hSL hXL ⊢
      obtain ⟨s0, s1, s2⟩ := hSL.three
      refine bodyPost_ret (v := .agg #[.int .i64 (sumC g.S g.L h.L f t k), .int .i64 (sumC g.S h.L g.L f t k), .int .i64 (sumU g.L h.L f t k)]) (by simp [results, Tryz.results65, go_sem, s0, s1, s2]) rfl ⟨rfl, hXL⟩

/-- The change over all cells. -/
def allC (g h : Gr) : Int := sumN (cutAt g.S g.L h.L) g.L.length
def allU (g h : Gr) : Int := sumN (unkAt g.L h.L) g.L.length
theorem sumC_all (s : Int) (l m : List Int) (n : Nat) : sumC s l m 0 1 n = sumN (cutAt s l m) n := by
  unfold sumC
  exact sumN_congr n (fun i _ => by rw [Nat.mul_one, Nat.zero_add])
theorem sumU_all (l m : List Int) (n : Nat) : sumU l m 0 1 n = sumN (unkAt l m) n := by
  unfold sumU
  exact sumN_congr n (fun i _ => by rw [Nat.mul_one, Nat.zero_add])
theorem over_all_c (g h : Gr) (w : World) (A B : Option Addr) (c d : Nat) (vg : VG g) (vh : VG h) (hS : g.S = h.S) (hn : g.L.length = h.L.length) (hA : Row 1 encZ w A g.L) (hB : Row 1 encZ w B h.L) :
    Calls Tryz.prog 65 #[.agg #[.int .i64 g.X, .int .i64 g.Y, .int .i64 g.S, .int .i64 g.C, .int .i64 g.R, .slice A g.L.length c], .agg #[.int .i64 h.X, .int .i64 h.Y, .int .i64 h.S, .int .i64 h.C, .int .i64 h.R, .slice B h.L.length d], .int .i64 0, .int .i64 1] w
      fun e w' => e = .returned (.agg #[.int .i64 (allC g h), .int .i64 (allC h g), .int .i64 (allU g h)]) ∧ Ext w w' := by
  have h1 := vg.len
  have h2 := vg.hn
  have h3 := vg.hs
  have hl1 : g.L.length ≤ 2000 := by omega
  have hI : ∀ k, k < g.L.length → 0 + k * 1 < g.L.length := fun k hk => by omega
  have hO : g.L.length ≤ 0 + g.L.length * 1 := by omega
  have H := changeOver_c g h 0 1 g.L.length w A B c d (by omega) h3.2 vg.lev vh.lev hn hl1 (by decide) (by decide) (by decide) hl1 hI hO hA hB
  rw [sumC_all, sumC_all, sumU_all] at H
  have e1 : allC h g = sumN (cutAt g.S h.L g.L) g.L.length := by unfold allC; rw [← hS, ← hn]
  rw [e1]
  rw [show ((0 : Nat) : Int) = 0 from rfl, show ((1 : Nat) : Int) = 1 from rfl] at H
  exact H
def chV (e : Int) (g h : Gr) : Value := if e = 0 then .agg #[.int .i64 (allC g h), .int .i64 (allC h g), .int .i64 (allU g h)] else .agg #[.int .i64 0, .int .i64 0, .int .i64 0]
set_option maxHeartbeats 4000000 in
theorem compare_c (g h : Gr) (w : World) (A B : Option Addr) (c d : Nat) (hl : g.L.length ≤ maxLen) (hm : h.L.length ≤ maxLen) (hA : Row 1 encZ w A g.L) (hB : Row 1 encZ w B h.L) :
    Calls Tryz.prog 40 #[.agg #[.int .i64 g.X, .int .i64 g.Y, .int .i64 g.S, .int .i64 g.C, .int .i64 g.R, .slice A g.L.length c], .agg #[.int .i64 h.X, .int .i64 h.Y, .int .i64 h.S, .int .i64 h.C, .int .i64 h.R, .slice B h.L.length d]] w
      fun e w' => e = .returned (.tuple #[chV (twoE g h) g h, .int .i64 (twoE g h)]) ∧ Ext w w' := by
  have H1 := Lib.hid (fun w' (hw : Ext w w') => checkTwo_c g h w' A B c d hl hm (hA.ext hw) (hB.ext hw))
  unfold chV
  by_cases h0 : twoE g h = 0
  · obtain ⟨vg, vh, hs, hn⟩ := twoE_ok h0
    have H2 := Lib.hid (fun w' (hw : Ext w w') => over_all_c g h w' A B c d vg vh hs.2.2.1 hn (hA.ext hw) (hB.ext hw))
    rw [h0] at H1 ⊢
    rw [if_pos rfl]
    generalize allC g h = x at *
    generalize allC h g = y at *
    generalize allU g h = z at *
    clear vg vh hs hn h0
    go_enter Tryz.func40, Tryz.ntmps40
    go_wp2_with (first | (go_at_call 64; with_reducible refine Calls.mono (H1.out _ (by (repeat (first | with_reducible exact Ext.rfl' _ | with_reducible assumption | with_reducible refine Ext.al ?_ _ | with_reducible refine Ext.dr ?_ | with_reducible refine Ext.st ?_ (by simp) _ | with_reducible refine Ext.tr ?_ (by assumption))))) ?_; rintro e w1 ⟨rfl, hb⟩; have hc := hb.ccell; have hf := hb.frz; have hs := hb.sz; (try simp at hs); (try have t0 := hs (w.heap.size) (by first | assumption | omega)); (try have t1 := hs (w.heap.size + 1) (by first | assumption | omega)); (try have t2 := hs (w.heap.size + 2) (by first | assumption | omega)); (try have t3 := hs (w.heap.size) (by first | assumption | omega)); (try have t4 := hs (w.heap.size) (by first | assumption | omega)); (try have t5 := hs (w.heap.size) (by first | assumption | omega))) | (go_at_call 65; with_reducible refine Calls.mono (H2.out _ (by (repeat (first | with_reducible exact Ext.rfl' _ | with_reducible assumption | with_reducible refine Ext.al ?_ _ | with_reducible refine Ext.dr ?_ | with_reducible refine Ext.st ?_ (by simp) _ | with_reducible refine Ext.tr ?_ (by assumption))))) ?_; rintro e w2 ⟨rfl, hb⟩; have hc := hb.ccell; have hf := hb.frz; have hs := hb.sz; (try simp at hs); (try have t0 := hs (w.heap.size) (by first | assumption | omega)); (try have t1 := hs (w.heap.size + 1) (by first | assumption | omega)); (try have t2 := hs (w.heap.size + 2) (by first | assumption | omega)); (try have t3 := hs (w.heap.size) (by first | assumption | omega)); (try have t4 := hs (w.heap.size) (by first | assumption | omega)); (try have t5 := hs (w.heap.size) (by first | assumption | omega))))
    have hE2 : Ext w w2 := by (repeat (first | with_reducible exact Ext.rfl' _ | with_reducible assumption | with_reducible refine Ext.al ?_ _ | with_reducible refine Ext.dr ?_ | with_reducible refine Ext.st ?_ (by simp) _ | with_reducible refine Ext.tr ?_ (by assumption)))
    have kz : CellsAt w2 (w.heap.size + 2) 0 [.int .i64 0, .int .i64 0, .int .i64 0] := by refine cells_three ⟨?_, ?_, ?_⟩ <;> simp [*, go_sem]
    have hSL := stL_at (w.heap.size + 2) [.int .i64 x, .int .i64 y, .int .i64 z] _ 0 _ kz rfl
    have hXL := stL_ext (w.heap.size + 2) (by first | omega | (simp; done) | (simp; omega)) [.int .i64 x, .int .i64 y, .int .i64 z] 0 _ hE2
    show bodyPost _ _ _ _ _ (stL (w2) (w.heap.size + 2) 0 [.int .i64 x, .int .i64 y, .int .i64 z])
    generalize stL (w2) (w.heap.size + 2) 0 [.int .i64 x, .int .i64 y, .int .i64 z] = WL at hSL hXL ⊢
    obtain ⟨s0, s1, s2⟩ := hSL.three
    refine bodyPost_ret (v := .tuple #[.agg #[.int .i64 x, .int .i64 y, .int .i64 z], .int .i64 0]) (by simp [results, Tryz.results40, go_sem, s0, s1, s2]) rfl ⟨rfl, hXL⟩
  · have h0' : (twoE g h != 0) = true := by rw [bne_iff_ne]; exact h0
    rw [if_neg h0]
    generalize twoE g h = E at *
    clear h0
    go_enter Tryz.func40, Tryz.ntmps40
    go_wp2_with (first | (go_at_call 64; with_reducible refine Calls.mono (H1.out _ (by (repeat (first | with_reducible exact Ext.rfl' _ | with_reducible assumption | with_reducible refine Ext.al ?_ _ | with_reducible refine Ext.dr ?_ | with_reducible refine Ext.st ?_ (by simp) _ | with_reducible refine Ext.tr ?_ (by assumption))))) ?_; rintro e w1 ⟨rfl, hb⟩; have hc := hb.ccell; have hf := hb.frz; have hs := hb.sz; (try simp at hs); (try have t0 := hs (w.heap.size) (by first | assumption | omega)); (try have t1 := hs (w.heap.size + 1) (by first | assumption | omega)); (try have t2 := hs (w.heap.size + 2) (by first | assumption | omega)); (try have t3 := hs (w.heap.size) (by first | assumption | omega)); (try have t4 := hs (w.heap.size) (by first | assumption | omega)); (try have t5 := hs (w.heap.size) (by first | assumption | omega))))
    have hE2 : Ext w w1 := by (repeat (first | with_reducible exact Ext.rfl' _ | with_reducible assumption | with_reducible refine Ext.al ?_ _ | with_reducible refine Ext.dr ?_ | with_reducible refine Ext.st ?_ (by simp) _ | with_reducible refine Ext.tr ?_ (by assumption)))
    have kz : CellsAt w1 (w.heap.size + 2) 0 [.int .i64 0, .int .i64 0, .int .i64 0] := by refine cells_three ⟨?_, ?_, ?_⟩ <;> simp [*, go_sem]
    have hSL := stL_at (w.heap.size + 2) [.int .i64 0, .int .i64 0, .int .i64 0] _ 0 _ kz rfl
    have hXL := stL_ext (w.heap.size + 2) (by first | omega | (simp; done) | (simp; omega)) [.int .i64 0, .int .i64 0, .int .i64 0] 0 _ hE2
    show bodyPost _ _ _ _ _ (stL (w1) (w.heap.size + 2) 0 [.int .i64 0, .int .i64 0, .int .i64 0])
    generalize stL (w1) (w.heap.size + 2) 0 [.int .i64 0, .int .i64 0, .int .i64 0] = WL at hSL hXL ⊢
    obtain ⟨s0, s1, s2⟩ := hSL.three
    refine bodyPost_ret (v := .tuple #[.agg #[.int .i64 0, .int .i64 0, .int .i64 0], .int .i64 E]) (by simp [results, Tryz.results40, go_sem, s0, s1, s2]) rfl ⟨rfl, hXL⟩
end Go.Proofs.YtdbabihjnhnnfaaGreat
