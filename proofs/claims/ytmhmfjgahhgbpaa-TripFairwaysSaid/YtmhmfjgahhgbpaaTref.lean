/- Contracts of the reference's Mean and At. -/
import Derived.Test.YtmhmfjgahhgbpaaTat
namespace Go.Proofs.Ytmhmfjgahhgbpaa
open Go Go.RowKit Go.IntWalk

def rN (l : List Pt) (t : Int) (i : Nat) : Int := if mOk l t i then mN l t i else 0
def rD (l : List Pt) (t : Int) (i : Nat) : Int := if mOk l t i then mD l t i else 1
set_option maxHeartbeats 4000000 in
theorem rmean_c (s : ByteArray) (x er : Int) (l : List Pt) (t : Int) (i : Nat) (w : World) (A : Option Addr) (c : Nat) (hG : Good l) (ht : 0 ≤ t ∧ t ≤ 1000000) (hA : Row 2 encP w A l) (hp : PosAt l t i) :
    Calls Try.prog 64 #[.agg #[.string s, .int .i64 x, .int .i64 er, .slice A l.length c], .int .i64 t] w
      fun e w' => e = .returned (.tuple #[.int .i64 (rN l t i), .int .i64 (rD l t i), .bool (mOk l t i)]) ∧ Ext w w' := by
  have hl : l.length ≤ 1000 := by have := hG.len; omega
  obtain ⟨N, hN⟩ : ∃ N, rN l t i = N := ⟨_, rfl⟩
  obtain ⟨D, hD⟩ : ∃ D, rD l t i = D := ⟨_, rfl⟩
  obtain ⟨K, hK⟩ : ∃ K, mOk l t i = K := ⟨_, rfl⟩
  rw [hN, hD, hK]
  have HN := Lib.hid hN
  have HD := Lib.hid hD
  have HK := Lib.hid hK
  have HP := Lib.hid hp
  have HG := Lib.hid hG
  have hi := hp.1
  clear hN hD hK hp hG
  go_enter Try.func64, Try.ntmps64
  go_wp2
  have hEp : Ext w (w.alloc (.cells #[.string s, .int .i64 x, .int .i64 er, .slice A l.length c] 85)) := by (repeat (first | with_reducible exact Ext.rfl' _ | with_reducible assumption | with_reducible refine Ext.al ?_ _ | with_reducible refine Ext.dr ?_ | with_reducible refine Ext.st ?_ (by simp) _ | with_reducible refine Ext.tr ?_ (by assumption)))
  have k3 : (w.alloc (.cells #[.string s, .int .i64 x, .int .i64 er, .slice A l.length c] 85)).cell? ⟨w.heap.size, 3, none⟩ = some (.slice A l.length c) := by simp [World.cell?_alloc_new, go_sem]
  have zp : w.heap.size < (w.alloc (.cells #[.string s, .int .i64 x, .int .i64 er, .slice A l.length c] 85)).heap.size := by simp
  generalize w.alloc (.cells #[.string s, .int .i64 x, .int .i64 er, .slice A l.length c] 85) = wp at *
  go_loopw [7, 8] (fun v _ wr => Ext wp wr ∧ ∃ k : Nat, k ≤ i ∧ v = .int .i64 k) (fun v _ _ => i - (intOf v).toNat)
  case atStart => exact ⟨Ext.rfl' _, 0, Nat.zero_le _, rfl⟩
  case round =>
    obtain ⟨hr, k, hk, rfl⟩ := hrel
    have hE : Ext w wr := hEp.tr hr
    have e3 := (hr.ccell _ 3 zp).trans k3
    have hzp := hr.sz _ zp
    by_cases hlt : k < l.length
    · obtain ⟨b, off, rfl, hb0, hcell⟩ := hA.p2 hlt
      have c := hcell _ hE
      clear hcell
      have hz := hE.sz _ hb0
      have gk := gt_lt l k hlt
      by_cases hki : k < i
      · have hx : l[k].x < t := by have := HP.out.2.1 k hki; rwa [gk] at this
        have hx1 : (l[k].x == t) = false := by rw [beq_eq_false_iff_ne]; omega
        have hx2 : ¬ t < l[k].x := by omega
        go_wp2
        exact ⟨⟨by (repeat (first | with_reducible exact Ext.rfl' _ | with_reducible assumption | with_reducible refine Ext.al ?_ _ | with_reducible refine Ext.dr ?_ | with_reducible refine Ext.st ?_ (by simp) _ | with_reducible refine Ext.tr ?_ (by assumption))), k + 1, by omega, by go_num⟩, by simp [intOf]; omega⟩
      · have hke : k = i := by omega
        subst hke
        have hge : t ≤ l[k].x := by have := HP.out.2.2 k (Nat.le_refl _) hlt; rwa [gk] at this
        by_cases hxt : l[k].x = t
        · have hf : foundB l t k = true := by unfold foundB; rw [decide_eq_true hlt, gk, decide_eq_true hxt]; rfl
          have ho : mOk l t k = true := by unfold mOk; rw [hf]; rfl
          have f1 : rN l t k = l[k].y := by unfold rN mN; rw [ho, hf, gk]; rfl
          have f2 : rD l t k = 1 := by unfold rD mD; rw [ho, hf]; rfl
          have F := Lib.hid (And.intro ho (And.intro f1 f2))
          clear hf ho f1 f2 gk
          have hx1 : (l[k].x == t) = true := by rw [beq_iff_eq]; exact hxt
          have HX := Lib.hid hxt
          clear hxt hge
          go_wp2
          refine bodyPost_ret (v := (.tuple #[.int .i64 l[k].y, .int .i64 1, .bool true])) (by simp [results, Try.results64, go_sem]) rfl ⟨?_, ?_⟩
          · rw [← HN.out, ← HD.out, ← HK.out, F.out.1, F.out.2.1, F.out.2.2]
          · (repeat (first | with_reducible exact Ext.rfl' _ | with_reducible assumption | with_reducible refine Ext.al ?_ _ | with_reducible refine Ext.dr ?_ | with_reducible refine Ext.st ?_ (by simp) _ | with_reducible refine Ext.tr ?_ (by assumption)))
        · have hf : foundB l t k = false := by unfold foundB; rw [gk, decide_eq_false hxt, Bool.and_false]
          have hx1 : (l[k].x == t) = false := by rw [beq_eq_false_iff_ne]; omega
          have hx2 : t < l[k].x := by omega
          clear hxt hge
          rcases (by omega : (k : Int) ≤ 0 ∨ 0 < (k : Int)) with k0 | k0
          · have ho : mOk l t k = false := by unfold mOk; rw [hf, decide_eq_false (show ¬ 0 < k by omega)]; rfl
            have f1 : rN l t k = 0 := by unfold rN; rw [ho]; rfl
            have f2 : rD l t k = 1 := by unfold rD; rw [ho]; rfl
            have F := Lib.hid (And.intro ho (And.intro f1 f2))
            have e0 : ((k : Int) == 0) = true := by rw [beq_iff_eq]; omega
            clear hf ho f1 f2 gk
            go_wp2
            refine bodyPost_ret (v := (.tuple #[.int .i64 0, .int .i64 1, .bool false])) (by simp [results, Try.results64, go_sem]) rfl ⟨?_, ?_⟩
            · rw [← HN.out, ← HD.out, ← HK.out, F.out.1, F.out.2.1, F.out.2.2]
            · (repeat (first | with_reducible exact Ext.rfl' _ | with_reducible assumption | with_reducible refine Ext.al ?_ _ | with_reducible refine Ext.dr ?_ | with_reducible refine Ext.st ?_ (by simp) _ | with_reducible refine Ext.tr ?_ (by assumption)))
          · obtain ⟨j, hj⟩ : ∃ j, k = j + 1 := ⟨k - 1, by omega⟩
            have hjl : j < l.length := by omega
            have gj := gt_lt l j hjl
            have oi := (okM_iff _).1 (HG.out.ok k hlt)
            have oj := (okM_iff _).1 (HG.out.ok j hjl)
            have hasc := HG.out.asc j (by omega)
            rw [← hj] at hasc
            rw [gk] at oi hasc
            rw [gj] at oj hasc
            have hjt : l[j].x < t := by have := HP.out.2.1 j (by omega); rwa [gj] at this
            have ho : mOk l t k = true := by unfold mOk; rw [hf, decide_eq_true (show 0 < k by omega), decide_eq_true hlt]; rfl
            have f1 : rN l t k = l[j].y * (l[k].x - l[j].x) + (l[k].y - l[j].y) * (t - l[j].x) := by
              unfold rN mN; rw [ho, hf, show k - 1 = j by omega, gk, gj]; unfold sumZ; simp only [Bool.false_eq_true, if_true, if_false]; grind
            have f2 : rD l t k = l[k].x - l[j].x := by unfold rD mD; rw [ho, hf, show k - 1 = j by omega, gk, gj]; rfl
            have F := Lib.hid (And.intro ho (And.intro f1 f2))
            have cj := hA.r2 hjl _ hE
            have e0 : ((k : Int) == 0) = false := by rw [beq_eq_false_iff_ne]; omega
            have hjz : (k : Int) - 1 = (j : Int) := by omega
            have b1 := mul_bound (x := l[j].y) (y := l[k].x - l[j].x) (M := 20000) (N := 1000000) (by omega) (by omega) (by omega) (by omega)
            have b2 := mul_bound (x := l[k].y - l[j].y) (y := t - l[j].x) (M := 40000) (N := 1000000) (by omega) (by omega) (by omega) (by omega)
            obtain ⟨⟨x0, x1⟩, x2, x3⟩ := oi
            obtain ⟨⟨y0, y1⟩, y2, y3⟩ := oj
            obtain ⟨u0, u1⟩ := b1
            obtain ⟨u2, u3⟩ := b2
            have HJ := Lib.hid hj
            clear hf ho f1 f2 gk gj hj
            go_wp2
            refine bodyPost_ret (v := (.tuple #[.int .i64 (l[j].y * (l[k].x - l[j].x) + (l[k].y - l[j].y) * (t - l[j].x)), .int .i64 (l[k].x - l[j].x), .bool true])) (by simp [results, Try.results64, go_sem]) rfl ⟨?_, ?_⟩
            · rw [← HN.out, ← HD.out, ← HK.out, F.out.1, F.out.2.1, F.out.2.2]
            · (repeat (first | with_reducible exact Ext.rfl' _ | with_reducible assumption | with_reducible refine Ext.al ?_ _ | with_reducible refine Ext.dr ?_ | with_reducible refine Ext.st ?_ (by simp) _ | with_reducible refine Ext.tr ?_ (by assumption)))
    · have hke : k = l.length := by omega
      have hie : i = l.length := by omega
      have hf : foundB l t i = false := by unfold foundB; rw [decide_eq_false (by omega)]; rfl
      have ho : mOk l t i = false := by unfold mOk; rw [hf, decide_eq_false (show ¬ i < l.length by omega), Bool.and_false]; rfl
      have f1 : rN l t i = 0 := by unfold rN; rw [ho]; rfl
      have f2 : rD l t i = 1 := by unfold rD; rw [ho]; rfl
      have F := Lib.hid (And.intro ho (And.intro f1 f2))
      clear hf ho f1 f2 hke hie
      go_wp2
      refine bodyPost_ret (v := (.tuple #[.int .i64 0, .int .i64 1, .bool false])) (by simp [results, Try.results64, go_sem]) rfl ⟨?_, ?_⟩
      · rw [← HN.out, ← HD.out, ← HK.out, F.out.1, F.out.2.1, F.out.2.2]
      · (repeat (first | with_reducible exact Ext.rfl' _ | with_reducible assumption | with_reducible refine Ext.al ?_ _ | with_reducible refine Ext.dr ?_ | with_reducible refine Ext.st ?_ (by simp) _ | with_reducible refine Ext.tr ?_ (by assumption)))

end Go.Proofs.Ytmhmfjgahhgbpaa
