/- Contracts of Level and of the reference's Near. -/
import Derived.Test.YtgnakeemcccfjaaBplac2
namespace Go.Proofs.Ytgnakeemcccfjaa
open Go Go.RowKit Go.IntWalk

set_option maxHeartbeats 4000000 in
theorem level_err_c (g : Gr) (x y : Int) (w : World) (A : Option Addr) (c : Nat) (hl : g.L.length ≤ maxLen) (hA : Row 1 encZ w A g.L) (h0 : chkG g ≠ 0) :
    Calls Try.prog 27 #[.agg #[.int .i64 g.X, .int .i64 g.Y, .int .i64 g.S, .int .i64 g.C, .int .i64 g.R, .slice A g.L.length c], .agg #[.int .i64 x, .int .i64 y]] w fun e w' => e = .returned (.tuple #[.int .i64 0, .int .i64 (chkG g)]) ∧ Ext w w' := by
  have HC := Lib.hid (fun w' (hw : Ext w w') => by have h := cell_c g x y w' A c hl (hA.ext hw); rw [if_pos h0] at h; exact h)
  have h0' : (chkG g != 0) = true := by simp [h0]
  clear h0
  generalize chkG g = E at *
  go_enter Try.func27, Try.ntmps27
  go_wp2_with (first | (go_at_call 24; with_reducible refine Calls.mono (HC.out _ (by (repeat (first | with_reducible exact Ext.rfl' _ | with_reducible assumption | with_reducible refine Ext.al ?_ _ | with_reducible refine Ext.dr ?_ | with_reducible refine Ext.st ?_ (by simp) _ | with_reducible refine Ext.tr ?_ (by assumption))))) ?_; rintro e w1 ⟨rfl, hb⟩; have hc := hb.ccell; have hf := hb.frz; have hs := hb.sz; (try simp at hs); (try have hs0 := hs w.heap.size (by omega)); (try have hs1 := hs (w.heap.size + 1) (by omega)); (try have hs2 := hs (w.heap.size + 1 + 1) (by omega)); (try have hs3 := hs (w.heap.size + 1 + 1 + 1) (by omega))))
  exact bodyPost_ret (v := .tuple #[.int .i64 0, .int .i64 E]) (by simp [results, Try.results27, go_sem]) rfl ⟨rfl, by (repeat (first | with_reducible exact Ext.rfl' _ | with_reducible assumption | with_reducible refine Ext.al ?_ _ | with_reducible refine Ext.dr ?_ | with_reducible refine Ext.st ?_ (by simp) _ | with_reducible refine Ext.tr ?_ (by assumption)))⟩
set_option maxHeartbeats 4000000 in
theorem level_out_c (g : Gr) (x y : Int) (w : World) (A : Option Addr) (c : Nat) (hl : g.L.length ≤ maxLen) (hA : Row 1 encZ w A g.L) (h0 : chkG g = 0) (hb : inB g x y = false) :
    Calls Try.prog 27 #[.agg #[.int .i64 g.X, .int .i64 g.Y, .int .i64 g.S, .int .i64 g.C, .int .i64 g.R, .slice A g.L.length c], .agg #[.int .i64 x, .int .i64 y]] w fun e w' => e = .returned (.tuple #[.int .i64 0, .int .i64 11]) ∧ Ext w w' := by
  have HC := Lib.hid (fun w' (hw : Ext w w') => by have h := cell_c g x y w' A c hl (hA.ext hw); rw [if_neg (by omega), if_neg (by rw [hb]; decide)] at h; exact h)
  clear h0 hb
  go_enter Try.func27, Try.ntmps27
  go_wp2_with (first | (go_at_call 24; with_reducible refine Calls.mono (HC.out _ (by (repeat (first | with_reducible exact Ext.rfl' _ | with_reducible assumption | with_reducible refine Ext.al ?_ _ | with_reducible refine Ext.dr ?_ | with_reducible refine Ext.st ?_ (by simp) _ | with_reducible refine Ext.tr ?_ (by assumption))))) ?_; rintro e w1 ⟨rfl, hb⟩; have hc := hb.ccell; have hf := hb.frz; have hs := hb.sz; (try simp at hs); (try have hs0 := hs w.heap.size (by omega)); (try have hs1 := hs (w.heap.size + 1) (by omega)); (try have hs2 := hs (w.heap.size + 1 + 1) (by omega)); (try have hs3 := hs (w.heap.size + 1 + 1 + 1) (by omega))))
  exact bodyPost_ret (v := .tuple #[.int .i64 0, .int .i64 11]) (by simp [results, Try.results27, go_sem]) rfl ⟨rfl, by (repeat (first | with_reducible exact Ext.rfl' _ | with_reducible assumption | with_reducible refine Ext.al ?_ _ | with_reducible refine Ext.dr ?_ | with_reducible refine Ext.st ?_ (by simp) _ | with_reducible refine Ext.tr ?_ (by assumption)))⟩
set_option maxHeartbeats 4000000 in
theorem level_in_c (g : Gr) (x y : Int) (i : Nat) (w : World) (A : Option Addr) (c : Nat) (hl : g.L.length ≤ maxLen) (hA : Row 1 encZ w A g.L) (h0 : chkG g = 0) (hb : inB g x y = true) (hi : cIdx g x y = i) (hil : i < g.L.length) :
    Calls Try.prog 27 #[.agg #[.int .i64 g.X, .int .i64 g.Y, .int .i64 g.S, .int .i64 g.C, .int .i64 g.R, .slice A g.L.length c], .agg #[.int .i64 x, .int .i64 y]] w fun e w' => e = .returned (.tuple #[.int .i64 (if gi g.L i = 30000 then 0 else gi g.L i), .int .i64 (if gi g.L i = 30000 then 12 else 0)]) ∧ Ext w w' := by
  have HC := Lib.hid (fun w' (hw : Ext w w') => by have h := cell_c g x y w' A c hl (hA.ext hw); rw [if_neg (by omega), if_pos hb, hi] at h; exact h)
  have HK := Lib.hid (fun w' (hw : Ext w w') => isKnown_c g i w' A c hil hl (hA.ext hw))
  unfold maxLen at hl
  obtain ⟨b, off, rfl, hb0, hcell⟩ := hA.p1 hil
  have c1 := hcell _ (Ext.rfl' w)
  rw [← gi_lt] at c1
  unfold knB at HK
  have z1 : b < w.heap.size + 1 := by omega
  have z2 : b < w.heap.size + 1 + 1 := by omega
  clear h0 hb hi hcell hA
  generalize gi g.L i = a at *
  have hi0 : (0 : Int) ≤ i := by omega
  by_cases hu : a = 30000
  · rw [if_pos hu, if_pos hu]
    rw [decide_eq_false (by simpa using hu)] at HK
    clear hu
    go_enter Try.func27, Try.ntmps27
    go_wp2_with (first | (go_at_call 24; with_reducible refine Calls.mono (HC.out _ (by (repeat (first | with_reducible exact Ext.rfl' _ | with_reducible assumption | with_reducible refine Ext.al ?_ _ | with_reducible refine Ext.dr ?_ | with_reducible refine Ext.st ?_ (by simp) _ | with_reducible refine Ext.tr ?_ (by assumption))))) ?_; rintro e w1 ⟨rfl, hb⟩; have hc := hb.ccell; have hf := hb.frz; have hs := hb.sz; (try simp at hs); (try have t0 := hs (w.heap.size) (by first | assumption | omega)); (try have t1 := hs (w.heap.size + 1) (by first | assumption | omega)); (try have t2 := hs (b) (by first | assumption | omega)); (try have t3 := hs (w.heap.size) (by first | assumption | omega)); (try have t4 := hs (w.heap.size) (by first | assumption | omega)); (try have t5 := hs (w.heap.size) (by first | assumption | omega))) | (go_at_call 79; with_reducible refine Calls.mono (HK.out _ (by (repeat (first | with_reducible exact Ext.rfl' _ | with_reducible assumption | with_reducible refine Ext.al ?_ _ | with_reducible refine Ext.dr ?_ | with_reducible refine Ext.st ?_ (by simp) _ | with_reducible refine Ext.tr ?_ (by assumption))))) ?_; rintro e w2 ⟨rfl, hb⟩; have hc := hb.ccell; have hf := hb.frz; have hs := hb.sz; (try simp at hs); (try have t0 := hs (w.heap.size) (by first | assumption | omega)); (try have t1 := hs (w.heap.size + 1) (by first | assumption | omega)); (try have t2 := hs (b) (by first | assumption | omega)); (try have t3 := hs (w.heap.size) (by first | assumption | omega)); (try have t4 := hs (w.heap.size) (by first | assumption | omega)); (try have t5 := hs (w.heap.size) (by first | assumption | omega))))
    exact bodyPost_ret (v := .tuple #[.int .i64 0, .int .i64 12]) (by simp [results, Try.results27, go_sem]) rfl ⟨rfl, by (repeat (first | with_reducible exact Ext.rfl' _ | with_reducible assumption | with_reducible refine Ext.al ?_ _ | with_reducible refine Ext.dr ?_ | with_reducible refine Ext.st ?_ (by simp) _ | with_reducible refine Ext.tr ?_ (by assumption)))⟩
  · rw [if_neg hu, if_neg hu]
    rw [decide_eq_true hu] at HK
    clear hu
    go_enter Try.func27, Try.ntmps27
    go_wp2_with (first | (go_at_call 24; with_reducible refine Calls.mono (HC.out _ (by (repeat (first | with_reducible exact Ext.rfl' _ | with_reducible assumption | with_reducible refine Ext.al ?_ _ | with_reducible refine Ext.dr ?_ | with_reducible refine Ext.st ?_ (by simp) _ | with_reducible refine Ext.tr ?_ (by assumption))))) ?_; rintro e w1 ⟨rfl, hb⟩; have hc := hb.ccell; have hf := hb.frz; have hs := hb.sz; (try simp at hs); (try have t0 := hs (w.heap.size) (by first | assumption | omega)); (try have t1 := hs (w.heap.size + 1) (by first | assumption | omega)); (try have t2 := hs (b) (by first | assumption | omega)); (try have t3 := hs (w.heap.size) (by first | assumption | omega)); (try have t4 := hs (w.heap.size) (by first | assumption | omega)); (try have t5 := hs (w.heap.size) (by first | assumption | omega))) | (go_at_call 79; with_reducible refine Calls.mono (HK.out _ (by (repeat (first | with_reducible exact Ext.rfl' _ | with_reducible assumption | with_reducible refine Ext.al ?_ _ | with_reducible refine Ext.dr ?_ | with_reducible refine Ext.st ?_ (by simp) _ | with_reducible refine Ext.tr ?_ (by assumption))))) ?_; rintro e w2 ⟨rfl, hb⟩; have hc := hb.ccell; have hf := hb.frz; have hs := hb.sz; (try simp at hs); (try have t0 := hs (w.heap.size) (by first | assumption | omega)); (try have t1 := hs (w.heap.size + 1) (by first | assumption | omega)); (try have t2 := hs (b) (by first | assumption | omega)); (try have t3 := hs (w.heap.size) (by first | assumption | omega)); (try have t4 := hs (w.heap.size) (by first | assumption | omega)); (try have t5 := hs (w.heap.size) (by first | assumption | omega))))
    exact bodyPost_ret (v := .tuple #[.int .i64 a, .int .i64 0]) (by simp [results, Try.results27, go_sem]) rfl ⟨rfl, by (repeat (first | with_reducible exact Ext.rfl' _ | with_reducible assumption | with_reducible refine Ext.al ?_ _ | with_reducible refine Ext.dr ?_ | with_reducible refine Ext.st ?_ (by simp) _ | with_reducible refine Ext.tr ?_ (by assumption)))⟩
set_option maxHeartbeats 4000000 in
theorem rnear_c (g : Gr) (cn i : Nat) (w : World) (A : Option Addr) (c : Nat) (hC : g.C = cn) (h0 : 0 < cn) (h1 : cn ≤ 1024) (hi : i ≤ 2000) (hl : g.L.length ≤ 2000) :
    Calls Try.prog 32 #[.agg #[.int .i64 g.X, .int .i64 g.Y, .int .i64 g.S, .int .i64 g.C, .int .i64 g.R, .slice A g.L.length c], .int .i64 i] w fun e w' => OutZN w.heap.size (chs (nbB cn i) g.L.length) e w' ∧ Ext w w' := by
  have HN := Lib.hid (fun (k : Nat) (hk : k ≤ 2000) w' => neigh_c g cn i k w' A c hC h0 h1 hi hk)
  obtain ⟨i0, hi0, hzi0, hzi1, hzi2⟩ := info_parts infoZ
  have HI := Lib.hid (And.intro hi0 (And.intro hzi0 (And.intro hzi1 hzi2)))
  clear hi0 hzi0 hzi1 hzi2 hC
  go_enter Try.func32, Try.ntmps32
  go_wp2
  have hEp : Ext w (w.alloc (.cells #[.int .i64 g.X, .int .i64 g.Y, .int .i64 g.S, .int .i64 g.C, .int .i64 g.R, .slice A g.L.length c] 24)) := by (repeat (first | with_reducible exact Ext.rfl' _ | with_reducible assumption | with_reducible refine Ext.al ?_ _ | with_reducible refine Ext.dr ?_ | with_reducible refine Ext.st ?_ (by simp) _ | with_reducible refine Ext.tr ?_ (by assumption)))
  have kg : CellsAt (w.alloc (.cells #[.int .i64 g.X, .int .i64 g.Y, .int .i64 g.S, .int .i64 g.C, .int .i64 g.R, .slice A g.L.length c] 24)) w.heap.size 0 [.int .i64 g.X, .int .i64 g.Y, .int .i64 g.S, .int .i64 g.C, .int .i64 g.R, .slice A g.L.length c] := by
    refine cells_six ⟨?_, ?_, ?_, ?_, ?_, ?_⟩ <;> simp [World.cell?_alloc_new, go_sem]
  have zg : w.heap.size < (w.alloc (.cells #[.int .i64 g.X, .int .i64 g.Y, .int .i64 g.S, .int .i64 g.C, .int .i64 g.R, .slice A g.L.length c] 24)).heap.size := by simp
  generalize w.alloc (.cells #[.int .i64 g.X, .int .i64 g.Y, .int .i64 g.S, .int .i64 g.C, .int .i64 g.R, .slice A g.L.length c] 24) = wp at *
  go_loopw [5, 6] (fun v k wr => Ext wp wr ∧ ∃ m : Nat, m ≤ g.L.length ∧ k = .int .i64 m ∧ Hid (wr.ownsRow wp.heap.size 3 1 v (chs (nbB cn i) m).length ((zl (chs (nbB cn i) m)).flatMap encZ))) (fun _ k _ => g.L.length - (intOf k).toNat)
  case atStart => exact ⟨Ext.rfl' _, 0, Nat.zero_le _, rfl, Lib.hid (World.ownsRow_nil _ _ _ _)⟩
  case round =>
    obtain ⟨hr, k, hk, rfl, hO⟩ := hrel
    have hE : Ext w wr := hEp.tr hr
    obtain ⟨g0, g1, g2, g3, g4, g5⟩ := (kg.ext hr zg).six
    have zg2 := hr.sz _ zg
    by_cases hlt : k < g.L.length
    · have HK1 := Lib.hid (fun w' => HN.out k (by omega) w')
      have hln := chs_len (nbB cn i) k
      have hcs := chs_succ (nbB cn i) k
      cases hq : nbB cn i k
      · rw [hq] at HK1 hcs
        have HN : Hid (chs (nbB cn i) (k + 1) = chs (nbB cn i) k) := Lib.hid (by rw [hcs]; simp)
        clear hq hcs
        go_wp2_with (first | (go_at_call 80; with_reducible refine Calls.mono (HK1.out _) ?_; rintro e w3 ⟨rfl, hb⟩; have hc := hb.ccell; have hf := hb.frz; have hs := hb.sz; (try simp at hs); (try have t0 := hs (w.heap.size) (by first | assumption | omega)); (try have t1 := hs (w.heap.size) (by first | assumption | omega)); (try have t2 := hs (w.heap.size) (by first | assumption | omega)); (try have t3 := hs (w.heap.size) (by first | assumption | omega)); (try have t4 := hs (w.heap.size) (by first | assumption | omega)); (try have t5 := hs (w.heap.size) (by first | assumption | omega))))
        have hE3 : Ext wr w3 := by assumption
        refine ⟨⟨hr.tr hE3, k + 1, by omega, by go_num, Lib.hid ?_⟩, by simp [intOf]; omega⟩
        rw [HN.out]
        exact ownsRow_ext hO.out hE3
      · rw [hq] at HK1 hcs
        have HN : Hid (chs (nbB cn i) (k + 1) = chs (nbB cn i) k ++ [k]) := Lib.hid (by rw [hcs]; simp)
        obtain ⟨hi0, hzi0, hzi1, hzi2⟩ := HI.out
        generalize chs (nbB cn i) k = M at *
        clear hq hcs
        go_wp2_with (first | (go_at_call 80; with_reducible refine Calls.mono (HK1.out _) ?_; rintro e w3 ⟨rfl, hb⟩; have hc := hb.ccell; have hf := hb.frz; have hs := hb.sz; (try simp at hs); (try have t0 := hs (w.heap.size) (by first | assumption | omega)); (try have t1 := hs (w.heap.size) (by first | assumption | omega)); (try have t2 := hs (w.heap.size) (by first | assumption | omega)); (try have t3 := hs (w.heap.size) (by first | assumption | omega)); (try have t4 := hs (w.heap.size) (by first | assumption | omega)); (try have t5 := hs (w.heap.size) (by first | assumption | omega))) | (at_builtin; refine wpList_append_own _ rfl _ _ 22 rfl (wp.heap.size) 3 i0 _ 1 8 Try.underlying22 hi0 hzi0 hzi1 hzi2 rfl (by decide) _ _ _ rfl (World.ownsRow.alloc (ownsRow_ext (hO.out) (by assumption)) _) ⟨_, 0, none⟩ 1 1 [.int .i64 ((k : Int))] rfl rfl ?_ ?_ ?_ ?_ ?_ ?_))
        · exact one_newZ _ _ _
        · intro u hu; simp at hu; subst hu; rfl
        · unfold maxLen; omega
        · omega
        · have hE3 : Ext wr w3 := by assumption
          have := (hr.tr hE3).size
          simp; omega
        intro v' w4 hown hgrow _
        have hE3 : Ext wr w3 := by assumption
        have hE4 : Ext wp w4 := grown_ext (Ext.al (hr.tr hE3) _) (World.ownsRow.alloc (ownsRow_ext hO.out hE3) _) (Nat.le_refl _) hgrow
        have hown2 := Lib.hid hown
        clear hown hgrow hi0 hzi0 hzi1 hzi2
        go_wp2
        refine ⟨⟨hE4, k + 1, by omega, by go_num, Lib.hid ?_⟩, by simp [intOf]; omega⟩
        rw [HN.out]
        exact own_put hown2.out
    · have hks : k = g.L.length := by omega
      subst hks
      obtain ⟨A', c', hv, hN⟩ := NewZ.of (l := zl (chs (nbB cn i) g.L.length)) rfl (zl_len _).symm hO.out
      rw [zl_len] at hv
      subst hv
      have HN := Lib.hid hN
      clear hO hN
      go_wp2
      go_ret
      exact ⟨⟨A', c', rfl, HN.out.mono hEp.size⟩, hE⟩
end Go.Proofs.Ytgnakeemcccfjaa
