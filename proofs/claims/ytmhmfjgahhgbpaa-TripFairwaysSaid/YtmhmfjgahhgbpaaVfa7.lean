/- The contract of Clearance. -/
import Derived.Test.YtmhmfjgahhgbpaaVfa6
namespace Go.Proofs.Ytmhmfjgahhgbpaa
open Go Go.RowKit Go.IntWalk

theorem roE_good {gs : List Ga} {rs : List Re} {ts : List Tk} {i : Nat} (h : roE gs rs ts i = 0) : fairE gs rs ts = 0 ∧ i < rs.length := by
  unfold roE at h
  split at h
  · rename_i h1; exact absurd h h1
  · rename_i h1
    split at h
    · rename_i h2; exact ⟨by omega, h2⟩
    · cases h
set_option maxHeartbeats 4000000 in
theorem clear_err (gs : List Ga) (rs : List Re) (ts : List Tk) (s : ByteArray) (i : Nat) (d m : Int) (w : World) (Ag Ar At : Option Addr) (cg cr ct : Nat) (hF : FairW w gs rs ts Ag Ar At cg cr ct) (hi : FstR rs s i) (h0 : roE gs rs ts i ≠ 0) :
    Calls Try.prog 14 #[.agg #[.slice Ag gs.length cg, .slice Ar rs.length cr, .slice At ts.length ct], .string s, .int .i64 d, .int .i64 m] w fun e w' => e = .returned (.tuple #[.int .i64 0, .int .i64 (roE gs rs ts i)]) ∧ Ext w w' := by
  have HC := Lib.hid (fun w' (hw : Ext w w') => vreachOf_c gs rs ts s i w' Ag Ar At cg cr ct (hF.ext hw) hi)
  rw [decide_eq_false h0] at HC
  rw [show reV (el rs i) false = .agg #[.string ⟨#[]⟩, .int .i64 0, .int .i64 0, .int .i64 0, .int .i64 0, .bool false, .bool false] from rfl] at HC
  have h1 : (roE gs rs ts i != 0) = true := by simp [h0]
  have h2 : (roE gs rs ts i == 0) = false := by simp [h0]
  generalize roE gs rs ts i = E at *
  clear hF hi
  go_enter Try.func14, Try.ntmps14
  go_wp2_with (first | (go_at_call 37; with_reducible refine Calls.mono (HC.out _ (by (repeat (first | with_reducible exact Ext.rfl' _ | with_reducible assumption | with_reducible refine Ext.al ?_ _ | with_reducible refine Ext.dr ?_ | with_reducible refine Ext.st ?_ (by simp) _ | with_reducible refine Ext.tr ?_ (by assumption))))) ?_; rintro e w1 ⟨rfl, hb⟩; have hc := hb.ccell; have hf := hb.frz; have hs := hb.sz; (try simp at hs); (try have hs0 := hs w.heap.size (by omega)); (try have hs1 := hs (w.heap.size + 1) (by omega)); (try have hs2 := hs (w.heap.size + 1 + 1) (by omega)); (try have hs3 := hs (w.heap.size + 1 + 1 + 1) (by omega))))
  exact bodyPost_ret (v := .tuple #[.int .i64 0, .int .i64 E]) (by simp [results, Try.results14, go_sem]) rfl ⟨rfl, by (repeat (first | with_reducible exact Ext.rfl' _ | with_reducible assumption | with_reducible refine Ext.al ?_ _ | with_reducible refine Ext.dr ?_ | with_reducible refine Ext.st ?_ (by simp) _ | with_reducible refine Ext.tr ?_ (by assumption)))⟩
set_option maxHeartbeats 4000000 in
theorem clear_rng (gs : List Ga) (rs : List Re) (ts : List Tk) (s : ByteArray) (i : Nat) (d m : Int) (w : World) (Ag Ar At : Option Addr) (cg cr ct : Nat) (hF : FairW w gs rs ts Ag Ar At cg cr ct) (hi : FstR rs s i) (h0 : roE gs rs ts i = 0)
    (hr : (withinB d 0 5000 && withinB m 0 1000000) = false) :
    Calls Try.prog 14 #[.agg #[.slice Ag gs.length cg, .slice Ar rs.length cr, .slice At ts.length ct], .string s, .int .i64 d, .int .i64 m] w fun e w' => e = .returned (.tuple #[.int .i64 0, .int .i64 2]) ∧ Ext w w' := by
  have HC := Lib.hid (fun w' (hw : Ext w w') => vreachOf_c gs rs ts s i w' Ag Ar At cg cr ct (hF.ext hw) hi)
  rw [h0, decide_eq_true rfl] at HC
  rw [show reV (el rs i) true = .agg #[.string (el rs i).s, .int .i64 (el rs i).x, .int .i64 (el rs i).lev, .int .i64 (el rs i).mi, .int .i64 (el rs i).cl, .bool (el rs i).wt, .bool (el rs i).one] from rfl] at HC
  generalize el rs i = r at *
  have HD := Lib.hid (fun w => vDraught_c d w)
  have HM := Lib.hid (fun w => vMinute_c m w)
  clear hF hi h0
  cases q1 : withinB d 0 5000
  · rw [q1] at HD
    clear q1 hr
    go_enter Try.func14, Try.ntmps14
    go_wp2_with (first | (go_at_call 37; with_reducible refine Calls.mono (HC.out _ (by (repeat (first | with_reducible exact Ext.rfl' _ | with_reducible assumption | with_reducible refine Ext.al ?_ _ | with_reducible refine Ext.dr ?_ | with_reducible refine Ext.st ?_ (by simp) _ | with_reducible refine Ext.tr ?_ (by assumption))))) ?_; rintro e w1 ⟨rfl, hb⟩; have hc := hb.ccell; have hf := hb.frz; have hs := hb.sz; (try simp at hs); (try have hs0 := hs w.heap.size (by omega)); (try have hs1 := hs (w.heap.size + 1) (by omega)); (try have hs2 := hs (w.heap.size + 1 + 1) (by omega)); (try have hs3 := hs (w.heap.size + 1 + 1 + 1) (by omega))) | (go_at_call 28; with_reducible refine Calls.mono (HD.out _) ?_; rintro e w' ⟨rfl, rfl⟩))
    exact bodyPost_ret (v := .tuple #[.int .i64 0, .int .i64 2]) (by simp [results, Try.results14, go_sem]) rfl ⟨rfl, by (repeat (first | with_reducible exact Ext.rfl' _ | with_reducible assumption | with_reducible refine Ext.al ?_ _ | with_reducible refine Ext.dr ?_ | with_reducible refine Ext.st ?_ (by simp) _ | with_reducible refine Ext.tr ?_ (by assumption)))⟩
  · rw [q1, Bool.true_and] at hr
    rw [q1] at HD
    rw [hr] at HM
    clear q1 hr
    go_enter Try.func14, Try.ntmps14
    go_wp2_with (first | (go_at_call 37; with_reducible refine Calls.mono (HC.out _ (by (repeat (first | with_reducible exact Ext.rfl' _ | with_reducible assumption | with_reducible refine Ext.al ?_ _ | with_reducible refine Ext.dr ?_ | with_reducible refine Ext.st ?_ (by simp) _ | with_reducible refine Ext.tr ?_ (by assumption))))) ?_; rintro e w1 ⟨rfl, hb⟩; have hc := hb.ccell; have hf := hb.frz; have hs := hb.sz; (try simp at hs); (try have hs0 := hs w.heap.size (by omega)); (try have hs1 := hs (w.heap.size + 1) (by omega)); (try have hs2 := hs (w.heap.size + 1 + 1) (by omega)); (try have hs3 := hs (w.heap.size + 1 + 1 + 1) (by omega))) | (go_at_call 28; with_reducible refine Calls.mono (HD.out _) ?_; rintro e w' ⟨rfl, rfl⟩) | (go_at_call 38; with_reducible refine Calls.mono (HM.out _) ?_; rintro e w' ⟨rfl, rfl⟩))
    exact bodyPost_ret (v := .tuple #[.int .i64 0, .int .i64 2]) (by simp [results, Try.results14, go_sem]) rfl ⟨rfl, by (repeat (first | with_reducible exact Ext.rfl' _ | with_reducible assumption | with_reducible refine Ext.al ?_ _ | with_reducible refine Ext.dr ?_ | with_reducible refine Ext.st ?_ (by simp) _ | with_reducible refine Ext.tr ?_ (by assumption)))⟩
set_option maxHeartbeats 8000000 in
theorem clear_ok (gs : List Ga) (rs : List Re) (ts : List Tk) (s : ByteArray) (i : Nat) (d m : Int) (P : Nat → Nat) (ig : Nat) (w : World) (Ag Ar At : Option Addr) (cg cr ct : Nat) (hF : FairW w gs rs ts Ag Ar At cg cr ct) (hi : FstR rs s i) (h0 : roE gs rs ts i = 0)
    (hd : withinB d 0 5000 = true) (hm : withinB m 0 1000000 = true) (hp : PosG gs (el rs i).x ig) (hP : ∀ k, k < gs.length → PosAt (gg gs k).l m (P k)) :
    Calls Try.prog 14 #[.agg #[.slice Ag gs.length cg, .slice Ar rs.length cr, .slice At ts.length ct], .string s, .int .i64 d, .int .i64 m] w fun e w' => e = .returned (.tuple #[.int .i64 (if (plV gs (el rs i).x m P ig).2.2 then (plV gs (el rs i).x m P ig).1 - (el rs i).lev - d else 0), .int .i64 (if (plV gs (el rs i).x m P ig).2.2 then 0 else 11)]) ∧ Ext w w' := by
  have HC := Lib.hid (fun w' (hw : Ext w w') => vreachOf_c gs rs ts s i w' Ag Ar At cg cr ct (hF.ext hw) hi)
  rw [h0, decide_eq_true rfl] at HC
  rw [show reV (el rs i) true = .agg #[.string (el rs i).s, .int .i64 (el rs i).x, .int .i64 (el rs i).lev, .int .i64 (el rs i).mi, .int .i64 (el rs i).cl, .bool (el rs i).wt, .bool (el rs i).one] from rfl] at HC
  obtain ⟨hf, hil⟩ := roE_good h0
  obtain ⟨hg, hrs, _⟩ := fair_good hf
  have hre := (rs_good hrs).2.2 i hil
  have hx : withinB (el rs i).x (-1000000) 1000000 = true := by unfold inRe at hre; rw [Bool.and_eq_true] at hre; exact hre.1
  have hlev : -20000 ≤ (el rs i).lev ∧ (el rs i).lev ≤ 20000 := by
    unfold inRe at hre
    simp only [Bool.and_eq_true] at hre
    have := hre.2.1
    simpa [withinB] using this
  have hdd : 0 ≤ d ∧ d ≤ 5000 := by simpa [withinB] using hd
  have HL := Lib.hid (fun w' (hw : Ext w w') => level_ok_c gs (el rs i).x m P ig w' Ag cg hF.gc (hF.gR.ext hw) (hF.gM.ext hw) hg hx hm hp hP)
  have hbd := plLo_bd (gaus_good hg) hp hP
  have HD := Lib.hid (fun w => vDraught_c d w)
  have HM := Lib.hid (fun w => vMinute_c m w)
  rw [hd] at HD
  rw [hm] at HM
  generalize plV gs (el rs i).x m P ig = V at *
  obtain ⟨lo, hi', kn⟩ := V
  dsimp only at *
  generalize el rs i = r at *
  clear hF hi h0 hd hm hp hP hre hx hf hg hrs hil
  cases kn
  · rw [if_neg (by decide)] at HL ⊢
    rw [if_neg (by decide)]
    go_enter Try.func14, Try.ntmps14
    go_wp2_with (first | (go_at_call 37; with_reducible refine Calls.mono (HC.out _ (by (repeat (first | with_reducible exact Ext.rfl' _ | with_reducible assumption | with_reducible refine Ext.al ?_ _ | with_reducible refine Ext.dr ?_ | with_reducible refine Ext.st ?_ (by simp) _ | with_reducible refine Ext.tr ?_ (by assumption))))) ?_; rintro e wc ⟨rfl, hb⟩; have hc := hb.ccell; have hf := hb.frz; have hs := hb.sz; (try simp at hs); (try have t0 := hs (w.heap.size) (by first | assumption | omega)); (try have t1 := hs (w.heap.size) (by first | assumption | omega)); (try have t2 := hs (w.heap.size) (by first | assumption | omega)); (try have t3 := hs (w.heap.size) (by first | assumption | omega)); (try have t4 := hs (w.heap.size) (by first | assumption | omega)); (try have t5 := hs (w.heap.size) (by first | assumption | omega))) | (go_at_call 28; with_reducible refine Calls.mono (HD.out _) ?_; rintro e w' ⟨rfl, rfl⟩) | (go_at_call 38; with_reducible refine Calls.mono (HM.out _) ?_; rintro e w' ⟨rfl, rfl⟩) | (go_at_call 39; with_reducible refine Calls.mono (HL.out _ (by (repeat (first | with_reducible exact Ext.rfl' _ | with_reducible assumption | with_reducible refine Ext.al ?_ _ | with_reducible refine Ext.dr ?_ | with_reducible refine Ext.st ?_ (by simp) _ | with_reducible refine Ext.tr ?_ (by assumption))))) ?_; rintro e wl ⟨rfl, hb⟩; have hc := hb.ccell; have hf := hb.frz; have hs := hb.sz; (try simp at hs); (try have t0 := hs (w.heap.size) (by first | assumption | omega)); (try have t1 := hs (wc.heap.size) (by first | assumption | omega)); (try have t2 := hs (w.heap.size) (by first | assumption | omega)); (try have t3 := hs (w.heap.size) (by first | assumption | omega)); (try have t4 := hs (w.heap.size) (by first | assumption | omega)); (try have t5 := hs (w.heap.size) (by first | assumption | omega))))
    exact bodyPost_ret (v := .tuple #[.int .i64 0, .int .i64 11]) (by simp [results, Try.results14, go_sem]) rfl ⟨rfl, by (repeat (first | with_reducible exact Ext.rfl' _ | with_reducible assumption | with_reducible refine Ext.al ?_ _ | with_reducible refine Ext.dr ?_ | with_reducible refine Ext.st ?_ (by simp) _ | with_reducible refine Ext.tr ?_ (by assumption)))⟩
  · rw [if_pos rfl] at HL ⊢
    rw [if_pos rfl]
    have e1 : IntKind.i64.wrap (lo - r.lev) = lo - r.lev := i64_in _ (by omega)
    have e2 : IntKind.i64.wrap (lo - r.lev - d) = lo - r.lev - d := i64_in _ (by omega)
    go_enter Try.func14, Try.ntmps14
    go_wp2_with (first | (go_at_call 37; with_reducible refine Calls.mono (HC.out _ (by (repeat (first | with_reducible exact Ext.rfl' _ | with_reducible assumption | with_reducible refine Ext.al ?_ _ | with_reducible refine Ext.dr ?_ | with_reducible refine Ext.st ?_ (by simp) _ | with_reducible refine Ext.tr ?_ (by assumption))))) ?_; rintro e wc ⟨rfl, hb⟩; have hc := hb.ccell; have hf := hb.frz; have hs := hb.sz; (try simp at hs); (try have t0 := hs (w.heap.size) (by first | assumption | omega)); (try have t1 := hs (w.heap.size) (by first | assumption | omega)); (try have t2 := hs (w.heap.size) (by first | assumption | omega)); (try have t3 := hs (w.heap.size) (by first | assumption | omega)); (try have t4 := hs (w.heap.size) (by first | assumption | omega)); (try have t5 := hs (w.heap.size) (by first | assumption | omega))) | (go_at_call 28; with_reducible refine Calls.mono (HD.out _) ?_; rintro e w' ⟨rfl, rfl⟩) | (go_at_call 38; with_reducible refine Calls.mono (HM.out _) ?_; rintro e w' ⟨rfl, rfl⟩) | (go_at_call 39; with_reducible refine Calls.mono (HL.out _ (by (repeat (first | with_reducible exact Ext.rfl' _ | with_reducible assumption | with_reducible refine Ext.al ?_ _ | with_reducible refine Ext.dr ?_ | with_reducible refine Ext.st ?_ (by simp) _ | with_reducible refine Ext.tr ?_ (by assumption))))) ?_; rintro e wl ⟨rfl, hb⟩; have hc := hb.ccell; have hf := hb.frz; have hs := hb.sz; (try simp at hs); (try have t0 := hs (w.heap.size) (by first | assumption | omega)); (try have t1 := hs (wc.heap.size) (by first | assumption | omega)); (try have t2 := hs (w.heap.size) (by first | assumption | omega)); (try have t3 := hs (w.heap.size) (by first | assumption | omega)); (try have t4 := hs (w.heap.size) (by first | assumption | omega)); (try have t5 := hs (w.heap.size) (by first | assumption | omega))))
    exact bodyPost_ret (v := .tuple #[.int .i64 (lo - r.lev - d), .int .i64 0]) (by simp [results, Try.results14, go_sem]) rfl ⟨rfl, by (repeat (first | with_reducible exact Ext.rfl' _ | with_reducible assumption | with_reducible refine Ext.al ?_ _ | with_reducible refine Ext.dr ?_ | with_reducible refine Ext.st ?_ (by simp) _ | with_reducible refine Ext.tr ?_ (by assumption)))⟩
end Go.Proofs.Ytmhmfjgahhgbpaa
