/- The contracts of CheckFairway, reachOf. -/
import Derived.Test.YtmhmfjgahhgbpaaVfa3
import Derived.Deep.RegionHeld3
namespace Go.Proofs.Ytmhmfjgahhgbpaa
open Go Go.RowKit Go.IntWalk

/-- A fairway in memory. -/
structure FairW (w : World) (gs : List Ga) (rs : List Re) (ts : List Tk) (Ag Ar At : Option Addr) (cg cr ct : Nat) : Prop where
  gl : gs.length ≤ 1000
  gc : gs.length ≤ cg
  gR : Row 4 encG w Ag gs
  gM : Marks w gs
  rl : rs.length ≤ 1000
  rc : rs.length ≤ cr
  rR : Row 7 encRe w Ar rs
  tl : ts.length ≤ 1000
  tR : Row 3 encTk w At ts
theorem FairW.ext {w w' : World} {gs : List Ga} {rs : List Re} {ts : List Tk} {Ag Ar At : Option Addr} {cg cr ct : Nat} (h : FairW w gs rs ts Ag Ar At cg cr ct) (hw : Ext w w') : FairW w' gs rs ts Ag Ar At cg cr ct :=
  ⟨h.gl, h.gc, h.gR.ext hw, h.gM.ext hw, h.rl, h.rc, h.rR.ext hw, h.tl, h.tR.ext hw⟩
set_option maxHeartbeats 16000000 in
set_option maxRecDepth 100000 in
theorem checkFairway_c (gs : List Ga) (rs : List Re) (ts : List Tk) (w : World) (Ag Ar At : Option Addr) (cg cr ct : Nat) (hF : FairW w gs rs ts Ag Ar At cg cr ct) :
    Calls Try.prog 16 #[.agg #[.slice Ag gs.length cg, .slice Ar rs.length cr, .slice At ts.length ct]] w fun e w' => e = .returned (.int .i64 (fairE gs rs ts)) ∧ Ext w w' := by
  unfold fairE
  have HG := Lib.hid (fun w' (hw : Ext w w') => checkAll_c gs w' Ag cg hF.gl hF.gc (hF.gR.ext hw) (hF.gM.ext hw))
  have HR := Lib.hid (fun w' (hw : Ext w w') => checkReaches_c rs w' Ar cr hF.rl hF.rc (hF.rR.ext hw))
  have HC := Lib.hid (fun w' (hw : Ext w w') => checkClosures_c gs rs ts w' Ag Ar At cg cr ct hF.rl hF.tl (hF.rR.ext hw) (hF.tR.ext hw))
  have HO := Lib.hid (fun w' A c hr => or3_c (gausE gs) (rsE rs) (tksE rs ts) w' A c hr)
  clear hF
  generalize gausE gs = a at *
  generalize rsE rs = b at *
  generalize tksE rs ts = d at *
  obtain ⟨E, hE⟩ : ∃ E, (if a ≠ 0 then a else if b ≠ 0 then b else d) = E := ⟨_, rfl⟩
  rw [hE] at HO ⊢
  clear hE
  go_enter Try.func16, Try.ntmps16
  go_upto_region 1 with fail
  refine wp_name (fun W hW => ?_)
  have hEW : Ext w W := by rw [hW]; (repeat (first | with_reducible exact Ext.rfl' _ | with_reducible assumption | with_reducible refine Ext.al ?_ _ | with_reducible refine Ext.dr ?_ | with_reducible refine Ext.st ?_ (by simp) _ | with_reducible refine Ext.tr ?_ (by assumption)))
  have s0 : W.cell? ⟨w.heap.size, 0, none⟩ = some (.slice Ag gs.length cg) := by rw [hW]; simp [go_sem]
  have s1 : W.cell? ⟨w.heap.size, 1, none⟩ = some (.slice Ar rs.length cr) := by rw [hW]; simp [go_sem]
  have s2 : W.cell? ⟨w.heap.size, 2, none⟩ = some (.slice At ts.length ct) := by rw [hW]; simp [go_sem]
  have hWz : w.heap.size < W.heap.size := by rw [hW]; simp
  clear hW
  go_cut [2] (fun x wx => x = .int .i64 E ∧ Ext W wx)
  case first =>
    go_region_held3 (fun w' => (∀ j : Nat, w'.cell? ⟨w.heap.size, j, none⟩ = W.cell? ⟨w.heap.size, j, none⟩) ∧ Ext W w') ((refine keep1v ?_ hWz; (repeat (first | with_reducible exact Ext.rfl' _ | with_reducible assumption | (with_reducible exact (by with_reducible assumption : _ ∧ Ext W _).2) | with_reducible refine Ext.al ?_ _ | with_reducible refine Ext.dr ?_ | with_reducible refine Ext.st ?_ (by first | (simp; done) | (have h9 := Below.size hb2; simp at h9 ⊢; omega)) _ | with_reducible refine Ext.tr ?_ (by with_reducible assumption))))) (first | (go_at_call 42; (with_reducible refine Calls.mono (HG.out _ (hEW.tr (by (repeat (first | with_reducible exact Ext.rfl' _ | with_reducible assumption | (with_reducible exact (by with_reducible assumption : _ ∧ Ext W _).2) | with_reducible refine Ext.al ?_ _ | with_reducible refine Ext.dr ?_ | with_reducible refine Ext.st ?_ (by first | (simp; done) | (have h9 := Below.size hb2; simp at h9 ⊢; omega)) _ | with_reducible refine Ext.tr ?_ (by with_reducible assumption)))))) ?_); rintro e w2 ⟨rfl, hb2⟩; have hc2 := hb2.ccell; have hf2 := hb2.frz; have hs2 := hb2.sz) | (go_at_call 43; (with_reducible refine Calls.mono (HR.out _ (hEW.tr (by (repeat (first | with_reducible exact Ext.rfl' _ | with_reducible assumption | (with_reducible exact (by with_reducible assumption : _ ∧ Ext W _).2) | with_reducible refine Ext.al ?_ _ | with_reducible refine Ext.dr ?_ | with_reducible refine Ext.st ?_ (by first | (simp; done) | (have h9 := Below.size hb2; simp at h9 ⊢; omega)) _ | with_reducible refine Ext.tr ?_ (by with_reducible assumption)))))) ?_); rintro e w3 ⟨rfl, hb3⟩; have hc3 := hb3.ccell; have hf3 := hb3.frz; have hs3 := hb3.sz) | (go_at_call 44; (with_reducible refine Calls.mono (HC.out _ (hEW.tr (by (repeat (first | with_reducible exact Ext.rfl' _ | with_reducible assumption | (with_reducible exact (by with_reducible assumption : _ ∧ Ext W _).2) | with_reducible refine Ext.al ?_ _ | with_reducible refine Ext.dr ?_ | with_reducible refine Ext.st ?_ (by first | (simp; done) | (have h9 := Below.size hb2; simp at h9 ⊢; omega)) _ | with_reducible refine Ext.tr ?_ (by with_reducible assumption)))))) ?_); rintro e w4 ⟨rfl, hb4⟩; have hc4 := hb4.ccell; have hf4 := hb4.frz; have hs4 := hb4.sz) | (go_at_call 41; (with_reducible refine Calls.mono (HO.out _ _ _ (Row.new' encZ_len _ _ _ _ _ (by simp) rfl)) ?_); rintro e w5 ⟨rfl, hb5⟩; have hc5 := hb5.ccell; have hf5 := hb5.frz; have hs5 := hb5.sz))
    all_goals
      rename_i hJ hK h1 h2 hH
      clear hH
      refine h2 _ _ (Met.intro (h1 _ _ ?_))
      (repeat apply Exists.intro)
      refine ⟨?_, rfl⟩
      refine ⟨rfl, ?_⟩
      (repeat (first | with_reducible exact Ext.rfl' _ | with_reducible assumption | (with_reducible exact (by with_reducible assumption : _ ∧ Ext W _).2) | with_reducible refine Ext.al ?_ _ | with_reducible refine Ext.dr ?_ | with_reducible refine Ext.st ?_ (by first | (simp; done) | (have h9 := Below.size hb2; simp at h9 ⊢; omega)) _ | with_reducible refine Ext.tr ?_ (by with_reducible assumption)))
  case rest =>
  obtain ⟨rfl, hx⟩ := hcut
  go_wp2
  go_ret
  exact ⟨rfl, hEW.tr hx⟩
end Go.Proofs.Ytmhmfjgahhgbpaa
