/- The contracts of Residuals and of Calibrate. -/
import Derived.Test.YtblmljcgjibfgaaTseen
import Derived.Test.YtblmljcgjibfgaaTsure
import Derived.Deep.RegionHeld3
namespace Go.Proofs.Ytblmljcgjibfgaa
open Go Go.RowKit Go.IntWalk Go.Shelf

theorem seenE_zero {s : ByteArray} {x er : Int} {l sn : List Pt} {P : Int → Nat} (h : seenE s x er l P sn = 0) :
    gaugeE s x er l = 0 ∧ sn.length ≤ 400 ∧ 0 < sn.length ∧ ∀ k, k < sn.length → okM (gt sn k) = true ∧ mOk l (gt sn k).x (P (gt sn k).x) = true := by
  unfold seenE at h
  by_cases h0 : gaugeE s x er l = 0
  case neg => rw [if_pos h0] at h; exact absurd h h0
  rw [if_neg (by rw [h0]; simp)] at h
  by_cases h4 : 400 < sn.length
  · rw [if_pos h4] at h; omega
  rw [if_neg h4] at h
  by_cases hz : sn.length = 0
  · rw [if_pos hz] at h; omega
  rw [if_neg hz] at h
  refine ⟨h0, by omega, by omega, fun k hk => ?_⟩
  have h1 := firstE_zero h k hk
  unfold seenErr at h1
  cases ho : okM (gt sn k)
  · rw [if_pos ho] at h1; omega
  rw [if_neg (by rw [ho]; decide)] at h1
  cases hm : mOk l (gt sn k).x (P (gt sn k).x)
  · rw [if_pos hm] at h1; omega
  exact ⟨rfl, rfl⟩
def SmallP (L : List Pt) : Prop := ∀ k, k < L.length → (-200000000000 ≤ (gt L k).x ∧ (gt L k).x ≤ 200000000000) ∧ (-200000000000 ≤ (gt L k).y ∧ (gt L k).y ≤ 200000000000)
theorem resL_gt {l sn : List Pt} {P : Int → Nat} {k : Nat} (hk : k < sn.length) : gt (resL l P sn) k = dL l P (gt sn k) := by
  rw [gt_lt _ _ (by rw [resL_len]; exact hk), gt_lt _ _ hk]
  simp [resL]
theorem res_small {l sn : List Pt} {P : Int → Nat} (hG : Good l) (hP : ∀ t, PosAt l t (P t)) (hok : ∀ k, k < sn.length → okM (gt sn k) = true) : SmallP (resL l P sn) := by
  intro k hk
  rw [resL_len] at hk
  rw [resL_gt hk]
  have h := (okM_iff _).1 (hok k hk)
  obtain ⟨h1, h2⟩ := lohi_bound hG h.1 (hP (gt sn k).x)
  unfold dL
  dsimp only
  omega
/-- The world of the loop of Residuals. -/
structure RsW (w wr : World) (bo : Nat) (lo hi : Int) : Prop where
  ext : Ext w wr
  res : Two wr (w.heap.size + 1) 0 0
  out : Two wr bo lo hi
  fres : ∀ o, wr.frozen? ⟨w.heap.size + 1, o, none⟩ = false
  fout : ∀ o, wr.frozen? ⟨bo, o, none⟩ = false
  zres : w.heap.size + 1 < wr.heap.size
  zout : bo < wr.heap.size
theorem RsW.grow {w wr w' : World} {bo : Nat} {lo hi : Int} (h : RsW w wr bo lo hi) (hX : Ext wr w') : RsW w w' bo lo hi := by
  have zr := h.zres
  have zo := h.zout
  exact ⟨h.ext.tr hX, ⟨(hX.ccell _ 0 zr).trans h.res.1, (hX.ccell _ 1 zr).trans h.res.2⟩, ⟨(hX.ccell _ 0 zo).trans h.out.1, (hX.ccell _ 1 zo).trans h.out.2⟩, fun o => (hX.frz _ o zr).trans (h.fres o), fun o => (hX.frz _ o zo).trans (h.fout o), hX.sz _ zr, hX.sz _ zo⟩
theorem RsW.set {w wr : World} {bo : Nat} {lo hi : Int} (h : RsW w wr bo lo hi) (hb : w.heap.size + 1 < bo) (lo' hi' : Int) : RsW w (st2 wr bo lo' hi') bo lo' hi' := by
  obtain ⟨hE, ⟨q0, q1⟩, ⟨o0, o1⟩, fq, fo, zq, zo⟩ := h
  have n5 : w.heap.size + 1 ≠ bo := by omega
  unfold st2
  refine ⟨Ext.st (Ext.st hE (by show w.heap.size ≤ bo; omega) _) (by show w.heap.size ≤ bo; omega) _, ⟨?_, ?_⟩, ⟨?_, ?_⟩, fun o => ?_, fun o => ?_, ?_, ?_⟩
  all_goals first | (simp [go_sem, *]; done) | (simp; omega)
theorem Row.far {w : World} {A : Option Addr} {L : List Pt} (h : Row 2 encP w A L) {a : Addr} (ha : ∀ b off sp, A = some ⟨b, off, sp⟩ → b ≠ a.block) (v : Value) : Row 2 encP (w.setCell a v) A L := by
  rcases h with h | ⟨b, off, h1, h2, h3⟩
  · exact .inl h
  · refine .inr ⟨b, off, h1, by simpa using h2, fun i hi j u hu => ?_⟩
    rw [World.cell?_setCell_far _ _ _ _ (fun e => ha b off none h1 e.symm)]
    exact h3 i hi j u hu
/-- The world of the loop of Calibrate. -/
structure CaW (w wr : World) (A' : Option Addr) (L : List Pt) (s : ByteArray) (x er : Int) (v : Value) : Prop where
  ext : Ext w wr
  row : Row 2 encP wr A' L
  res : Fo wr (w.heap.size + 1) (.string ⟨#[]⟩) (.int .i64 0) (.int .i64 0) (.slice none 0 0)
  par : Fo wr w.heap.size (.string s) (.int .i64 x) (.int .i64 er) v
  fres : ∀ o, wr.frozen? ⟨w.heap.size + 1, o, none⟩ = false
  fpar : ∀ o, wr.frozen? ⟨w.heap.size, o, none⟩ = false
  z : w.heap.size + 1 < wr.heap.size
  far : ∀ b off sp, A' = some ⟨b, off, sp⟩ → w.heap.size + 1 < b
theorem CaW.grow {w wr w' : World} {A' : Option Addr} {L : List Pt} {s : ByteArray} {x er : Int} {v : Value} (h : CaW w wr A' L s x er v) (hX : Ext wr w') : CaW w w' A' L s x er v := by
  have z1 := h.z
  have z0 : w.heap.size < wr.heap.size := by omega
  exact ⟨h.ext.tr hX, h.row.ext hX, h.res.ext hX z1, h.par.ext hX z0, fun o => (hX.frz _ o z1).trans (h.fres o), fun o => (hX.frz _ o z0).trans (h.fpar o), hX.sz _ z1, h.far⟩
theorem CaW.set {w wr : World} {A' : Option Addr} {L : List Pt} {s : ByteArray} {x er : Int} {v : Value} (h : CaW w wr A' L s x er v) (er' : Int) : CaW w (wr.setCell ⟨w.heap.size, 2, none⟩ (.int .i64 er')) A' L s x er' v := by
  obtain ⟨hE, hr, ⟨q0, q1, q2, q3⟩, ⟨o0, o1, o2, o3⟩, fq, fo, z, hf⟩ := h
  refine ⟨Ext.st hE (Nat.le_refl _) _, hr.far (fun b off sp e => by have := hf b off sp e; show b ≠ w.heap.size; omega) _, ⟨?_, ?_, ?_, ?_⟩, ⟨?_, ?_, ?_, ?_⟩, fun o => ?_, fun o => ?_, by simpa using z, hf⟩
  all_goals first | (simp [go_sem, *]; done) | (simp; omega)
def fLo (L : List Pt) : Nat → Int
  | 0 => (gt L 0).x
  | k + 1 => min (fLo L k) (gt L k).x
def fHi (L : List Pt) : Nat → Int
  | 0 => (gt L 0).y
  | k + 1 => max (fHi L k) (gt L k).y
def needN (er : Int) (L : List Pt) : Nat → Int
  | 0 => er
  | k + 1 => max (max (needN er L k) (gt L k).x) (-(gt L k).y)
set_option maxRecDepth 100000 in
theorem resid_bad (s : ByteArray) (x er : Int) (l sn : List Pt) (P : Int → Nat) (w : World) (A B : Option Addr) (c c' : Nat) (hl : l.length ≤ 1000) (hsn : sn.length ≤ 1000) (hA : Row 2 encP w A l) (hB : Row 2 encP w B sn) (hP : Good l → ∀ t, PosAt l t (P t)) (h0 : seenE s x er l P sn ≠ 0) :
    Calls Try.prog 56 #[.agg #[.string s, .int .i64 x, .int .i64 er, .slice A l.length c], .slice B sn.length c'] w
      fun e w' => e = .returned (.tuple #[.agg #[.int .i64 0, .int .i64 0], .int .i64 (seenE s x er l P sn)]) ∧ Ext w w' := by
  have hd : ∀ w', Ext w w' → Calls Try.prog 94 #[.agg #[.string s, .int .i64 x, .int .i64 er, .slice A l.length c], .slice B sn.length c'] w' fun e w'' => e = .returned (.tuple #[.slice none 0 0, .int .i64 (seenE s x er l P sn)]) ∧ Ext w' w'' := fun w' hw => (diff_c s x er l sn P w' A B c c' hl hsn (hA.ext hw) (hB.ext hw) hP).mono fun e w'' ⟨h1, h2⟩ => by
    rcases h1 with ⟨h1, _⟩ | ⟨_, h1⟩
    · exact absurd h1 h0
    · exact ⟨h1, h2⟩
  have HD := Lib.hid hd
  clear hd
  generalize seenE s x er l P sn = r at *
  have h' : (r == 0) = false := by simp [h0]
  go_enter Try.func56, Try.ntmps56
  go_wp2_with (first | (go_at_call 94; with_reducible refine Calls.mono (HD.out _ (by (repeat (first | with_reducible exact Ext.rfl' _ | with_reducible assumption | with_reducible refine Ext.al ?_ _ | with_reducible refine Ext.dr ?_ | with_reducible refine Ext.st ?_ (by simp) _ | with_reducible refine Ext.tr ?_ (by assumption))))) ?_; rintro e w1 ⟨rfl, hb⟩; have hc := hb.ccell; have hf := hb.frz; have hs := hb.sz; (try simp at hs); (try have hs0 := hs w.heap.size (by omega)); (try have hs1 := hs (w.heap.size + 1) (by omega)); (try have hs2 := hs (w.heap.size + 1 + 1) (by omega)); (try have hs3 := hs (w.heap.size + 1 + 1 + 1) (by omega))))
  have hE : Ext w w1 := by (repeat (first | with_reducible exact Ext.rfl' _ | with_reducible assumption | with_reducible refine Ext.al ?_ _ | with_reducible refine Ext.dr ?_ | with_reducible refine Ext.st ?_ (by simp) _ | with_reducible refine Ext.tr ?_ (by assumption)))
  have kz : Two w1 (w.heap.size + 1) 0 0 := by refine ⟨?_, ?_⟩ <;> simp [*, go_sem]
  have hS2 := Two.store (w := w1) (b := w.heap.size + 1) kz (0) (0)
  have hX2 := Ext.store2 (b := w.heap.size + 1) hE (by omega) (0) (0)
  show bodyPost _ _ _ _ _ (st2 w1 (w.heap.size + 1) (0) (0))
  generalize st2 w1 (w.heap.size + 1) (0) (0) = W6 at hS2 hX2 ⊢
  obtain ⟨s0, s1⟩ := hS2
  refine bodyPost_ret (v := .tuple #[.agg #[.int .i64 0, .int .i64 0], .int .i64 r]) (by simp [results, Try.results56, go_sem, s0, s1]) rfl ⟨rfl, hX2⟩
set_option maxRecDepth 100000 in
theorem cal_bad (s : ByteArray) (x er : Int) (l sn : List Pt) (P : Int → Nat) (w : World) (A B : Option Addr) (c c' : Nat) (hl : l.length ≤ 1000) (hsn : sn.length ≤ 1000) (hA : Row 2 encP w A l) (hB : Row 2 encP w B sn) (hP : Good l → ∀ t, PosAt l t (P t)) (h0 : seenE s x er l P sn ≠ 0) :
    Calls Try.prog 57 #[.agg #[.string s, .int .i64 x, .int .i64 er, .slice A l.length c], .slice B sn.length c'] w
      fun e w' => e = .returned (.tuple #[.agg #[.string ⟨#[]⟩, .int .i64 0, .int .i64 0, .slice none 0 0], .int .i64 (seenE s x er l P sn)]) ∧ Ext w w' := by
  have hd : ∀ w', Ext w w' → Calls Try.prog 94 #[.agg #[.string s, .int .i64 x, .int .i64 er, .slice A l.length c], .slice B sn.length c'] w' fun e w'' => e = .returned (.tuple #[.slice none 0 0, .int .i64 (seenE s x er l P sn)]) ∧ Ext w' w'' := fun w' hw => (diff_c s x er l sn P w' A B c c' hl hsn (hA.ext hw) (hB.ext hw) hP).mono fun e w'' ⟨h1, h2⟩ => by
    rcases h1 with ⟨h1, _⟩ | ⟨_, h1⟩
    · exact absurd h1 h0
    · exact ⟨h1, h2⟩
  have HD := Lib.hid hd
  clear hd
  generalize seenE s x er l P sn = r at *
  have h' : (r == 0) = false := by simp [h0]
  go_enter Try.func57, Try.ntmps57
  go_wp2_with (first | (go_at_call 94; with_reducible refine Calls.mono (HD.out _ (by (repeat (first | with_reducible exact Ext.rfl' _ | with_reducible assumption | with_reducible refine Ext.al ?_ _ | with_reducible refine Ext.dr ?_ | with_reducible refine Ext.st ?_ (by simp) _ | with_reducible refine Ext.tr ?_ (by assumption))))) ?_; rintro e w1 ⟨rfl, hb⟩; have hc := hb.ccell; have hf := hb.frz; have hs := hb.sz; (try simp at hs); (try have hs0 := hs w.heap.size (by omega)); (try have hs1 := hs (w.heap.size + 1) (by omega)); (try have hs2 := hs (w.heap.size + 1 + 1) (by omega)); (try have hs3 := hs (w.heap.size + 1 + 1 + 1) (by omega))))
  have hE : Ext w w1 := by (repeat (first | with_reducible exact Ext.rfl' _ | with_reducible assumption | with_reducible refine Ext.al ?_ _ | with_reducible refine Ext.dr ?_ | with_reducible refine Ext.st ?_ (by simp) _ | with_reducible refine Ext.tr ?_ (by assumption)))
  have kz : Fo w1 (w.heap.size + 1) (.string ⟨#[]⟩) (.int .i64 0) (.int .i64 0) (.slice none 0 0) := by refine ⟨?_, ?_, ?_, ?_⟩ <;> simp [*, go_sem]
  have hS4 := Fo.store (w := w1) (b := w.heap.size + 1) kz (.string ⟨#[]⟩) (.int .i64 0) (.int .i64 0) (.slice none 0 0)
  have hX4 := Ext.store4 (b := w.heap.size + 1) hE (by omega) (.string ⟨#[]⟩) (.int .i64 0) (.int .i64 0) (.slice none 0 0)
  show bodyPost _ _ _ _ _ (st4 w1 (w.heap.size + 1) (.string ⟨#[]⟩) (.int .i64 0) (.int .i64 0) (.slice none 0 0))
  generalize st4 w1 (w.heap.size + 1) (.string ⟨#[]⟩) (.int .i64 0) (.int .i64 0) (.slice none 0 0) = W6 at hS4 hX4 ⊢
  obtain ⟨s0, s1, s2, s3⟩ := hS4
  refine bodyPost_ret (v := .tuple #[.agg #[.string ⟨#[]⟩, .int .i64 0, .int .i64 0, .slice none 0 0], .int .i64 r]) (by simp [results, Try.results57, go_sem, s0, s1, s2, s3]) rfl ⟨rfl, hX4⟩
/-- What differences gives, named. -/
def DiffOk (s : ByteArray) (x er : Int) (l sn : List Pt) (L : List Pt) (w : World) (A B : Option Addr) (c c' : Nat) : Prop :=
  ∀ w', Ext w w' → Calls Try.prog 94 #[.agg #[.string s, .int .i64 x, .int .i64 er, .slice A l.length c], .slice B sn.length c'] w' fun e w'' => ∃ A' c', e = .returned (.tuple #[.slice A' L.length c', .int .i64 0]) ∧ Row 2 encP w'' A' L ∧ (∀ a, A' = some a → w'.heap.size ≤ a.block) ∧ Ext w' w''
theorem diff_ok {s : ByteArray} {x er : Int} {l sn : List Pt} {P : Int → Nat} {w : World} {A B : Option Addr} {c c' : Nat} (hl : l.length ≤ 1000) (hsn : sn.length ≤ 1000) (hA : Row 2 encP w A l) (hB : Row 2 encP w B sn) (hP : Good l → ∀ t, PosAt l t (P t)) (h0 : seenE s x er l P sn = 0) :
    DiffOk s x er l sn (resL l P sn) w A B c c' := fun w' hw => (diff_c s x er l sn P w' A B c c' hl hsn (hA.ext hw) (hB.ext hw) hP).mono fun e w'' ⟨h1, h2⟩ => by
    rcases h1 with ⟨_, A', c', h3, h4, h5⟩ | ⟨h1, _⟩
    · exact ⟨A', c', h3, h4, h5, h2⟩
    · exact absurd h0 h1
set_option maxHeartbeats 4000000 in
set_option maxRecDepth 100000 in
theorem resid_ok (s : ByteArray) (x er : Int) (l sn L : List Pt) (w : World) (A B : Option Addr) (c c' : Nat) (hz : 0 < L.length) (hn : L.length ≤ 1000) (hD : DiffOk s x er l sn L w A B c c') :
    Calls Try.prog 56 #[.agg #[.string s, .int .i64 x, .int .i64 er, .slice A l.length c], .slice B sn.length c'] w
      fun e w' => e = .returned (.tuple #[.agg #[.int .i64 (fLo L L.length), .int .i64 (fHi L L.length)], .int .i64 0]) ∧ Ext w w' := by
  unfold DiffOk at hD
  have HD := Lib.hid hD
  have hzi : 0 < (L.length : Int) := by omega
  clear hD
  go_enter Try.func56, Try.ntmps56
  go_wp2_with (first | (go_at_call 94; with_reducible refine Calls.mono (HD.out _ (by (repeat (first | with_reducible exact Ext.rfl' _ | with_reducible assumption | with_reducible refine Ext.al ?_ _ | with_reducible refine Ext.dr ?_ | with_reducible refine Ext.st ?_ (by simp) _ | with_reducible refine Ext.tr ?_ (by assumption))))) ?_; rintro e w1 ⟨A', c', rfl, hr, _, hb⟩; have hc := hb.ccell; have hf := hb.frz; have hs := hb.sz; obtain ⟨b, off, rfl, hb0, hcell⟩ := hr.p2 hz; obtain ⟨c1, c2⟩ := hcell _ (Ext.rfl' _); rw [Nat.zero_mul, Nat.add_zero] at c1 c2))
  have hE1 : Ext w w1 := by (repeat (first | with_reducible exact Ext.rfl' _ | with_reducible assumption | with_reducible refine Ext.al ?_ _ | with_reducible refine Ext.dr ?_ | with_reducible refine Ext.st ?_ (by simp) _ | with_reducible refine Ext.tr ?_ (by assumption)))
  have kz : Two w1 (w.heap.size + 1) 0 0 := by refine ⟨?_, ?_⟩ <;> simp [*, go_sem]
  have fz : ∀ o, w1.frozen? ⟨w.heap.size + 1, o, none⟩ = false := by intro o; simp [*, go_sem]
  have z1 : w.heap.size + 1 < w1.heap.size := hs _ (by simp)
  have hL0 : fLo L 0 = L[0].x := by show (gt L 0).x = _; rw [gt_lt L 0 hz]
  have hL1 : fHi L 0 = L[0].y := by show (gt L 0).y = _; rw [gt_lt L 0 hz]
  rw [← hL0, ← hL1] at *
  clear hb hc hf hs
  have hE3 : Ext w1 (w1.alloc (.cells #[.int .i64 (fLo L 0), .int .i64 (fHi L 0)] 28)) := by (repeat (first | with_reducible exact Ext.rfl' _ | with_reducible assumption | with_reducible refine Ext.al ?_ _ | with_reducible refine Ext.dr ?_ | with_reducible refine Ext.st ?_ (by simp) _ | with_reducible refine Ext.tr ?_ (by assumption)))
  have ko : Two (w1.alloc (.cells #[.int .i64 (fLo L 0), .int .i64 (fHi L 0)] 28)) w1.heap.size (fLo L 0) (fHi L 0) := by refine ⟨?_, ?_⟩ <;> simp [go_sem]
  have fo : ∀ o, (w1.alloc (.cells #[.int .i64 (fLo L 0), .int .i64 (fHi L 0)] 28)).frozen? ⟨w1.heap.size, o, none⟩ = false := by intro o; simp [go_sem]
  have zo : w1.heap.size < (w1.alloc (.cells #[.int .i64 (fLo L 0), .int .i64 (fHi L 0)] 28)).heap.size := by simp
  generalize w1.alloc (.cells #[.int .i64 (fLo L 0), .int .i64 (fHi L 0)] 28) = wp at *
  have Hp : RsW w wp w1.heap.size (fLo L 0) (fHi L 0) :=
    ⟨hE1.tr hE3, ⟨(hE3.ccell _ 0 z1).trans kz.1, (hE3.ccell _ 1 z1).trans kz.2⟩, ko, fun o => (hE3.frz _ o z1).trans (fz o), fo, hE3.sz _ z1, zo⟩
  clear kz fz ko fo zo c1 c2
  have hbo : w.heap.size + 1 < w1.heap.size := z1
  obtain ⟨bo, hbe⟩ : ∃ bo, w1.heap.size = bo := ⟨_, rfl⟩
  rw [hbe] at Hp hbo
  rw [hbe]
  go_loopw [26] (fun v wr => Ext w1 wr ∧ ∃ k : Nat, k ≤ L.length ∧ v = .int .i64 k ∧ RsW w wr bo (fLo L k) (fHi L k)) (fun v _ => L.length - (intOf v).toNat)
  case atStart => exact ⟨hE3, 0, Nat.zero_le _, rfl, Hp⟩
  case round =>
    clear Hp
    obtain ⟨hX, k, hk, rfl, hW⟩ := hrel
    obtain ⟨hE, ⟨q0, q1⟩, ⟨o0, o1⟩, fq, fo, zq, zo⟩ := hW
    have HWR := Lib.hid (show RsW w wr bo (fLo L k) (fHi L k) from ⟨hE, ⟨q0, q1⟩, ⟨o0, o1⟩, fq, fo, zq, zo⟩)
    by_cases hlt : k < L.length
    · obtain ⟨b2, off2, hbo2, _, hc2⟩ := hr.p2 hlt
      injection hbo2 with hbo2
      injection hbo2 with hbo1 hbo2
      subst hbo1 hbo2
      obtain ⟨c1, c2⟩ := hc2 _ hX
      have hbz := hX.sz _ hb0
      have hgk := gt_lt L k hlt
      have hnx : fLo L (k + 1) = min (fLo L k) L[k].x ∧ fHi L (k + 1) = max (fHi L k) L[k].y := by rw [← hgk]; exact ⟨rfl, rfl⟩
      have HN := Lib.hid hnx
      have HBE := Lib.hid (show w1.heap.size ≤ bo by omega)
      clear hc2 hgk hnx hcell hbe
      generalize L[k].x = px at *
      generalize L[k].y = py at *
      generalize fLo L k = lk at *
      generalize fHi L k = hk' at *
      go_wp2
      refine ⟨⟨?_, k + 1, by omega, by go_num, ?_⟩, by simp [intOf]; omega⟩
      rotate_left
      · rw [HN.out.1, HN.out.2]
        exact (HWR.out.set hbo _ _).grow (Ext.al (Ext.rfl' _) _)
      · exact Ext.al (Ext.st (Ext.st hX HBE.out _) HBE.out _) _
    · have hkl : k = L.length := by omega
      subst hkl
      go_wp2
      have kz := HWR.out.res
      have hS2 := Two.store (w := wr) (b := w.heap.size + 1) kz (fLo L L.length) (fHi L L.length)
      have hX2 := Ext.store2 (b := w.heap.size + 1) hE (by omega) (fLo L L.length) (fHi L L.length)
      show bodyPost _ _ _ _ _ (st2 wr (w.heap.size + 1) (fLo L L.length) (fHi L L.length))
      generalize st2 wr (w.heap.size + 1) (fLo L L.length) (fHi L L.length) = W6 at hS2 hX2 ⊢
      obtain ⟨s0, s1⟩ := hS2
      refine bodyPost_ret (v := .tuple #[.agg #[.int .i64 (fLo L L.length), .int .i64 (fHi L L.length)], .int .i64 0]) (by simp [results, Try.results56, go_sem, s0, s1]) rfl ⟨rfl, hX2⟩
theorem keepC {w wr w' : World} (hE : Ext w wr) (h0 : w.heap.size < wr.heap.size) (h : Ext wr w') : (∀ j : Nat, w'.cell? ⟨w.heap.size, j, none⟩ = wr.cell? ⟨w.heap.size, j, none⟩) ∧ Ext w w' :=
  ⟨fun j => h.ccell _ j h0, hE.tr h⟩
theorem keepC4 {w wr w' : World} (hE : Ext w wr) (h0 : w.heap.size < wr.heap.size) (h : Ext wr w') (v0 v1 v2 v3 : Value) : (∀ j : Nat, (st4 w' (w.heap.size + 1) v0 v1 v2 v3).cell? ⟨w.heap.size, j, none⟩ = wr.cell? ⟨w.heap.size, j, none⟩) ∧ Ext w (st4 w' (w.heap.size + 1) v0 v1 v2 v3) := by
  refine ⟨fun j => ?_, (hE.tr h).store4 (Nat.le_succ _) _ _ _ _⟩
  rw [← h.ccell _ j h0]
  unfold st4
  simp [go_sem]
set_option maxHeartbeats 4000000 in
set_option maxRecDepth 100000 in
theorem cal_ok (s : ByteArray) (x er : Int) (l sn L : List Pt) (w : World) (A B : Option Addr) (c c' : Nat) (hn : L.length ≤ 1000) (hll : l.length ≤ 1000) (hA : Row 2 encP w A l) (hS : SmallP L) (hD : DiffOk s x er l sn L w A B c c') :
    Calls Try.prog 57 #[.agg #[.string s, .int .i64 x, .int .i64 er, .slice A l.length c], .slice B sn.length c'] w
      fun e w' => GaOut s x (needN er L L.length) l (if 1000 < needN er L L.length then 2 else 0) e w' ∧ Ext w w' := by
  unfold DiffOk at hD
  have HD := Lib.hid hD
  have HS := Lib.hid hS
  obtain ⟨N, hN⟩ : ∃ N, needN er L L.length = N := ⟨_, rfl⟩
  rw [hN]
  obtain ⟨Z, hZ⟩ : ∃ Z : Int, (if 1000 < N then 2 else 0) = Z := ⟨_, rfl⟩
  rw [hZ]
  have HN := Lib.hid hN
  have HZ := Lib.hid hZ
  clear hN hZ
  have HRC := Lib.hid (fun w er A' c' => trecord_c s x er A A' l.length c l.length c' w)
  have HCL : Hid (∀ w', Ext w w' → Calls Try.prog 85 #[.slice A l.length c] w' fun e w'' => ∃ A' c', e = .returned (.slice A' l.length c') ∧ Ext w' w'' ∧ (l = [] ∨ ∃ g, A' = some ⟨g, 0, none⟩ ∧ w'.heap.size ≤ g ∧ Own w'' g c' l)) :=
    Lib.hid (fun w' hw => clone_any l w' A c hll (hA.ext hw))
  clear hD hS
  go_enter Try.func57, Try.ntmps57
  go_wp2_with (first | (go_at_call 94; with_reducible refine Calls.mono (HD.out _ (by (repeat (first | with_reducible exact Ext.rfl' _ | with_reducible assumption | with_reducible refine Ext.al ?_ _ | with_reducible refine Ext.dr ?_ | with_reducible refine Ext.st ?_ (by simp) _ | with_reducible refine Ext.tr ?_ (by assumption))))) ?_; rintro e w1 ⟨A', c', rfl, hr, hbb, hb⟩; have hc := hb.ccell; have hf := hb.frz; have hs := hb.sz; have hs0 := hs w.heap.size (by simp; omega); have hs1 := hs (w.heap.size + 1) (by simp)))
  have hE1 : Ext w w1 := by (repeat (first | with_reducible exact Ext.rfl' _ | with_reducible assumption | with_reducible refine Ext.al ?_ _ | with_reducible refine Ext.dr ?_ | with_reducible refine Ext.st ?_ (by simp) _ | with_reducible refine Ext.tr ?_ (by assumption)))
  have kz : Fo w1 (w.heap.size + 1) (.string ⟨#[]⟩) (.int .i64 0) (.int .i64 0) (.slice none 0 0) := by refine ⟨?_, ?_, ?_, ?_⟩ <;> simp [*, go_sem]
  have gz : Fo w1 w.heap.size (.string s) (.int .i64 x) (.int .i64 er) (.slice A l.length c) := by refine ⟨?_, ?_, ?_, ?_⟩ <;> simp [*, go_sem]
  have fz : ∀ o, w1.frozen? ⟨w.heap.size + 1, o, none⟩ = false := by intro o; simp [*, go_sem]
  have fg : ∀ o, w1.frozen? ⟨w.heap.size, o, none⟩ = false := by intro o; simp [*, go_sem]
  have hbb2 : ∀ b off sp, A' = some ⟨b, off, sp⟩ → w.heap.size + 1 < b := fun b off sp h => by have := hbb _ h; simp at this; omega
  have HK := Lib.hid hbb2
  have Hp : CaW w w1 A' L s x er (.slice A l.length c) := ⟨hE1, hr, kz, gz, fz, fg, hs1, hbb2⟩
  clear hbb hbb2 hc hf hs hb hr kz gz fz fg hs0 hs1 hE1
  go_loopw [22] (fun v wr => ∃ k : Nat, k ≤ L.length ∧ v = .int .i64 k ∧ CaW w wr A' L s x (needN er L k) (.slice A l.length c)) (fun v _ => L.length - (intOf v).toNat)
  case atStart => exact ⟨0, Nat.zero_le _, rfl, Hp⟩
  case round =>
    clear Hp
    obtain ⟨k, hk, rfl, hW⟩ := hrel
    obtain ⟨hE, hr, kz, gz, fz, fg, hs1, hfar⟩ := hW
    have HWR := Lib.hid (show CaW w wr A' L s x (needN er L k) (.slice A l.length c) from ⟨hE, hr, kz, gz, fz, fg, hs1, hfar⟩)
    obtain ⟨q0, q1, q2, q3⟩ := kz.all
    obtain ⟨g0, g1, g2, g3⟩ := gz.all
    have hs0 : w.heap.size < wr.heap.size := by omega
    clear hfar
    by_cases hlt : k < L.length
    · obtain ⟨b, off, rfl, hb0, hcell⟩ := hr.p2 hlt
      obtain ⟨c1, c2⟩ := hcell _ (Ext.rfl' _)
      have hbn := HK.out _ _ _ rfl
      have hsm := HS.out k hlt
      have hgk := gt_lt L k hlt
      rw [hgk] at hsm
      obtain ⟨⟨s1, s2⟩, s3, s4⟩ := hsm
      have hnx : needN er L (k + 1) = max (max (needN er L k) L[k].x) (-L[k].y) := by rw [← hgk]; rfl
      have HNX := Lib.hid hnx
      have hb1 : b ≠ w.heap.size := by omega
      clear hcell hgk hnx hr kz gz
      generalize L[k].x = px at *
      generalize L[k].y = py at *
      generalize needN er L k = nk at *
      go_wp2
      refine ⟨⟨k + 1, by omega, by go_num, ?_⟩, by simp [intOf]; omega⟩
      rw [HNX.out]
      rw [show (if (if nk < px then px else nk) < -py then -py else if nk < px then px else nk) = max (max nk px) (-py) by rw [ite_max, ite_max]]
      exact (HWR.out.set _).grow (Ext.al (Ext.rfl' _) _)
    · have hkl : k = L.length := by omega
      subst hkl
      clear hr kz gz
      rw [HN.out] at g2 HWR
      by_cases hbig : 1000 < N
      · have hz2 : Z = 2 := by rw [← HZ.out, if_pos hbig]
        subst hz2
        go_wp2
        have kz := HWR.out.res
        have hS4 := Fo.store (w := wr) (b := w.heap.size + 1) kz (.string ⟨#[]⟩) (.int .i64 0) (.int .i64 0) (.slice none 0 0)
        have hX4 := Ext.store4 (b := w.heap.size + 1) hE (by omega) (.string ⟨#[]⟩) (.int .i64 0) (.int .i64 0) (.slice none 0 0)
        show bodyPost _ _ _ _ _ (st4 wr (w.heap.size + 1) (.string ⟨#[]⟩) (.int .i64 0) (.int .i64 0) (.slice none 0 0))
        generalize st4 wr (w.heap.size + 1) (.string ⟨#[]⟩) (.int .i64 0) (.int .i64 0) (.slice none 0 0) = W6 at hS4 hX4 ⊢
        obtain ⟨s0, s1, s2, s3⟩ := hS4
        refine bodyPost_ret (v := .tuple #[.agg #[.string ⟨#[]⟩, .int .i64 0, .int .i64 0, .slice none 0 0], .int .i64 2]) (by simp [results, Try.results57, go_sem, s0, s1, s2, s3]) rfl ⟨.inr ⟨by decide, rfl⟩, hX4⟩
      · have hz2 : Z = 0 := by rw [← HZ.out, if_neg hbig]
        subst hz2
        go_wp2
        have hE' := HWR.out.ext
        have hX0 : Ext wr wr.drew := Ext.dr (Ext.rfl' _)
        clear fz q0 q1 q2 q3
        refine wp_region_held_drew (S := fun w' => (∀ j : Nat, w'.cell? ⟨w.heap.size, j, none⟩ = wr.cell? ⟨w.heap.size, j, none⟩) ∧ Ext w w') (by kernel_rfl) ?_ (fun hHeld => ?_)
        · (try dsimp only); exact keepC hE hs0 hX0
        refine wpAnyH_take (i := 0) (v := _) rfl (by kernel_rfl) (by kernel_rfl) (by kernel_rfl) (fun _ _ _ h => h) (Or.inl ⟨by kernel_rfl, by intro w hSw; (try dsimp only at hSw); go_simp; (try with_reducible rfl)⟩) (by assumption) ?_
        (try simp only [Act.put, List.getElem_toArray, List.getElem_cons_zero, List.setIfInBounds_toArray, List.set_cons_zero, List.set_cons_succ])
        refine wpAnyH_take (i := 1) (v := _) rfl (by kernel_rfl) (by kernel_rfl) (by kernel_rfl) (fun _ _ _ h => h) (Or.inl ⟨by kernel_rfl, by intro w hSw; (try dsimp only at hSw); go_simp; (try with_reducible rfl)⟩) (by assumption) ?_
        (try simp only [Act.put, List.getElem_toArray, List.getElem_cons_zero, List.getElem_cons_succ, List.setIfInBounds_toArray, List.set_cons_zero, List.set_cons_succ])
        refine wpAnyH_take (i := 2) (v := _) rfl (by kernel_rfl) (by kernel_rfl) (by kernel_rfl) (fun _ _ _ h => h) (Or.inl ⟨by kernel_rfl, by intro w hSw; (try dsimp only at hSw); go_simp; (try with_reducible rfl)⟩) (by assumption) ?_
        (try simp only [Act.put, List.getElem_toArray, List.getElem_cons_zero, List.getElem_cons_succ, List.setIfInBounds_toArray, List.set_cons_zero, List.set_cons_succ])
        refine wpAnyH_ready (rs := [3]) (by kernel_rfl) (by simp) ?_
        refine AllReadyH.cons (o := _) rfl (fun K hK => ?_) AllReadyH.nil
        go_simp
        (go_at_call 85; refine Calls.mono (HCL.out _ (hE.tr hX0)) ?_; rintro e w1 ⟨A2, c2, rfl, hb, hown⟩)
        refine hK.out _ _ ?_ (fun hHeld => ?_)
        · (try dsimp only); exact keepC hE hs0 (hX0.tr hb)
        clear hK K
        (try simp only [Act.put, List.getElem_toArray, List.getElem_cons_zero, List.getElem_cons_succ, List.setIfInBounds_toArray, List.set_cons_zero, List.set_cons_succ])
        refine wpAnyH_ready (rs := [4]) (by kernel_rfl) (by simp) ?_
        refine AllReadyH.cons (o := _) rfl (fun K hK => ?_) AllReadyH.nil
        go_simp
        (go_at_call 87; refine Calls.mono (HRC.out _ _ _ _) ?_; rintro e w2 ⟨rfl, hb2⟩)
        refine hK.out _ _ ?_ (fun hHeld => ?_)
        · (try dsimp only); exact keepC hE hs0 ((hX0.tr hb).tr hb2)
        clear hK K
        (try simp only [Act.put, List.getElem_toArray, List.getElem_cons_zero, List.getElem_cons_succ, List.setIfInBounds_toArray, List.set_cons_zero, List.set_cons_succ])
        have hX2 : Ext wr w2 := (hX0.tr hb).tr hb2
        have kz := HWR.out.res.ext hX2 hs1
        have hz2 := hX2.sz _ hs1
        have yf := fun o => (hX2.frz _ o hs1).trans (HWR.out.fres o)
        obtain ⟨q0, q1, q2, q3⟩ := kz.all
        clear hHeld
        have hHeld := keepC hE hs0 hX2
        refine wpAnyH_ready (rs := [5]) (by kernel_rfl) (by simp) ?_
        refine AllReadyH.cons (o := _) rfl (fun K hK => ?_) AllReadyH.nil
        go_simp
        skip
        refine hK.out _ _ ?_ (fun hHeld => ?_)
        · (try dsimp only); exact keepC4 hE hs0 hX2 _ _ _ _
        clear hK K
        (try simp only [Act.put, List.getElem_toArray, List.getElem_cons_zero, List.getElem_cons_succ, List.setIfInBounds_toArray, List.set_cons_zero, List.set_cons_succ])
        refine wpAnyH_take (i := 6) (v := _) rfl (by kernel_rfl) (by kernel_rfl) (by kernel_rfl) (fun _ _ _ h => h) (Or.inl ⟨by kernel_rfl, by intro w hSw; (try dsimp only at hSw); go_simp; (try with_reducible rfl)⟩) (by assumption) ?_
        (try simp only [Act.put, List.getElem_toArray, List.getElem_cons_zero, List.getElem_cons_succ, List.setIfInBounds_toArray, List.set_cons_zero, List.set_cons_succ])
        refine wpAnyH_done (by kernel_rfl) ?_ _
        have hE3 : Ext w w2 := hE.tr hX2
        have hR4 : Row 2 encP (st4 w2 (w.heap.size + 1) (.string s) (.int .i64 x) (.int .i64 N) (.slice A2 l.length c2)) A2 l := by
          rcases hown with h | ⟨g, rfl, hg, ho⟩
          · left; exact h
          · have hg2 : wr.heap.size ≤ g := hg
            exact ((ho.ext hb2).st4 (by omega) _ _ _ _).row
        clear hHeld
        go_wp2
        have hS4 := Fo.store (w := w2) (b := w.heap.size + 1) kz (.string s) (.int .i64 x) (.int .i64 N) (.slice A2 l.length c2)
        have hX4 := Ext.store4 (b := w.heap.size + 1) hE3 (by omega) (.string s) (.int .i64 x) (.int .i64 N) (.slice A2 l.length c2)
        show bodyPost _ _ _ _ _ (st4 w2 (w.heap.size + 1) (.string s) (.int .i64 x) (.int .i64 N) (.slice A2 l.length c2))
        generalize st4 w2 (w.heap.size + 1) (.string s) (.int .i64 x) (.int .i64 N) (.slice A2 l.length c2) = W6 at hS4 hX4 hR4 ⊢
        obtain ⟨s0, s1, s2, s3⟩ := hS4
        refine bodyPost_ret (v := .tuple #[.agg #[.string s, .int .i64 x, .int .i64 N, .slice A2 l.length c2], .int .i64 0]) (by simp [results, Try.results57, go_sem, s0, s1, s2, s3]) rfl ⟨.inl ⟨rfl, A2, c2, rfl, hR4⟩, hX4⟩
end Go.Proofs.Ytblmljcgjibfgaa
