/- The contracts of CheckSoils and of what it calls: the walk of a list whose elements have names. -/
import Derived.Test.YtgbkjioajmnjbaaGreatSleaf
import Derived.Test.YtgbkjioajmnjbaaGreatSmap
namespace Go.Proofs.YtgbkjioajmnjbaaGreat
open Go Go.RowKit Go.IntWalk

def encS (s : ByteArray) : List Value := [.string s]
theorem encS_len (s : ByteArray) : (encS s).length = 1 := rfl
def encSo (x : So) : List Value := [.string x.s, .int .i64 x.run, .int .i64 x.den, .int .i64 x.num, .int .i64 x.dn]
theorem encSo_len (x : So) : (encSo x).length = 5 := rfl
def encLa (x : La) : List Value := [.int .i64 x.t, .string x.s]
theorem encLa_len (x : La) : (encLa x).length = 2 := rfl
def encBo (x : Bo) : List Value := [.string x.s, .int .i64 x.x, .int .i64 x.y, .slice x.A x.l.length x.c]
theorem encBo_len (x : Bo) : (encBo x).length = 4 := rfl
theorem Row.s1 {w : World} {A : Option Addr} {l : List ByteArray} (h : Row 1 encS w A l) {k : Nat} (hk : k < l.length) :
    ∃ b off, A = some ⟨b, off, none⟩ ∧ b < w.heap.size ∧ ∀ w', Ext w w' → w'.cell? ⟨b, off + k, none⟩ = some (.string l[k]) := by
  obtain ⟨b, off, h1, h2, h3⟩ := h.addr (by omega)
  exact ⟨b, off, h1, h2, fun w' hw => by have := h3 w' hw k hk 0 _ rfl; simpa using this⟩
theorem Row.so {w : World} {A : Option Addr} {l : List So} (h : Row 5 encSo w A l) {k : Nat} (hk : k < l.length) :
    ∃ b off, A = some ⟨b, off, none⟩ ∧ b < w.heap.size ∧ ∀ w', Ext w w' → w'.cell? ⟨b, off + k * 5, none⟩ = some (.string (el l k).s) ∧ w'.cell? ⟨b, off + k * 5 + 1, none⟩ = some (.int .i64 (el l k).run) ∧ w'.cell? ⟨b, off + k * 5 + 2, none⟩ = some (.int .i64 (el l k).den) ∧ w'.cell? ⟨b, off + k * 5 + 3, none⟩ = some (.int .i64 (el l k).num) ∧ w'.cell? ⟨b, off + k * 5 + 4, none⟩ = some (.int .i64 (el l k).dn) := by
  obtain ⟨b, off, h1, h2, h3⟩ := h.addr (by omega)
  rw [el_lt _ _ hk]
  exact ⟨b, off, h1, h2, fun w' hw => ⟨h3 w' hw k hk 0 _ rfl, h3 w' hw k hk 1 _ rfl, h3 w' hw k hk 2 _ rfl, h3 w' hw k hk 3 _ rfl, h3 w' hw k hk 4 _ rfl⟩⟩
theorem Row.la {w : World} {A : Option Addr} {l : List La} (h : Row 2 encLa w A l) {k : Nat} (hk : k < l.length) :
    ∃ b off, A = some ⟨b, off, none⟩ ∧ b < w.heap.size ∧ ∀ w', Ext w w' → w'.cell? ⟨b, off + k * 2, none⟩ = some (.int .i64 (el l k).t) ∧ w'.cell? ⟨b, off + k * 2 + 1, none⟩ = some (.string (el l k).s) := by
  obtain ⟨b, off, h1, h2, h3⟩ := h.addr (by omega)
  rw [el_lt _ _ hk]
  exact ⟨b, off, h1, h2, fun w' hw => ⟨h3 w' hw k hk 0 _ rfl, h3 w' hw k hk 1 _ rfl⟩⟩
theorem Row.bo {w : World} {A : Option Addr} {l : List Bo} (h : Row 4 encBo w A l) {k : Nat} (hk : k < l.length) :
    ∃ b off, A = some ⟨b, off, none⟩ ∧ b < w.heap.size ∧ ∀ w', Ext w w' → w'.cell? ⟨b, off + k * 4, none⟩ = some (.string (el l k).s) ∧ w'.cell? ⟨b, off + k * 4 + 1, none⟩ = some (.int .i64 (el l k).x) ∧ w'.cell? ⟨b, off + k * 4 + 2, none⟩ = some (.int .i64 (el l k).y) ∧ w'.cell? ⟨b, off + k * 4 + 3, none⟩ = some (.slice (el l k).A (el l k).l.length (el l k).c) := by
  obtain ⟨b, off, h1, h2, h3⟩ := h.addr (by omega)
  rw [el_lt _ _ hk]
  exact ⟨b, off, h1, h2, fun w' hw => ⟨h3 w' hw k hk 0 _ rfl, h3 w' hw k hk 1 _ rfl, h3 w' hw k hk 2 _ rfl, h3 w' hw k hk 3 _ rfl⟩⟩

set_option maxHeartbeats 1000000 in
theorem indexNo_c (l : List ByteArray) (w : World) (A : Option Addr) (c : Nat) (hl : l.length ≤ 1000) (hA : Row 1 encS w A l) :
    Calls Tryz.prog 114 #[.slice A l.length c, .func (.func 109) #[] #[]] w
      fun e w' => (∃ r : Int, e = .returned (.int .i64 r) ∧ decide (0 ≤ r) = anyN (fun k => !nameB (el l k)) l.length) ∧ Ext w w' := by
  go_enter Tryz.func114, Tryz.ntmps114
  go_wp2
  go_loopw [5, 8] (fun _ i wr => Ext w wr ∧ ∃ k : Nat, k ≤ l.length ∧ i = .int .i64 k ∧ Hid (anyN (fun k => !nameB (el l k)) k = false)) (fun _ i _ => l.length - (intOf i).toNat)
  case atStart => exact ⟨Ext.rfl' _, 0, Nat.zero_le _, rfl, rfl⟩
  case round =>
    obtain ⟨hE, k, hk, rfl, HN⟩ := hrel
    by_cases hlt : k < l.length
    · obtain ⟨b, off, rfl, hb0, hcell⟩ := hA.s1 hlt
      have c := hcell _ hE
      clear hcell
      have hz := hE.sz _ hb0
      have he := el_lt l k hlt
      obtain ⟨s, hs⟩ : ∃ s, l[k] = s := ⟨_, rfl⟩
      rw [hs] at c he
      have HEL := Lib.hid he
      have HS := Lib.hid (fun w => isNoName_c s w)
      clear hs he
      cases hb : nameB s
      · rw [hb] at HS
        have HF := Lib.hid hb
        clear hb
        go_wp2_with (first | (go_at_call 109; with_reducible refine Calls.mono (HS.out _) ?_; rintro e w' ⟨rfl, rfl⟩))
        go_ret
        exact ⟨⟨k, rfl, by rw [anyN_at (fun k => !nameB (el l k)) hlt (by show (!nameB (el l k)) = true; rw [HEL.out, HF.out]; rfl)]; simp⟩, by (repeat (first | with_reducible exact Ext.rfl' _ | with_reducible assumption | with_reducible refine Ext.al ?_ _ | with_reducible refine Ext.dr ?_ | with_reducible refine Ext.st ?_ (by simp) _ | with_reducible refine Ext.tr ?_ (by assumption)))⟩
      · rw [hb] at HS
        have HF := Lib.hid hb
        clear hb
        go_wp2_with (first | (go_at_call 109; with_reducible refine Calls.mono (HS.out _) ?_; rintro e w' ⟨rfl, rfl⟩))
        exact ⟨⟨by (repeat (first | with_reducible exact Ext.rfl' _ | with_reducible assumption | with_reducible refine Ext.al ?_ _ | with_reducible refine Ext.dr ?_ | with_reducible refine Ext.st ?_ (by simp) _ | with_reducible refine Ext.tr ?_ (by assumption))), k + 1, by omega, by go_num, by show anyN _ (k + 1) = false; rw [anyN, HN.out, HEL.out, HF.out]; rfl⟩, by simp [intOf]; omega⟩
    · have hks : k = l.length := by omega
      subst hks
      go_wp2
      go_ret
      exact ⟨⟨-1, rfl, by rw [HN.out]; rfl⟩, hE⟩
theorem containsNo_c (l : List ByteArray) (w : World) (A : Option Addr) (c : Nat) (hl : l.length ≤ 1000) (hA : Row 1 encS w A l) :
    Calls Tryz.prog 108 #[.slice A l.length c, .func (.func 109) #[] #[]] w
      fun e w' => e = .returned (.bool (anyN (fun k => !nameB (el l k)) l.length)) ∧ Ext w w' := by
  have HI := Lib.hid (indexNo_c l w A c hl hA)
  go_enter Tryz.func108, Tryz.ntmps108
  go_wp2_with (first | (go_at_call 114; with_reducible refine Calls.mono (HI.out) ?_; rintro e w1 ⟨⟨r, rfl, hr⟩, hb⟩))
  go_ret
  exact ⟨by rw [← hr]; rfl, hb⟩
theorem containsNo1_c (s : ByteArray) (w : World) (A : Option Addr) (c : Nat) (hA : Row 1 encS w A [s]) :
    Calls Tryz.prog 108 #[.slice A 1 c, .func (.func 109) #[] #[]] w
      fun e w' => e = .returned (.bool (!nameB s)) ∧ Ext w w' := by
  have := containsNo_c [s] w A c (by simp) hA
  simpa [anyN, el] using this
/-- One text in a slice that the call has made. -/
def OutS1 (s : ByteArray) (e : Ending) (w' : World) : Prop := ∃ A' c', e = .returned (.slice A' 1 c') ∧ Row 1 encS w' A' [s]
theorem soName_c (x : So) (w : World) :
    Calls Tryz.prog 106 #[.agg #[.string x.s, .int .i64 x.run, .int .i64 x.den, .int .i64 x.num, .int .i64 x.dn]] w fun e w' => OutS1 x.s e w' ∧ Ext w w' := by
  go_enter Tryz.func106, Tryz.ntmps106
  go_wp2
  go_ret
  exact ⟨⟨_, _, rfl, Row.new' encS_len _ _ _ _ _ (by simp) rfl⟩, by (repeat (first | with_reducible exact Ext.rfl' _ | with_reducible assumption | with_reducible refine Ext.al ?_ _ | with_reducible refine Ext.dr ?_ | with_reducible refine Ext.st ?_ (by simp) _ | with_reducible refine Ext.tr ?_ (by assumption)))⟩
set_option maxHeartbeats 2000000 in
theorem checkSoil_c (x : So) (v1 v2 : Value) (w : World) (_h1 : v1.oneCell' = true) (_h2 : v2.oneCell' = true) :
    Calls Tryz.prog 107 #[.agg #[v1, v2], .agg #[.string x.s, .int .i64 x.run, .int .i64 x.den, .int .i64 x.num, .int .i64 x.dn]] w fun e w' => e = .returned (.int .i64 (numE x)) ∧ Ext w w' := by
  have HR := Lib.hid (fun w => swithin_c x.run 1 1000 w)
  have HD := Lib.hid (fun w => swithin_c x.den 1 5000 w)
  have HB := Lib.hid (fun w => isBulk_c x.num x.dn w)
  unfold numE numB
  cases q1 : withinB x.run 1 1000
  · rw [q1] at HR
    clear q1
    go_enter Tryz.func107, Tryz.ntmps107
    go_wp2_with (first | (go_at_call 27; with_reducible refine Calls.mono (HR.out _) ?_; rintro e w' ⟨rfl, rfl⟩))
    go_ret
    exact ⟨rfl, by (repeat (first | with_reducible exact Ext.rfl' _ | with_reducible assumption | with_reducible refine Ext.al ?_ _ | with_reducible refine Ext.dr ?_ | with_reducible refine Ext.st ?_ (by simp) _ | with_reducible refine Ext.tr ?_ (by assumption)))⟩
  rw [q1] at HR
  cases q2 : withinB x.den 1 5000
  · rw [q2] at HD
    clear q1 q2
    go_enter Tryz.func107, Tryz.ntmps107
    go_wp2_with (first | (go_at_call 27; with_reducible refine Calls.mono (HR.out _) ?_; rintro e w' ⟨rfl, rfl⟩) | (go_at_call 27; with_reducible refine Calls.mono (HD.out _) ?_; rintro e w' ⟨rfl, rfl⟩))
    go_ret
    exact ⟨rfl, by (repeat (first | with_reducible exact Ext.rfl' _ | with_reducible assumption | with_reducible refine Ext.al ?_ _ | with_reducible refine Ext.dr ?_ | with_reducible refine Ext.st ?_ (by simp) _ | with_reducible refine Ext.tr ?_ (by assumption)))⟩
  rw [q2] at HD
  cases q3 : (withinB x.num 1 1000 && (withinB x.dn 1 1000 && decide (x.dn ≤ x.num)))
  all_goals
    rw [q3] at HB
    clear q1 q2 q3
    go_enter Tryz.func107, Tryz.ntmps107
    go_wp2_with (first | (go_at_call 27; with_reducible refine Calls.mono (HR.out _) ?_; rintro e w' ⟨rfl, rfl⟩) | (go_at_call 27; with_reducible refine Calls.mono (HD.out _) ?_; rintro e w' ⟨rfl, rfl⟩) | (go_at_call 113; with_reducible refine Calls.mono (HB.out _) ?_; rintro e w1 ⟨rfl, hb⟩; have hc := hb.ccell; have hf := hb.frz; have hs := hb.sz; (try simp at hs); (try have hs0 := hs w.heap.size (by omega)); (try have hs1 := hs (w.heap.size + 1) (by omega)); (try have hs2 := hs (w.heap.size + 1 + 1) (by omega)); (try have hs3 := hs (w.heap.size + 1 + 1 + 1) (by omega))))
    go_ret
    exact ⟨rfl, by (repeat (first | with_reducible exact Ext.rfl' _ | with_reducible assumption | with_reducible refine Ext.al ?_ _ | with_reducible refine Ext.dr ?_ | with_reducible refine Ext.st ?_ (by simp) _ | with_reducible refine Ext.tr ?_ (by assumption)))⟩
end Go.Proofs.YtgbkjioajmnjbaaGreat
