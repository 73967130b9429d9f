/- Lists of gauges: their cells; the search for a name. -/
import Derived.Test.YtmhmfjgahhgbpaaTat
namespace Go.Proofs.Ytmhmfjgahhgbpaa
open Go Go.RowKit Go.IntWalk

structure Ga where
  s : ByteArray
  x : Int
  er : Int
  l : List Pt
  A : Option Addr
  c : Nat
instance : Inhabited Ga := ⟨⟨⟨#[]⟩, 0, 0, [], none, 0⟩⟩
def encG (g : Ga) : List Value := [.string g.s, .int .i64 g.x, .int .i64 g.er, .slice g.A g.l.length g.c]
theorem encG_len (g : Ga) : (encG g).length = 4 := rfl
theorem Row.p4 {w : World} {A : Option Addr} {l : List Ga} (h : Row 4 encG w A l) {k : Nat} (hk : k < l.length) :
    ∃ b off, A = some ⟨b, off, none⟩ ∧ b < w.heap.size ∧ ∀ w', Ext w w' → w'.cell? ⟨b, off + k * 4, none⟩ = some (.string l[k].s) ∧ w'.cell? ⟨b, off + k * 4 + 1, none⟩ = some (.int .i64 l[k].x) ∧ w'.cell? ⟨b, off + k * 4 + 2, none⟩ = some (.int .i64 l[k].er) ∧ w'.cell? ⟨b, off + k * 4 + 3, none⟩ = some (.slice l[k].A l[k].l.length l[k].c) := by
  obtain ⟨b, off, h1, h2, h3⟩ := h.addr (by omega)
  exact ⟨b, off, h1, h2, fun w' hw => ⟨h3 w' hw k hk 0 _ rfl, h3 w' hw k hk 1 _ rfl, h3 w' hw k hk 2 _ rfl, h3 w' hw k hk 3 _ rfl⟩⟩

theorem sameName_c (s t : ByteArray) (x er : Int) (v : Value) (n : Nat) (w : World) (h : w.cell? ⟨n, 0, none⟩ = some (.string t)) (hn : n < w.heap.size) :
    Calls Try.prog 81 #[.agg #[.string s, .int .i64 x, .int .i64 er, v], .pointer (some ⟨n, 0, none⟩)] w fun e w' => e = .returned (.bool (s.toList == t.toList)) ∧ Ext w w' := by
  go_enter Try.func81, Try.ntmps81
  go_wp2
  go_ret
  exact ⟨rfl, by (repeat (first | with_reducible exact Ext.rfl' _ | with_reducible assumption | with_reducible refine Ext.al ?_ _ | with_reducible refine Ext.dr ?_ | with_reducible refine Ext.st ?_ (by simp) _ | with_reducible refine Ext.tr ?_ (by assumption)))⟩

def hasB (gs : List Ga) (s : ByteArray) : Bool := gs.any fun g => g.s.toList == s.toList
theorem hasB_false {gs : List Ga} {s : ByteArray} (h : ∀ j (hj : j < gs.length), (gs[j].s.toList == s.toList) = false) : hasB gs s = false := by
  unfold hasB
  rw [List.any_eq_false]
  intro g hg
  obtain ⟨j, hj, rfl⟩ := List.mem_iff_getElem.1 hg
  rw [h j hj]
  simp
theorem hasB_true {gs : List Ga} {s : ByteArray} {j : Nat} (hj : j < gs.length) (h : (gs[j].s.toList == s.toList) = true) : hasB gs s = true := by
  unfold hasB
  rw [List.any_eq_true]
  exact ⟨gs[j], List.getElem_mem hj, h⟩
set_option maxHeartbeats 1000000 in
theorem indexGa_c (gs : List Ga) (s : ByteArray) (n : Nat) (w : World) (A : Option Addr) (c : Nat) (hl : gs.length ≤ 1000) (hA : Row 4 encG w A gs) (h : ∀ w', Ext w w' → w'.cell? ⟨n, 0, none⟩ = some (.string s)) (hn : n < w.heap.size) :
    Calls Try.prog 91 #[.slice A gs.length c, .func (.func 81) #[] #[.pointer (some ⟨n, 0, none⟩)]] w
      fun e w' => (∃ r : Int, e = .returned (.int .i64 r) ∧ decide (0 ≤ r) = hasB gs s) ∧ Ext w w' := by
  go_enter Try.func91, Try.ntmps91
  go_wp2
  go_loopw [5, 8] (fun _ i wr => Ext w wr ∧ ∃ k : Nat, k ≤ gs.length ∧ i = .int .i64 k ∧ ∀ j (hj : j < gs.length), j < k → (gs[j].s.toList == s.toList) = false) (fun _ i _ => gs.length - (intOf i).toNat)
  case atStart => exact ⟨Ext.rfl' _, 0, Nat.zero_le _, rfl, fun j _ hj => absurd hj (by omega)⟩
  case round =>
    obtain ⟨hE, k, hk, rfl, hno⟩ := hrel
    have HN := Lib.hid hno
    clear hno
    by_cases hlt : k < gs.length
    · obtain ⟨b, off, rfl, hb0, hcell⟩ := hA.p4 hlt
      have c := hcell _ hE
      clear hcell
      have hz := hE.sz _ hb0
      have hzn := hE.sz _ hn
      have HS := Lib.hid (sameName_c gs[k].s s gs[k].x gs[k].er (.slice gs[k].A gs[k].l.length gs[k].c) n wr (h _ hE) hzn)
      cases hs : (gs[k].s.toList == s.toList)
      · rw [hs] at HS
        have HF := Lib.hid hs
        clear hs
        go_wp2_with (first | (go_at_call 81; with_reducible refine Calls.mono (HS.out) ?_; rintro e w1 ⟨rfl, hb⟩; have hc := hb.ccell; have hf := hb.frz; have hs := hb.sz; (try simp at hs); (try have hs0 := hs w.heap.size (by omega)); (try have hs1 := hs (w.heap.size + 1) (by omega)); (try have hs2 := hs (w.heap.size + 1 + 1) (by omega)); (try have hs3 := hs (w.heap.size + 1 + 1 + 1) (by omega))))
        exact ⟨⟨by (repeat (first | with_reducible exact Ext.rfl' _ | with_reducible assumption | with_reducible refine Ext.al ?_ _ | with_reducible refine Ext.dr ?_ | with_reducible refine Ext.st ?_ (by simp) _ | with_reducible refine Ext.tr ?_ (by assumption))), k + 1, by omega, by go_num, fun j hj hjk => by
          rcases Nat.lt_or_ge j k with h1 | h1
          · exact HN.out j hj h1
          · have h2 : j = k := by omega
            subst h2
            exact HF.out⟩, by simp [intOf]; omega⟩
      · rw [hs] at HS
        have HF := Lib.hid hs
        clear hs
        go_wp2_with (first | (go_at_call 81; with_reducible refine Calls.mono (HS.out) ?_; rintro e w1 ⟨rfl, hb⟩; have hc := hb.ccell; have hf := hb.frz; have hs := hb.sz; (try simp at hs); (try have hs0 := hs w.heap.size (by omega)); (try have hs1 := hs (w.heap.size + 1) (by omega)); (try have hs2 := hs (w.heap.size + 1 + 1) (by omega)); (try have hs3 := hs (w.heap.size + 1 + 1 + 1) (by omega))))
        go_ret
        exact ⟨⟨k, rfl, by rw [hasB_true hlt HF.out]; simp⟩, by (repeat (first | with_reducible exact Ext.rfl' _ | with_reducible assumption | with_reducible refine Ext.al ?_ _ | with_reducible refine Ext.dr ?_ | with_reducible refine Ext.st ?_ (by simp) _ | with_reducible refine Ext.tr ?_ (by assumption)))⟩
    · have hf := hasB_false (gs := gs) (s := s) fun j hj => HN.out j hj (by omega)
      have HF := Lib.hid hf
      clear hf
      go_wp2
      go_ret
      exact ⟨⟨-1, rfl, by rw [HF.out]; rfl⟩, hE⟩
theorem containsGa_c (gs : List Ga) (s : ByteArray) (n : Nat) (w : World) (A : Option Addr) (c : Nat) (hl : gs.length ≤ 1000) (hA : Row 4 encG w A gs) (h : ∀ w', Ext w w' → w'.cell? ⟨n, 0, none⟩ = some (.string s)) (hn : n < w.heap.size) :
    Calls Try.prog 80 #[.slice A gs.length c, .func (.func 81) #[] #[.pointer (some ⟨n, 0, none⟩)]] w
      fun e w' => e = .returned (.bool (hasB gs s)) ∧ Ext w w' := by
  have HI := Lib.hid (indexGa_c gs s n w A c hl hA h hn)
  go_enter Try.func80, Try.ntmps80
  go_wp2_with (first | (go_at_call 91; with_reducible refine Calls.mono (HI.out) ?_; rintro e w1 ⟨⟨r, rfl, hr⟩, hb⟩))
  go_ret
  exact ⟨by rw [← hr]; rfl, hb⟩
end Go.Proofs.Ytmhmfjgahhgbpaa
