/- Twelfths is as specified; at the marks the levels stay, and between two marks they stay between both: the law returns true for every input. Conditions: none. -/
import Derived.Test.YtblmljcgjibfgaaTrtw
import Derived.Test.YtblmljcgjibfgaaTsame
namespace Go.Proofs.Ytblmljcgjibfgaa
open Go Go.RowKit Go.IntWalk Go.Shelf

theorem tw_ok {s : ByteArray} {x er : Int} {l : List Pt} {w : World} {A : Option Addr} {c : Nat} (hl : l.length ≤ 1000) (hA : Row 2 encP w A l) (h : twE s x er l = 0) :
    Calls Try.prog 54 #[.agg #[.string s, .int .i64 x, .int .i64 er, .slice A l.length c]] w
      fun e w' => ∃ A' c', e = .returned (.tuple #[.agg #[.string s, .int .i64 x, .int .i64 er, .slice A' (twL l l.length).length c'], .int .i64 0]) ∧ Row 2 encP w' A' (twL l l.length) ∧ Ext w w' := by
  refine Calls.mono (twelfths_c s x er l w A c hl hA) ?_
  rintro e w' ⟨⟨_, A', c', he, hr⟩ | ⟨hn, _⟩, hb⟩
  · exact ⟨A', c', he, hr, hb⟩
  · exact absurd h hn
theorem tw_no {s : ByteArray} {x er : Int} {l : List Pt} {w : World} {A : Option Addr} {c : Nat} (hl : l.length ≤ 1000) (hA : Row 2 encP w A l) (h : twE s x er l ≠ 0) :
    Calls Try.prog 54 #[.agg #[.string s, .int .i64 x, .int .i64 er, .slice A l.length c]] w
      fun e w' => e = .returned (.tuple #[.agg #[.string ⟨#[]⟩, .int .i64 0, .int .i64 0, .slice none 0 0], .int .i64 (twE s x er l)]) ∧ Ext w w' := by
  refine Calls.mono (twelfths_c s x er l w A c hl hA) ?_
  rintro e w' ⟨⟨hn, _⟩ | ⟨_, he⟩, hb⟩
  · exact absurd hn h
  · exact ⟨he, hb⟩
theorem rtw_ok {s : ByteArray} {x er : Int} {l : List Pt} {w : World} {A : Option Addr} {c : Nat} (hl : l.length ≤ 1000) (hA : Row 2 encP w A l) (h : twE s x er l = 0) :
    Calls Try.prog 55 #[.agg #[.string s, .int .i64 x, .int .i64 er, .slice A l.length c]] w
      fun e w' => ∃ A' c', e = .returned (.tuple #[.agg #[.string s, .int .i64 x, .int .i64 er, .slice A' (twL l l.length).length c'], .int .i64 0]) ∧ Row 2 encP w' A' (twL l l.length) ∧ Ext w w' := by
  refine Calls.mono (rtwelfths_c s x er l w A c hl hA) ?_
  rintro e w' ⟨⟨_, A', c', he, hr⟩ | ⟨hn, _⟩, hb⟩
  · exact ⟨A', c', he, hr, hb⟩
  · exact absurd h hn
theorem rtw_no {s : ByteArray} {x er : Int} {l : List Pt} {w : World} {A : Option Addr} {c : Nat} (hl : l.length ≤ 1000) (hA : Row 2 encP w A l) (h : twE s x er l ≠ 0) :
    Calls Try.prog 55 #[.agg #[.string s, .int .i64 x, .int .i64 er, .slice A l.length c]] w
      fun e w' => e = .returned (.tuple #[.agg #[.string ⟨#[]⟩, .int .i64 0, .int .i64 0, .slice none 0 0], .int .i64 (twE s x er l)]) ∧ Ext w w' := by
  refine Calls.mono (rtwelfths_c s x er l w A c hl hA) ?_
  rintro e w' ⟨⟨hn, _⟩ | ⟨_, he⟩, hb⟩
  · exact absurd hn h
  · exact ⟨he, hb⟩
/-- The result's marks in order, each at a mark or between two. -/
theorem twL_at {l : List Pt} (hG : Good l) : Asc (twL l l.length) ∧ ∀ m ∈ twL l l.length, At l l.length m := by
  rcases Nat.eq_zero_or_pos l.length with h | h
  · rw [h]; exact ⟨by simp [Asc, twL], fun m hm => by simp [twL] at hm⟩
  · obtain ⟨k, hk⟩ : ∃ k, l.length = k + 1 := ⟨l.length - 1, by omega⟩
    rw [hk]
    exact twL_ok hG k (by omega)
theorem gt_asc {R : List Pt} (h : Asc R) {i : Nat} (hi : 0 < i) (hl : i < R.length) : (gt R (i - 1)).x < (gt R i).x := by
  rw [gt_lt R (i - 1) (by omega), gt_lt R i hl]
  exact List.pairwise_iff_getElem.1 h (i - 1) i (by omega) hl (by omega)
/-- The place in the record at which a mark of the result belongs. -/
theorem tw_place {l R : List Pt} (hG : Good l) (hA : Asc R) (hAt : ∀ m ∈ R, At l l.length m) {i k : Nat} (hi : i < R.length) (hk : (i = 0 ∧ k = 0) ∨ (0 < i ∧ k < l.length ∧ (gt l k).x ≤ (gt R (i - 1)).x)) :
    ∃ K, K < l.length ∧ k ≤ K ∧ (gt l K).x ≤ (gt R i).x ∧ (K + 1 < l.length → (gt R i).x < (gt l (K + 1)).x) ∧
      (((gt R i).x = (gt l K).x ∧ (gt R i).y = (gt l K).y) ∨ ((gt l K).x < (gt R i).x ∧ K + 1 < l.length ∧ min (gt l K).y (gt l (K + 1)).y ≤ (gt R i).y ∧ (gt R i).y ≤ max (gt l K).y (gt l (K + 1)).y)) := by
  obtain ⟨K, hK, hc⟩ := hAt (gt R i) (by rw [gt_lt R i hi]; exact List.getElem_mem hi)
  have hx : (gt l K).x ≤ (gt R i).x := by
    rcases hc with h | ⟨_, h, _⟩
    · rw [h]; exact Int.le_refl _
    · omega
  have hn : K + 1 < l.length → (gt R i).x < (gt l (K + 1)).x := by
    intro h1
    rcases hc with h | ⟨_, _, h, _⟩
    · rw [h]; exact hG.asc K h1
    · exact h
  refine ⟨K, hK, ?_, hx, hn, ?_⟩
  · rcases hk with ⟨_, h⟩ | ⟨h1, h2, h3⟩
    · omega
    · have h4 := gt_asc hA h1 hi
      rcases Nat.lt_or_ge K k with h | h
      · exfalso
        have h5 := hn (by omega)
        have h6 : (gt l (K + 1)).x ≤ (gt l k).x := by
          rcases Nat.lt_or_ge (K + 1) k with h7 | h7
          · have := hG.sorted h7 h2; omega
          · have : K + 1 = k := by omega
            rw [this]; exact Int.le_refl _
        omega
      · exact h
  · rcases hc with h | ⟨h1, h2, h3, h4, h5⟩
    · rw [h]; exact .inl ⟨rfl, rfl⟩
    · exact .inr ⟨h2, h1, h4, h5⟩
set_option maxHeartbeats 4000000 in
set_option maxRecDepth 100000 in
theorem tw_walk (s : ByteArray) (x er : Int) (l : List Pt) (w : World) (A : Option Addr) (c : Nat) (hA : Row 2 encP w A l) :
    Calls Try.prog 13 #[.agg #[.string s, .int .i64 x, .int .i64 er, .slice A l.length c]] w
      fun e w' => e = .returned (.bool true) ∧ Ext w w' := by
  have HS := Lib.hid (fun w => short_c s x er l w A c)
  cases hsh : shortB s l
  · rw [hsh] at HS
    clear hsh
    go_enter Try.func13, Try.ntmps13
    go_wp2_with (first | (go_at_call 15; with_reducible refine Calls.mono (awake_c _) ?_; rintro e w1 ⟨rfl, hb⟩; have hc := hb.ccell; have hf := hb.frz; have hs := hb.sz; (try simp at hs); (try have hs0 := hs w.heap.size (by omega)); (try have hs1 := hs (w.heap.size + 1) (by omega)); (try have hs2 := hs (w.heap.size + 1 + 1) (by omega)); (try have hs3 := hs (w.heap.size + 1 + 1 + 1) (by omega))) | (go_at_call 16; with_reducible refine Calls.mono (HS.out _) ?_; rintro e w1 ⟨rfl, hb⟩; have hc := hb.ccell; have hf := hb.frz; have hs := hb.sz; (try simp at hs); (try have hs0 := hs w.heap.size (by omega)); (try have hs1 := hs (w.heap.size + 1) (by omega)); (try have hs2 := hs (w.heap.size + 1 + 1) (by omega)); (try have hs3 := hs (w.heap.size + 1 + 1 + 1) (by omega))))
    go_ret
    exact ⟨rfl, by (repeat (first | with_reducible exact Ext.rfl' _ | with_reducible assumption | with_reducible refine Ext.al ?_ _ | with_reducible refine Ext.dr ?_ | with_reducible refine Ext.st ?_ (by simp) _ | with_reducible refine Ext.tr ?_ (by assumption)))⟩
  rw [hsh] at HS
  have hl : l.length ≤ 1000 := by
    unfold shortB at hsh
    simp at hsh
    omega
  clear hsh
  by_cases h0 : twE s x er l = 0
  case neg =>
    have H1 := Lib.hid (fun w' (hw : Ext w w') => tw_no (c := c) hl (hA.ext hw) h0)
    have H2 := Lib.hid (fun w' (hw : Ext w w') => rtw_no (c := c) hl (hA.ext hw) h0)
    have H3 : Hid (∀ w, Calls Try.prog 48 #[.agg #[.string ⟨#[]⟩, .int .i64 0, .int .i64 0, .slice none 0 0], .agg #[.string ⟨#[]⟩, .int .i64 0, .int .i64 0, .slice none 0 0]] w fun e w' => e = .returned (.bool true) ∧ Ext w w') :=
      fun w => same_c ⟨#[]⟩ 0 0 [] none none 0 0 w (by simp) (.inl rfl) (.inl rfl)
    generalize twE s x er l = r at *
    clear h0
    go_enter Try.func13, Try.ntmps13
    go_wp2_with (first | (go_at_call 15; with_reducible refine Calls.mono (awake_c _) ?_; rintro e w1 ⟨rfl, hb⟩; have hc := hb.ccell; have hf := hb.frz; have hs := hb.sz; (try simp at hs); (try have hs0 := hs w.heap.size (by omega)); (try have hs1 := hs (w.heap.size + 1) (by omega)); (try have hs2 := hs (w.heap.size + 1 + 1) (by omega)); (try have hs3 := hs (w.heap.size + 1 + 1 + 1) (by omega))) | (go_at_call 16; with_reducible refine Calls.mono (HS.out _) ?_; rintro e w1 ⟨rfl, hb⟩; have hc := hb.ccell; have hf := hb.frz; have hs := hb.sz; (try simp at hs); (try have hs0 := hs w.heap.size (by omega)); (try have hs1 := hs (w.heap.size + 1) (by omega)); (try have hs2 := hs (w.heap.size + 1 + 1) (by omega)); (try have hs3 := hs (w.heap.size + 1 + 1 + 1) (by omega))) | (go_at_call 54; with_reducible refine Calls.mono (H1.out _ (by (repeat (first | with_reducible exact Ext.rfl' _ | with_reducible assumption | with_reducible refine Ext.al ?_ _ | with_reducible refine Ext.dr ?_ | with_reducible refine Ext.st ?_ (by simp) _ | with_reducible refine Ext.tr ?_ (by assumption))))) ?_; rintro e w3 ⟨rfl, hb⟩; have hc := hb.ccell; have hf := hb.frz; have hs := hb.sz; (try simp at hs); (try have t0 := hs (w.heap.size) (by first | assumption | omega)); (try have t1 := hs (w.heap.size) (by first | assumption | omega)); (try have t2 := hs (w.heap.size) (by first | assumption | omega)); (try have t3 := hs (w.heap.size) (by first | assumption | omega)); (try have t4 := hs (w.heap.size) (by first | assumption | omega)); (try have t5 := hs (w.heap.size) (by first | assumption | omega))) | (go_at_call 55; with_reducible refine Calls.mono (H2.out _ (by (repeat (first | with_reducible exact Ext.rfl' _ | with_reducible assumption | with_reducible refine Ext.al ?_ _ | with_reducible refine Ext.dr ?_ | with_reducible refine Ext.st ?_ (by simp) _ | with_reducible refine Ext.tr ?_ (by assumption))))) ?_; rintro e w4 ⟨rfl, hb⟩; have hc := hb.ccell; have hf := hb.frz; have hs := hb.sz; (try simp at hs); (try have t0 := hs (w.heap.size) (by first | assumption | omega)); (try have t1 := hs (w3.heap.size) (by first | assumption | omega)); (try have t2 := hs (w.heap.size) (by first | assumption | omega)); (try have t3 := hs (w.heap.size) (by first | assumption | omega)); (try have t4 := hs (w.heap.size) (by first | assumption | omega)); (try have t5 := hs (w.heap.size) (by first | assumption | omega))) | (go_at_call 48; with_reducible refine Calls.mono (H3.out _) ?_; rintro e w5 ⟨rfl, hb⟩; have hc := hb.ccell; have hf := hb.frz; have hs := hb.sz; (try simp at hs); (try have t0 := hs (w.heap.size) (by first | assumption | omega)); (try have t1 := hs (w3.heap.size) (by first | assumption | omega)); (try have t2 := hs (w4.heap.size) (by first | assumption | omega)); (try have t3 := hs (w.heap.size) (by first | assumption | omega)); (try have t4 := hs (w.heap.size) (by first | assumption | omega)); (try have t5 := hs (w.heap.size) (by first | assumption | omega))))
    have kz : w5.cell? ⟨w3.heap.size, 3, none⟩ = some (.slice none 0 0) := by simp [*, go_sem]
    have z3 : w3.heap.size < w5.heap.size := by first | assumption | omega
    have hE5 : Ext w w5 := by (repeat (first | with_reducible exact Ext.rfl' _ | with_reducible assumption | with_reducible refine Ext.al ?_ _ | with_reducible refine Ext.dr ?_ | with_reducible refine Ext.st ?_ (by simp) _ | with_reducible refine Ext.tr ?_ (by assumption)))
    clear hc hf hs hb
    go_loopw [7, 8, 9] (fun _ v _ wr => Ext w5 wr ∧ v = .int .i64 0) (fun _ _ _ _ => 0)
    case atStart => exact ⟨Ext.rfl' _, rfl⟩
    case round =>
      obtain ⟨hx, rfl⟩ := hrel
      have k3 := (hx.ccell _ 3 z3).trans kz
      have z4 := hx.sz _ z3
      go_wp2
      go_ret
      exact ⟨rfl, hE5.tr hx⟩
  have hg0 : gaugeE s x er l = 0 := by
    unfold twE at h0
    by_cases h1 : gaugeE s x er l = 0
    · exact h1
    · rw [if_pos h1] at h0; exact h0
  obtain ⟨_, _, he, hG⟩ := gaugeE_zero hg0
  obtain ⟨hAsc, hAt⟩ := twL_at hG
  have hRl := (twL_len l l.length).2
  have hl4 := hG.len
  have H1 := Lib.hid (fun w' (hw : Ext w w') => tw_ok (c := c) hl (hA.ext hw) h0)
  have H2 := Lib.hid (fun w' (hw : Ext w w') => rtw_ok (c := c) hl (hA.ext hw) h0)
  have hR4 : (twL l l.length).length ≤ 400 := by
    unfold twE at h0
    rw [if_neg (by rw [hg0]; simp)] at h0
    by_cases h1 : 400 < (twL l l.length).length
    · rw [if_pos h1] at h0; omega
    · omega
  have H3 := Lib.hid (fun A1 A2 c1 c2 w' (h1 : Row 2 encP w' A1 (twL l l.length)) (h2 : Row 2 encP w' A2 (twL l l.length)) => same_c s x er (twL l l.length) A1 A2 c1 c2 w' (by omega) h1 h2)
  have HAsc := Lib.hid hAsc
  have HAt := Lib.hid hAt
  clear h0 hg0 hAsc hAt
  generalize twL l l.length = R at *
  go_enter Try.func13, Try.ntmps13
  go_wp2_with (first | (go_at_call 15; with_reducible refine Calls.mono (awake_c _) ?_; rintro e w1 ⟨rfl, hb⟩; have hc := hb.ccell; have hf := hb.frz; have hs := hb.sz; (try simp at hs); (try have hs0 := hs w.heap.size (by omega)); (try have hs1 := hs (w.heap.size + 1) (by omega)); (try have hs2 := hs (w.heap.size + 1 + 1) (by omega)); (try have hs3 := hs (w.heap.size + 1 + 1 + 1) (by omega))) | (go_at_call 16; with_reducible refine Calls.mono (HS.out _) ?_; rintro e w1 ⟨rfl, hb⟩; have hc := hb.ccell; have hf := hb.frz; have hs := hb.sz; (try simp at hs); (try have hs0 := hs w.heap.size (by omega)); (try have hs1 := hs (w.heap.size + 1) (by omega)); (try have hs2 := hs (w.heap.size + 1 + 1) (by omega)); (try have hs3 := hs (w.heap.size + 1 + 1 + 1) (by omega))) | (go_at_call 54; with_reducible refine Calls.mono (H1.out _ (by (repeat (first | with_reducible exact Ext.rfl' _ | with_reducible assumption | with_reducible refine Ext.al ?_ _ | with_reducible refine Ext.dr ?_ | with_reducible refine Ext.st ?_ (by simp) _ | with_reducible refine Ext.tr ?_ (by assumption))))) ?_; rintro e w3 ⟨A1, c1, rfl, hr1, hb⟩; have hc := hb.ccell; have hf := hb.frz; have hs := hb.sz; (try simp at hs); (try have t0 := hs (w.heap.size) (by first | assumption | omega)); (try have t1 := hs (w.heap.size) (by first | assumption | omega)); (try have t2 := hs (w.heap.size) (by first | assumption | omega)); (try have t3 := hs (w.heap.size) (by first | assumption | omega)); (try have t4 := hs (w.heap.size) (by first | assumption | omega)); (try have t5 := hs (w.heap.size) (by first | assumption | omega))) | (go_at_call 55; with_reducible refine Calls.mono (H2.out _ (by (repeat (first | with_reducible exact Ext.rfl' _ | with_reducible assumption | with_reducible refine Ext.al ?_ _ | with_reducible refine Ext.dr ?_ | with_reducible refine Ext.st ?_ (by simp) _ | with_reducible refine Ext.tr ?_ (by assumption))))) ?_; rintro e w4 ⟨A2, c2, rfl, hr2, hb⟩; have hc := hb.ccell; have hf := hb.frz; have hs := hb.sz; (try simp at hs); (try have t0 := hs (w.heap.size) (by first | assumption | omega)); (try have t1 := hs (w3.heap.size) (by first | assumption | omega)); (try have t2 := hs (w.heap.size) (by first | assumption | omega)); (try have t3 := hs (w.heap.size) (by first | assumption | omega)); (try have t4 := hs (w.heap.size) (by first | assumption | omega)); (try have t5 := hs (w.heap.size) (by first | assumption | omega))) | (go_at_call 48; with_reducible refine Calls.mono (H3.out _ _ _ _ _ (hr1.ext (by (repeat (first | with_reducible exact Ext.rfl' _ | with_reducible assumption | with_reducible refine Ext.al ?_ _ | with_reducible refine Ext.dr ?_ | with_reducible refine Ext.st ?_ (by simp) _ | with_reducible refine Ext.tr ?_ (by assumption))))) (hr2.ext (by (repeat (first | with_reducible exact Ext.rfl' _ | with_reducible assumption | with_reducible refine Ext.al ?_ _ | with_reducible refine Ext.dr ?_ | with_reducible refine Ext.st ?_ (by simp) _ | with_reducible refine Ext.tr ?_ (by assumption)))))) ?_; rintro e w5 ⟨rfl, hb⟩; have hc := hb.ccell; have hf := hb.frz; have hs := hb.sz; (try simp at hs); (try have t0 := hs (w.heap.size) (by first | assumption | omega)); (try have t1 := hs (w3.heap.size) (by first | assumption | omega)); (try have t2 := hs (w4.heap.size) (by first | assumption | omega)); (try have t3 := hs (w.heap.size) (by first | assumption | omega)); (try have t4 := hs (w.heap.size) (by first | assumption | omega)); (try have t5 := hs (w.heap.size) (by first | assumption | omega))))
  have hr5 : Row 2 encP w5 A1 R := hr1.ext (by (repeat (first | with_reducible exact Ext.rfl' _ | with_reducible assumption | with_reducible refine Ext.al ?_ _ | with_reducible refine Ext.dr ?_ | with_reducible refine Ext.st ?_ (by simp) _ | with_reducible refine Ext.tr ?_ (by assumption))))
  have kz : Fo w5 w3.heap.size (.string s) (.int .i64 x) (.int .i64 er) (.slice A1 R.length c1) := by refine ⟨?_, ?_, ?_, ?_⟩ <;> simp [*, go_sem]
  have gz : Fo w5 w.heap.size (.string s) (.int .i64 x) (.int .i64 er) (.slice A l.length c) := by refine ⟨?_, ?_, ?_, ?_⟩ <;> simp [*, go_sem]
  have z0 : w.heap.size < w5.heap.size := by first | assumption | omega
  have z3 : w3.heap.size < w5.heap.size := by first | assumption | omega
  have hE5 : Ext w w5 := by (repeat (first | with_reducible exact Ext.rfl' _ | with_reducible assumption | with_reducible refine Ext.al ?_ _ | with_reducible refine Ext.dr ?_ | with_reducible refine Ext.st ?_ (by simp) _ | with_reducible refine Ext.tr ?_ (by assumption)))
  obtain ⟨b3, hb3⟩ : ∃ b, w3.heap.size = b := ⟨_, rfl⟩
  rw [hb3] at kz z3 ⊢
  clear hc hf hs hb hr1 hr2 hb3
  go_loopw [7, 8, 9] (fun kv v _ wr => Ext w5 wr ∧ ∃ i k : Nat, i ≤ R.length ∧ v = .int .i64 i ∧ kv = .int .i64 k ∧ ((i = 0 ∧ k = 0) ∨ (0 < i ∧ k < l.length ∧ (gt l k).x ≤ (gt R (i - 1)).x))) (fun _ v _ _ => R.length - (intOf v).toNat)
  case atStart => exact ⟨Ext.rfl' _, 0, 0, Nat.zero_le _, rfl, rfl, .inl ⟨rfl, rfl⟩⟩
  case round =>
    obtain ⟨hx, i, k, hi, rfl, rfl, hik⟩ := hrel
    have hEx := hE5.tr hx
    obtain ⟨g0, g1, g2, g3⟩ := Fo.all (gz.ext hx z0)
    obtain ⟨s0, s1, s2, s3⟩ := Fo.all (kz.ext hx z3)
    have z0x := hx.sz _ z0
    have z3x := hx.sz _ z3
    by_cases hlt : i < R.length
    case neg =>
      go_wp2
      go_ret
      exact ⟨rfl, hEx⟩
    obtain ⟨K, hK, hkK, hxK, hnK, hcase⟩ := tw_place hG HAsc.out HAt.out hlt hik
    obtain ⟨b2, o2, rfl, hb2, hcR⟩ := hr5.p2 hlt
    obtain ⟨b, off, rfl, hb0, hcl⟩ := hA.p2 hK
    have hgi := gt_lt R i hlt
    have HCR := Lib.hid hcR
    have HIK := Lib.hid hik
    clear hcR hcl hik
    obtain ⟨wo, hwo⟩ : ∃ wo, wo = wr := ⟨_, rfl⟩
    subst hwo
    rw [hgi] at hxK hnK hcase
    have HGI := Lib.hid hgi
    clear hgi
    obtain ⟨mx, hmx⟩ : ∃ z, R[i].x = z := ⟨_, rfl⟩
    obtain ⟨my, hmy⟩ : ∃ z, R[i].y = z := ⟨_, rfl⟩
    rw [hmx] at hxK hnK hcase
    rw [hmy] at hcase
    have HM := Lib.hid (And.intro hmx hmy)
    clear hmx hmy g0 g1 g2 s0 s1 s2
    clear g3 s3 z0x z3x
    have hiz : (i : Int) < (R.length : Int) := by omega
    have HXK := Lib.hid (And.intro hxK (And.intro hnK hcase))
    clear hxK hnK hcase
    obtain ⟨g0, g1, g2, g3⟩ := Fo.all (gz.ext hx z0)
    obtain ⟨s0, s1, s2, s3⟩ := Fo.all (kz.ext hx z3)
    have z0x := hx.sz _ z0
    have z3x := hx.sz _ z3
    go_wp2
    clear g0 g1 g2 g3 s0 s1 s2 s3
    go_loopw [7] (fun kv wx => Ext wo wx ∧ ∃ q : Nat, k ≤ q ∧ q ≤ K ∧ kv = .int .i64 q) (fun v _ => K - (intOf v).toNat)
    case atStart => exact ⟨Ext.rfl' _, k, Nat.le_refl _, hkK, rfl⟩
    case round =>
      obtain ⟨hy, q, hkq, hqK, rfl⟩ := hrel
      have hxy := hx.tr hy
      have hEy := hE5.tr hxy
      obtain ⟨g0, g1, g2, g3⟩ := Fo.all (gz.ext hxy z0)
      obtain ⟨s0, s1, s2, s3⟩ := Fo.all (kz.ext hxy z3)
      have z0y := hxy.sz _ z0
      have z3y := hxy.sz _ z3
      obtain ⟨r0, r1⟩ := HCR.out _ hxy
      rw [HM.out.1] at r0
      rw [HM.out.2] at r1
      have hzb2 := hxy.sz _ hb2
      have hzb := hEy.sz _ hb0
      have hql : (q : Int) < (l.length : Int) := by omega
      by_cases hqlt : q < K
      · have hq1 : q + 1 < l.length := by omega
        obtain ⟨n0, n1⟩ := hA.r2 hq1 _ hEy
        have hle : l[q + 1].x ≤ mx := by
          have h1 := HXK.out.1
          have h2 : (gt l (q + 1)).x ≤ (gt l K).x := by
            rcases Nat.lt_or_ge (q + 1) K with h | h
            · have := hG.sorted h hK; omega
            · have : q + 1 = K := by omega
              rw [this]; exact Int.le_refl _
          rw [gt_lt l (q + 1) hq1] at h2
          omega
        have hq1z : (q : Int) + 1 < (l.length : Int) := by omega
        generalize l[q + 1].x = nx at *
        generalize l[q + 1].y = ny at *
        have hled : decide (nx ≤ mx) = true := decide_eq_true hle
        have hq0 : 0 ≤ (q : Int) + 1 := by omega
        have hdq : decide ((q : Int) + 1 < (l.length : Int)) = true := decide_eq_true hq1z
        have hqt : ((q : Int) + 1).toNat = q + 1 := by omega
        have hw1 : IntKind.i64.wrap ((q : Int) + 1) = (q : Int) + 1 := i64_in _ (by omega)
        go_wp2
        refine region_grow (by kernel_rfl) (by kernel_rfl) ?_
        repeat (first | go_big_quiet_step (first  | fail) | quiet_step (first  | fail))
        refine wpQuiet_nil ?_
        intro w1 hb
        have hc := hb.ccell
        have hf := hb.frz
        have hs := hb.sz
        (try simp at hs); (try have hs0 := hs w.heap.size (by omega)); (try have hs1 := hs (w.heap.size + 1) (by omega)); (try have hs2 := hs (w.heap.size + 1 + 1) (by omega)); (try have hs3 := hs (w.heap.size + 1 + 1 + 1) (by omega))
        (try simp only [IntWalk.i64_left])
        go_wp2
        exact ⟨⟨hy.tr hb, q + 1, by omega, by omega, by go_num⟩, by simp [intOf]; omega⟩
      · have hqe : q = K := by omega
        subst hqe
        obtain ⟨hxK, hnK, hcase⟩ := HXK.out
        obtain ⟨cK0, cK1⟩ := hA.r2 hK _ hEy
        have hgK := gt_lt l q hK
        rw [hgK] at hxK hcase
        have HREL : Hid ((gt l q).x ≤ (gt R (i + 1 - 1)).x) := by
          show _ ≤ _
          rw [hgK, Nat.add_sub_cancel, HGI.out, HM.out.1]
          exact hxK
        clear hgK
        obtain ⟨kx, hkx⟩ : ∃ z, l[q].x = z := ⟨_, rfl⟩
        obtain ⟨ky, hky⟩ : ∃ z, l[q].y = z := ⟨_, rfl⟩
        rw [hkx] at cK0 hxK hcase
        rw [hky] at cK1 hcase
        have HKK := Lib.hid (And.intro hkx hky)
        clear hkx hky
        by_cases hK1 : q + 1 < l.length
        · obtain ⟨n0, n1⟩ := hA.r2 hK1 _ hEy
          have hgn := gt_lt l (q + 1) hK1
          have hnx := hnK hK1
          rw [hgn] at hnx hcase
          clear hgn hnK
          generalize l[q + 1].x = nx at *
          generalize l[q + 1].y = ny at *
          have hq1z : (q : Int) + 1 < (l.length : Int) := by omega
          have hled : decide (nx ≤ mx) = false := decide_eq_false (by omega)
          have hq0 : 0 ≤ (q : Int) + 1 := by omega
          have hdq : decide ((q : Int) + 1 < (l.length : Int)) = true := decide_eq_true hq1z
          have hqt : ((q : Int) + 1).toNat = q + 1 := by omega
          rcases hcase with ⟨e1, e2⟩ | ⟨e1, _, e2, e3⟩
          · obtain rfl : kx = mx := e1.symm
            obtain rfl : ky = my := e2.symm
            have hw1 : IntKind.i64.wrap ((q : Int) + 1) = (q : Int) + 1 := i64_in _ (by omega)
            go_wp2
            refine region_grow (by kernel_rfl) (by kernel_rfl) ?_
            repeat (first | go_big_quiet_step (first  | fail) | quiet_step (first  | fail))
            refine wpQuiet_nil ?_
            intro w1 hb
            have hc := hb.ccell
            have hf := hb.frz
            have hs := hb.sz
            (try simp at hs); (try have hs0 := hs w.heap.size (by omega)); (try have hs1 := hs (w.heap.size + 1) (by omega)); (try have hs2 := hs (w.heap.size + 1 + 1) (by omega)); (try have hs3 := hs (w.heap.size + 1 + 1 + 1) (by omega))
            (try simp only [IntWalk.i64_left])
            have HX1 := Lib.hid (hxy.tr hb)
            have v0 := hs _ hzb
            have v1 := hs _ hzb2
            have v2 := hs _ z0y
            have v3 := hs _ z3y
            clear hw1
            go_wp2
            refine region_grow (by kernel_rfl) (by kernel_rfl) ?_
            repeat (first | go_big_quiet_step (first  | fail) | quiet_step (first  | fail))
            refine wpQuiet_nil ?_
            intro w1 hb
            have hc := hb.ccell
            have hf := hb.frz
            have hs := hb.sz
            (try simp at hs); (try have hs0 := hs w.heap.size (by omega)); (try have hs1 := hs (w.heap.size + 1) (by omega)); (try have hs2 := hs (w.heap.size + 1 + 1) (by omega)); (try have hs3 := hs (w.heap.size + 1 + 1 + 1) (by omega))
            (try simp only [IntWalk.i64_left])
            have HX2 := Lib.hid ((Ext.al HX1.out (.cells #[.int .i64 _, .int .i64 _] 89)).tr hb)
            have v4 := hs b (by first | omega | (simp; omega))
            have v5 := hs b2 (by first | omega | (simp; omega))
            have v6 := hs w.heap.size (by first | omega | (simp; omega))
            have v7 := hs b3 (by first | omega | (simp; omega))
            go_wp2
            refine region_grow (by kernel_rfl) (by kernel_rfl) ?_
            repeat (first | go_big_quiet_step (first  | fail) | quiet_step (first  | fail))
            refine wpQuiet_nil ?_
            intro w1 hb
            have hc := hb.ccell
            have hf := hb.frz
            have hs := hb.sz
            (try simp at hs); (try have hs0 := hs w.heap.size (by omega)); (try have hs1 := hs (w.heap.size + 1) (by omega)); (try have hs2 := hs (w.heap.size + 1 + 1) (by omega)); (try have hs3 := hs (w.heap.size + 1 + 1 + 1) (by omega))
            (try simp only [IntWalk.i64_left])
            have HX3 := Lib.hid (HX2.out.tr hb)
            go_wp2
            exact ⟨⟨HX3.out, i + 1, q, by omega, by go_num, rfl, .inr ⟨by omega, hK, HREL.out⟩⟩, by simp [intOf]; omega⟩
          · have hne : (mx == kx) = false := by rw [beq_eq_false_iff_ne]; omega
            have hw1 : IntKind.i64.wrap ((q : Int) + 1) = (q : Int) + 1 := i64_in _ (by omega)
            go_wp2
            refine region_grow (by kernel_rfl) (by kernel_rfl) ?_
            repeat (first | go_big_quiet_step (first  | fail) | quiet_step (first  | fail))
            refine wpQuiet_nil ?_
            intro w1 hb
            have hc := hb.ccell
            have hf := hb.frz
            have hs := hb.sz
            (try simp at hs); (try have hs0 := hs w.heap.size (by omega)); (try have hs1 := hs (w.heap.size + 1) (by omega)); (try have hs2 := hs (w.heap.size + 1 + 1) (by omega)); (try have hs3 := hs (w.heap.size + 1 + 1 + 1) (by omega))
            (try simp only [IntWalk.i64_left])
            have HX1 := Lib.hid (hxy.tr hb)
            have v0 := hs _ hzb
            have v1 := hs _ hzb2
            have v2 := hs _ z0y
            have v3 := hs _ z3y
            clear hw1
            go_wp2
            refine region_grow (by kernel_rfl) (by kernel_rfl) ?_
            repeat (first | go_big_quiet_step (first  | fail) | quiet_step (first  | fail))
            refine wpQuiet_nil ?_
            intro w1 hb
            have hc := hb.ccell
            have hf := hb.frz
            have hs := hb.sz
            (try simp at hs); (try have hs0 := hs w.heap.size (by omega)); (try have hs1 := hs (w.heap.size + 1) (by omega)); (try have hs2 := hs (w.heap.size + 1 + 1) (by omega)); (try have hs3 := hs (w.heap.size + 1 + 1 + 1) (by omega))
            (try simp only [IntWalk.i64_left])
            have HX2 := Lib.hid ((Ext.al HX1.out (.cells #[.int .i64 _, .int .i64 _] 89)).tr hb)
            have v4 := hs b (by first | omega | (simp; omega))
            have v5 := hs b2 (by first | omega | (simp; omega))
            have v6 := hs w.heap.size (by first | omega | (simp; omega))
            have v7 := hs b3 (by first | omega | (simp; omega))
            have hge : decide ((l.length : Int) ≤ (q : Int) + 1) = false := decide_eq_false (by omega)
            have hd1 : decide (my < min ky ny) = false := decide_eq_false (by omega)
            have hd2 : decide (max ky ny < my) = false := decide_eq_false (by omega)
            have hd3 : decide (my < if ny < ky then ny else ky) = false := decide_eq_false (by split <;> omega)
            have hd4 : decide ((if ky < ny then ny else ky) < my) = false := decide_eq_false (by split <;> omega)
            go_wp2
            have hw1 : IntKind.i64.wrap ((q : Int) + 1) = (q : Int) + 1 := i64_in _ (by omega)
            refine region_grow (by kernel_rfl) (by kernel_rfl) ?_
            repeat (first | go_big_quiet_step (first  | fail) | quiet_step (first  | fail))
            refine wpQuiet_nil ?_
            intro w1 hb
            have hc := hb.ccell
            have hf := hb.frz
            have hs := hb.sz
            (try simp at hs); (try have hs0 := hs w.heap.size (by omega)); (try have hs1 := hs (w.heap.size + 1) (by omega)); (try have hs2 := hs (w.heap.size + 1 + 1) (by omega)); (try have hs3 := hs (w.heap.size + 1 + 1 + 1) (by omega))
            (try simp only [IntWalk.i64_left])
            have HX3 := Lib.hid (HX2.out.tr hb)
            clear hw1
            go_wp2
            exact ⟨⟨HX3.out, i + 1, q, by omega, by go_num, rfl, .inr ⟨by omega, hK, HREL.out⟩⟩, by simp [intOf]; omega⟩
        · have hq1z : ¬ (q : Int) + 1 < (l.length : Int) := by omega
          have hdq : decide ((q : Int) + 1 < (l.length : Int)) = false := decide_eq_false hq1z
          rcases hcase with ⟨e1, e2⟩ | ⟨_, e1, _⟩
          · obtain rfl : kx = mx := e1.symm
            obtain rfl : ky = my := e2.symm
            have hw1 : IntKind.i64.wrap ((q : Int) + 1) = (q : Int) + 1 := i64_in _ (by omega)
            go_wp2
            refine region_grow (by kernel_rfl) (by kernel_rfl) ?_
            repeat (first | go_big_quiet_step (first  | fail) | quiet_step (first  | fail))
            refine wpQuiet_nil ?_
            intro w1 hb
            have hc := hb.ccell
            have hf := hb.frz
            have hs := hb.sz
            (try simp at hs); (try have hs0 := hs w.heap.size (by omega)); (try have hs1 := hs (w.heap.size + 1) (by omega)); (try have hs2 := hs (w.heap.size + 1 + 1) (by omega)); (try have hs3 := hs (w.heap.size + 1 + 1 + 1) (by omega))
            (try simp only [IntWalk.i64_left])
            have HX1 := Lib.hid (hxy.tr hb)
            have v0 := hs _ hzb
            have v1 := hs _ hzb2
            have v2 := hs _ z0y
            have v3 := hs _ z3y
            clear hw1
            go_wp2
            refine region_grow (by kernel_rfl) (by kernel_rfl) ?_
            repeat (first | go_big_quiet_step (first  | fail) | quiet_step (first  | fail))
            refine wpQuiet_nil ?_
            intro w1 hb
            have hc := hb.ccell
            have hf := hb.frz
            have hs := hb.sz
            (try simp at hs); (try have hs0 := hs w.heap.size (by omega)); (try have hs1 := hs (w.heap.size + 1) (by omega)); (try have hs2 := hs (w.heap.size + 1 + 1) (by omega)); (try have hs3 := hs (w.heap.size + 1 + 1 + 1) (by omega))
            (try simp only [IntWalk.i64_left])
            have HX2 := Lib.hid ((Ext.al HX1.out (.cells #[.int .i64 _, .int .i64 _] 89)).tr hb)
            have v4 := hs b (by first | omega | (simp; omega))
            have v5 := hs b2 (by first | omega | (simp; omega))
            have v6 := hs w.heap.size (by first | omega | (simp; omega))
            have v7 := hs b3 (by first | omega | (simp; omega))
            go_wp2
            refine region_grow (by kernel_rfl) (by kernel_rfl) ?_
            repeat (first | go_big_quiet_step (first  | fail) | quiet_step (first  | fail))
            refine wpQuiet_nil ?_
            intro w1 hb
            have hc := hb.ccell
            have hf := hb.frz
            have hs := hb.sz
            (try simp at hs); (try have hs0 := hs w.heap.size (by omega)); (try have hs1 := hs (w.heap.size + 1) (by omega)); (try have hs2 := hs (w.heap.size + 1 + 1) (by omega)); (try have hs3 := hs (w.heap.size + 1 + 1 + 1) (by omega))
            (try simp only [IntWalk.i64_left])
            have HX3 := Lib.hid (HX2.out.tr hb)
            go_wp2
            exact ⟨⟨HX3.out, i + 1, q, by omega, by go_num, rfl, .inr ⟨by omega, hK, HREL.out⟩⟩, by simp [intOf]; omega⟩
          · exact absurd e1 hK1
end Go.Proofs.Ytblmljcgjibfgaa
