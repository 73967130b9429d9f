/- The contract of covers; rows of gauges that the call itself has made. -/
import Derived.Test.YtblmljcgjibfgaaTpnest
import Derived.Test.YtblmljcgjibfgaaTsure
namespace Go.Proofs.Ytblmljcgjibfgaa
open Go Go.RowKit Go.IntWalk Go.Shelf

def inB (L : List Pt) (p : Pt) (k : Nat) : Bool := decide ((gt L k).x ≤ p.x) && decide (p.y ≤ (gt L k).y)
theorem cov_found {L M : List Pt} (h : Covers L M) {i : Nat} (hi : i < M.length) : anyN (inB L (gt M i)) L.length = true := by
  obtain ⟨q, hq, h1, h2⟩ := h (gt M i) (by rw [gt_lt M i hi]; exact List.getElem_mem hi)
  obtain ⟨k, hk, rfl⟩ := List.mem_iff_getElem.1 hq
  refine anyN_at _ hk ?_
  unfold inB
  rw [gt_lt L k hk, decide_eq_true h1, decide_eq_true h2]; rfl
set_option maxHeartbeats 4000000 in
set_option maxRecDepth 100000 in
theorem covers_c (L M : List Pt) (A B : Option Addr) (c c' : Nat) (w : World) (hl : L.length ≤ 1000001) (hm : M.length ≤ 1000001) (hA : Row 2 encP w A L) (hB : Row 2 encP w B M) (hC : Covers L M) :
    Calls Try.prog 38 #[.slice A L.length c, .slice B M.length c'] w fun e w' => e = .returned (.bool true) ∧ Ext w w' := by
  have HC := Lib.hid hC
  clear hC
  go_enter Try.func38, Try.ntmps38
  go_wp2
  go_loopw [5, 6, 7] (fun v _ _ wr => Ext w wr ∧ ∃ i : Nat, i ≤ M.length ∧ v = .int .i64 i) (fun v _ _ _ => M.length - (intOf v).toNat)
  case atStart => exact ⟨Ext.rfl' _, 0, Nat.zero_le _, rfl⟩
  case round =>
    obtain ⟨hE, i, hi, rfl⟩ := hrel
    by_cases hlt : i < M.length
    · obtain ⟨b, off, rfl, hb0, hcell⟩ := hB.p2 hlt
      have hcb := hcell
      have HF := Lib.hid (cov_found HC.out hlt)
      have hgi := gt_lt M i hlt
      rw [← hgi] at hcb
      clear hcell hgi
      generalize gt M i = p at *
      obtain ⟨px, py⟩ := p
      dsimp only at *
      have HCB := Lib.hid hcb
      clear hcb
      obtain ⟨wo, hwo⟩ : ∃ wo, wo = wr := ⟨_, rfl⟩
      subst hwo
      go_wp2
      go_loopw [6, 7] (fun fv v wr => Ext wo wr ∧ ∃ k : Nat, k ≤ L.length ∧ v = .int .i64 k ∧ ∃ F, fv = .bool F ∧ Hid (F = anyN (inB L ⟨px, py⟩) k)) (fun _ v _ => L.length - (intOf v).toNat)
      case atStart => exact ⟨Ext.rfl' _, 0, Nat.zero_le _, rfl, _, rfl, rfl⟩
      case round =>
        obtain ⟨hX, k, hk, rfl, F, rfl, hF⟩ := hrel
        have hEw := hE.tr hX
        obtain ⟨c1, c2⟩ := HCB.out _ hEw
        have hzb := hEw.sz _ hb0
        by_cases hlk : k < L.length
        · obtain ⟨b2, off2, rfl, hb2, hcell⟩ := hA.p2 hlk
          obtain ⟨c3, c4⟩ := hcell _ hEw
          have hzb2 := hEw.sz _ hb2
          have hst : ∀ T : Bool, T = (F || (decide (L[k].x ≤ px) && decide (py ≤ L[k].y))) → T = anyN (inB L ⟨px, py⟩) (k + 1) := fun T h => by
            rw [h, hF.out, anyN]
            unfold inB
            rw [gt_lt L k hlk]
          have HST := Lib.hid hst
          clear hst hcell
          generalize L[k].x = qx at *
          generalize L[k].y = qy at *
          cases F
          case true =>
            go_wp2
            refine region_grow (by kernel_rfl) (by kernel_rfl) ?_
            repeat (first | go_big_quiet_step (first  | fail) | quiet_step (first  | fail))
            refine wpQuiet_nil ?_
            intro w1 hb
            have hc := hb.ccell
            have hf := hb.frz
            have hs := hb.sz
            (try simp at hs); (try have hs0 := hs w.heap.size (by omega)); (try have hs1 := hs (w.heap.size + 1) (by omega)); (try have hs2 := hs (w.heap.size + 1 + 1) (by omega)); (try have hs3 := hs (w.heap.size + 1 + 1 + 1) (by omega))
            (try simp only [IntWalk.i64_left])
            go_wp2
            exact ⟨⟨hX.tr hb, k + 1, by omega, by go_num, _, rfl, HST.out _ rfl⟩, by simp [intOf]; omega⟩
          cases h1 : decide (qx ≤ px)
          · rw [h1] at HST
            go_wp2
            refine region_grow (by kernel_rfl) (by kernel_rfl) ?_
            repeat (first | go_big_quiet_step (first  | fail) | quiet_step (first  | fail))
            refine wpQuiet_nil ?_
            intro w1 hb
            have hc := hb.ccell
            have hf := hb.frz
            have hs := hb.sz
            (try simp at hs); (try have hs0 := hs w.heap.size (by omega)); (try have hs1 := hs (w.heap.size + 1) (by omega)); (try have hs2 := hs (w.heap.size + 1 + 1) (by omega)); (try have hs3 := hs (w.heap.size + 1 + 1 + 1) (by omega))
            (try simp only [IntWalk.i64_left])
            go_wp2
            exact ⟨⟨hX.tr hb, k + 1, by omega, by go_num, _, rfl, HST.out _ rfl⟩, by simp [intOf]; omega⟩
          cases h2 : decide (py ≤ qy)
          all_goals
            rw [h1, h2] at HST
            go_wp2
            refine region_grow (by kernel_rfl) (by kernel_rfl) ?_
            repeat (first | go_big_quiet_step (first  | fail) | quiet_step (first  | fail))
            refine wpQuiet_nil ?_
            intro w1 hb
            have hc := hb.ccell
            have hf := hb.frz
            have hs := hb.sz
            (try simp at hs); (try have hs0 := hs w.heap.size (by omega)); (try have hs1 := hs (w.heap.size + 1) (by omega)); (try have hs2 := hs (w.heap.size + 1 + 1) (by omega)); (try have hs3 := hs (w.heap.size + 1 + 1 + 1) (by omega))
            (try simp only [IntWalk.i64_left])
            go_wp2
            exact ⟨⟨hX.tr hb, k + 1, by omega, by go_num, _, rfl, HST.out _ rfl⟩, by simp [intOf]; omega⟩
        · have hkl : k = L.length := by omega
          subst hkl
          have hF2 : F = true := hF.out.trans HF.out
          subst hF2
          clear hF
          go_wp2
          exact ⟨⟨hEw, i + 1, by omega, by go_num⟩, by simp [intOf]; omega⟩
    · go_wp2
      go_ret
      exact ⟨rfl, hE⟩
theorem infoG : (Try.prog.info? 24).map (fun i => (i.zero, i.size, i.bytes)) = some (some (.agg #[.string ⟨#[]⟩, .int .i64 0, .int .i64 0, .slice none 0 0]), 4, 56) := by kernel_rfl
theorem flat_lenG (l : List Ga) : (l.flatMap encG).length = l.length * 4 := by
  induction l with
  | nil => rfl
  | cons x l ih => rw [List.flatMap_cons, List.length_append, ih, List.length_cons, encG_len]; omega
/-- Block g is a row of gauges with room for cap, whose first are l. -/
def OwnA (w : World) (g cap : Nat) (l : List Ga) : Prop :=
  ∃ cur, w.heap[g]? = some (.cells cur 24 (0, 0)) ∧ cur.size = cap * 4 ∧ l.length ≤ cap ∧ cap ≤ maxLen ∧ cur.toList.take (l.length * 4) = l.flatMap encG
theorem OwnA.of_row {w : World} {g cap base : Nat} {l : List Ga} (h : w.ownsRow base 24 4 (.slice (some ⟨g, 0, none⟩) l.length cap) l.length (l.flatMap encG)) : OwnA w g cap l ∧ base ≤ g := by
  rcases h.2 with ⟨h', _⟩ | ⟨g', cap', cur, h', hb, hg, hnc, hcm, hcs, htake⟩
  · simp at h'
  · simp only [Value.slice.injEq, Option.some.injEq, Addr.mk.injEq, and_true, true_and] at h'
    obtain ⟨rfl, rfl⟩ := h'
    exact ⟨⟨cur, hg, hcs, hnc, hcm, htake⟩, hb⟩
theorem OwnA.to_row {w : World} {g cap base : Nat} {l : List Ga} (h : OwnA w g cap l) (hb : base ≤ g) : w.ownsRow base 24 4 (.slice (some ⟨g, 0, none⟩) l.length cap) l.length (l.flatMap encG) := by
  obtain ⟨cur, h1, h2, h3, h4, h5⟩ := h
  exact ⟨flat_lenG l, .inr ⟨g, cap, cur, rfl, hb, h1, h3, h4, h2, h5⟩⟩
theorem OwnA.lt {w : World} {g cap : Nat} {l : List Ga} (h : OwnA w g cap l) : g < w.heap.size := by
  obtain ⟨cur, h1, _⟩ := h
  rcases Nat.lt_or_ge g w.heap.size with h | h
  · exact h
  · rw [Array.getElem?_eq_none h] at h1; cases h1
theorem OwnA.ext {w w' : World} {g cap : Nat} {l : List Ga} (h : OwnA w g cap l) (hw : Ext w w') : OwnA w' g cap l := by
  have hl := h.lt
  obtain ⟨cur, h1, h2⟩ := h
  exact ⟨cur, (hw.block g hl).trans h1, h2⟩
theorem OwnA.cells {w : World} {g cap : Nat} {l : List Ga} (h : OwnA w g cap l) (j : Nat) (v : Value) (hv : (l.flatMap encG)[j]? = some v) : w.cell? ⟨g, j, none⟩ = some v := by
  have := (h.to_row (Nat.zero_le g)).cellAt j (by have := (List.getElem?_eq_some_iff.1 hv).1; rw [flat_lenG] at this; exact this)
  rw [this]; exact hv
theorem OwnA.frozen {w : World} {g cap : Nat} {l : List Ga} (h : OwnA w g cap l) (j : Nat) : w.frozen? ⟨g, j, none⟩ = false := (h.to_row (Nat.zero_le g)).frozenAt j
theorem OwnA.row {w : World} {g cap : Nat} {l : List Ga} (h : OwnA w g cap l) : Row 4 encG w (some ⟨g, 0, none⟩) l :=
  .inr ⟨g, 0, rfl, h.lt, fun i hi j v hv => by rw [Nat.zero_add]; exact h.cells _ _ (flat_get encG_len l i hi j v hv)⟩
def erG (g : Ga) (e : Int) : Ga := ⟨g.s, g.x, e, g.l, g.A, g.c⟩
theorem flat_setG : ∀ (l : List Ga) (i : Nat) (hi : i < l.length) (e : Int), (l.flatMap encG).set (i * 4 + 2) (.int .i64 e) = (l.set i (erG l[i] e)).flatMap encG
  | p :: l, 0, _, e => by simp [encG, erG]
  | p :: l, i + 1, hi, e => by
    have h := flat_setG l i (by simpa using hi) e
    rw [List.set_cons_succ, List.flatMap_cons, List.flatMap_cons, List.getElem_cons_succ, ← h]
    rw [List.set_append_right _ _ (by rw [encG_len]; omega), encG_len, show (i + 1) * 4 + 2 - 4 = i * 4 + 2 by omega]
theorem OwnA.setE {w : World} {g cap : Nat} {l : List Ga} (h : OwnA w g cap l) (i : Nat) (hi : i < l.length) (e : Int) : OwnA (w.setCell ⟨g, i * 4 + 2, none⟩ (.int .i64 e)) g cap (l.set i (erG l[i] e)) := by
  have h1 := (h.to_row (Nat.zero_le g)).stored (i * 4 + 2) (.int .i64 e)
  rw [flat_setG l i hi e] at h1
  exact (OwnA.of_row (l := l.set i (erG l[i] e)) (by simpa using h1.1)).1
def midB (d : Int) (gs : List Ga) (k : Nat) : List Ga := betL d (gs.take k) ++ gs.drop k
theorem midB_zero (d : Int) (gs : List Ga) : midB d gs 0 = gs := by simp [midB, betL]
theorem midB_all (d : Int) (gs : List Ga) : midB d gs gs.length = betL d gs := by simp [midB]
theorem midB_len (d : Int) (gs : List Ga) (k : Nat) (hk : k ≤ gs.length) : (midB d gs k).length = gs.length := by simp [midB, betL]; omega
theorem midB_get (d : Int) (gs : List Ga) (k : Nat) (hk : k < gs.length) : (midB d gs k)[k]'(by rw [midB_len d gs k (by omega)]; exact hk) = gs[k] := by
  unfold midB betL
  rw [List.getElem_append_right (by simp; omega)]
  simp [Nat.min_eq_left (show k ≤ gs.length by omega)]
theorem midB_set (d : Int) (gs : List Ga) (k : Nat) (hk : k < gs.length) : (midB d gs k).set k (betG d gs[k]) = midB d gs (k + 1) := by
  unfold midB
  have h1 : (betL d (gs.take k)).length = k := by simp [betL]; omega
  rw [List.set_append_right _ _ (by rw [h1]; exact Nat.le_refl k), h1, Nat.sub_self, List.drop_eq_getElem_cons hk, List.set_cons_zero, List.take_succ_eq_append_getElem hk]
  unfold betL
  rw [List.map_append, List.append_assoc]
  rfl
theorem addr_addN (b off i : Nat) : (⟨b, off, none⟩ : Addr).add i = ⟨b, off + i, none⟩ := by
  unfold Addr.add
  split
  · rename_i h; subst h; rfl
  · rfl
theorem encG_all (l : List Ga) : ∀ v ∈ l.flatMap encG, v.oneCell' = true := fun v hv => by
  obtain ⟨x, _, hx⟩ := List.mem_flatMap.1 hv
  simp [encG] at hx
  rcases hx with rfl | rfl | rfl | rfl <;> rfl
theorem run_append_none {P : Program} (w : World) (base : Nat) (t ty e : TypeId) (i : TypeInfo) (size : Nat) (ht : P.underlying t = some (.slice e)) (hi : P.info? e = some i)
    (v : Value) (n : Nat) (xs : List Value) (hown : w.ownsRow base e size v n xs) (c : Nat) : (Builtin.append_ #[t, t] ty #[v, .slice none 0 c]).run P w = .ok v w := by
  rcases hown.2 with ⟨rfl, rfl⟩ | ⟨g, cap, cur, rfl, _, _, hnc, _⟩
  · simp [Builtin.append_, run_underlying ht, sizeOf, typeInfo, hi, Builtin.lenOf, Builtin.firstCells]
  · simp [Builtin.append_, run_underlying ht, sizeOf, typeInfo, hi, Builtin.lenOf, Builtin.firstCells, hnc, storeCells]
/-- append of gauges that came in onto an empty row of the call's own. -/
theorem wpList_append_gs {w : World} {ops : Array Oper} {rest : List Oper} {o : Oper} {a : Act} {Q : Exit → Act → World → Prop} (hgd : o.guard = none) (s x : Operand)
    (ho : o.op = .call { callee := .builtin .append, args := #[s, x], argTypes := #[38, 38] })
    (base : Nat) (v : Value) (hs : a.eval s = v) (hown : w.ownsRow base 24 4 v 0 []) (gs : List Ga) (A : Option Addr) (c : Nat) (hx : a.eval x = .slice A gs.length c) (hR : Row 4 encG w A gs) (hl : gs.length ≤ 1000) (hbase : base ≤ w.heap.size)
    (h : ∀ v' w', w'.ownsRow base 24 4 v' gs.length (gs.flatMap encG) → w.grownBy w' v.ownBlock → wpList Try.prog ops Q rest (a.put o.dst v') w') : wpList Try.prog ops Q (o :: rest) a w := by
  obtain ⟨i0, hi0, hzi0, hzi1, hzi2⟩ := info_parts infoG
  by_cases hn : gs = []
  · subst hn
    cases A with
    | none =>
      refine wpList_plain hgd fun K hK => ?_
      have hrun := run_append_none (P := Try.prog) w base 38 o.type 24 i0 4 Try.underlying38 hi0 v 0 [] hown c
      have hx' : a.eval x = .slice none 0 c := hx
      unfold Oper.wp
      simp [execOp, ho, resolve, invoke, builtin, hs, hx', hrun, Result.andThen]
      exact hK _ _ (h v w hown (World.grownBy.refl w _))
    | some ad =>
      exact wpList_append_own w hgd s x 38 ho base 24 i0 _ 4 56 Try.underlying38 hi0 hzi0 hzi1 hzi2 rfl (by decide) v 0 [] hs hown ad 0 c [] hx rfl (fun j u hu => by simp at hu) (fun u hu => by simp at hu) (by unfold maxLen; omega) (by omega) hbase (fun v' w' h1 h2 _ => h v' w' h1 h2)
  · rcases id hR with h0 | ⟨b, off, rfl, _⟩
    · exact absurd h0 hn
    · have hf := hR.flat encG_len (by decide)
      exact wpList_append_own w hgd s x 38 ho base 24 i0 _ 4 56 Try.underlying38 hi0 hzi0 hzi1 hzi2 rfl (by decide) v 0 [] hs hown ⟨b, off, none⟩ gs.length c (gs.flatMap encG) hx (flat_lenG gs) (fun j u hu => by rw [addr_addN]; exact hf j u hu) (encG_all gs) (by unfold maxLen; omega) (by omega) hbase (fun v' w' h1 h2 _ => h v' w' (by simpa using h1) h2)
theorem ownA_cases {w : World} {base : Nat} {v : Value} {L : List Ga} (h : w.ownsRow base 24 4 v L.length (L.flatMap encG)) :
    ∃ A' c', v = .slice A' L.length c' ∧ L.length ≤ c' ∧ (L = [] ∨ ∃ g, A' = some ⟨g, 0, none⟩ ∧ base ≤ g ∧ OwnA w g c' L) := by
  rcases h.2 with ⟨h', h''⟩ | ⟨g', cap', cur, h', hb, hg, hnc, hcm, hcs, htake⟩
  · exact ⟨none, 0, by rw [h', h''], by omega, .inl (List.eq_nil_of_length_eq_zero h'')⟩
  · exact ⟨_, _, h', hnc, .inr ⟨g', rfl, hb, ⟨cur, hg, hcs, hnc, hcm, htake⟩⟩⟩
end Go.Proofs.Ytblmljcgjibfgaa
