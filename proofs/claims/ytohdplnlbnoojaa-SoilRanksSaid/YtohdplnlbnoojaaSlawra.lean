/- SoilRanks: the law returns true for every input. Conditions: none. -/
import Derived.Test.YtohdplnlbnoojaaSrank
import Derived.Test.YtohdplnlbnoojaaSawake
namespace Go.Proofs.Ytohdplnlbnoojaa
open Go Go.RowKit Go.IntWalk

theorem Row.dropZ {w : World} {b off : Nat} {l : List Int} (h : Row 1 encZ w (some ⟨b, off, none⟩) l) (k : Nat) : Row 1 encZ w (some ⟨b, off + k, none⟩) (l.drop k) := by
  rcases h with h | ⟨b', off', h1, h2, h3⟩
  · subst h; exact .inl (by simp)
  · injection h1 with h1
    injection h1 with e1 e2
    subst e1 e2
    refine .inr ⟨b, off + k, rfl, h2, fun i hi j u hu => ?_⟩
    rw [List.length_drop] at hi
    have := h3 (k + i) (by omega) j u (by rw [List.getElem_drop] at hu; exact hu)
    rw [show off + k + i * 1 + j = off + (k + i) * 1 + j by omega]
    exact this
theorem Row.takeZ {w : World} {A : Option Addr} {l : List Int} (h : Row 1 encZ w A l) (k : Nat) : Row 1 encZ w A (l.take k) := by
  rcases h with h | ⟨b', off', h1, h2, h3⟩
  · subst h; exact .inl (by simp)
  · refine .inr ⟨b', off', h1, h2, fun i hi j u hu => ?_⟩
    rw [List.length_take] at hi
    exact h3 i (by omega) j u (by rw [List.getElem_take] at hu; exact hu)
theorem bstep_append_in {α : Type} {P : Program} {ops : Array Oper} {o : Oper} {a : Act} {w : World} {K : Act → World → Prop} {Q : Exit → Act → World → Prop} {E : Prop}
    (hg : o.guard = none) (s x : Operand) (t : TypeId) (hop : o.op = Op.call { callee := Callee.builtin Builtin.append, args := #[s, x], argTypes := #[t, t] })
    (base : Nat) (e : TypeId) (i : TypeInfo) (z : Value) (k bytes : Nat) (ht : P.underlying t = some (.slice e)) (hi : P.info? e = some i) (hz : i.zero = some z) (hsize : i.size = k) (hby : i.bytes = bytes) (hzs : z.cells.size = k) (hk0 : 0 < k)
    (enc : α → List Value) (hk : ∀ x, (enc x).length = k) (h1 : ∀ x, ∀ u ∈ enc x, u.oneCell' = true)
    (v : Value) (n : Nat) (xs : List Value) (hs : a.eval s = v) (hown : w.ownsRow base e k v n xs) (l : List α) (A : Option Addr) (c : Nat) (hx : a.eval x = .slice A l.length c) (hR : Row k enc w A l) (hl : n + l.length ≤ maxLen) (hb : (n + l.length) * bytes ≤ 140737488355328) (hbase : base ≤ w.heap.size)
    (hK : ∀ v' w', w'.ownsRow base e k v' (n + l.length) (xs ++ l.flatMap enc) → w.grownBy w' v.ownBlock → K (a.put o.dst v') w') :
    if Region.wanted o (yielded ops a.tmps) = true then Oper.wp P o a w K Q else E := by
  have hall : ∀ u ∈ l.flatMap enc, u.oneCell' = true := fun u hu => by
    obtain ⟨y, _, hy⟩ := List.mem_flatMap.1 hu
    exact h1 y u hy
  by_cases hn : l = []
  · subst hn
    cases A with
    | none =>
      have hw : Region.wanted o (yielded ops a.tmps) = true := by simp [Region.wanted, hg]
      rw [if_pos hw]
      have hrun := run_append_none (P := P) w base t o.type e i k ht hi v n xs hown c
      have hx' : a.eval x = .slice none 0 c := hx
      unfold Oper.wp
      simp [execOp, hop, resolve, invoke, builtin, hs, hx', hrun, Result.andThen]
      exact hK v w (by simpa using hown) (World.grownBy.refl w _)
    | some ad =>
      exact bstep_append hg s x t hop base e i z k bytes ht hi hz hsize hby hzs hk0 v n xs hs hown ad 0 c [] hx (by simp) (fun j u hu => by simp at hu) (fun u hu => by simp at hu) hl hb hbase (fun v' w' h1 h2 => hK v' w' (by simpa using h1) h2)
  · rcases id hR with h0 | ⟨b, off, rfl, _⟩
    · exact absurd h0 hn
    · have hf := hR.flat hk hk0
      exact bstep_append hg s x t hop base e i z k bytes ht hi hz hsize hby hzs hk0 v n xs hs hown ⟨b, off, none⟩ l.length c (l.flatMap enc) hx (flat_lenK hk l) (fun j u hu => by rw [addr_addN]; exact hf j u hu) hall hl hb hbase (fun v' w' h1 h2 => hK v' w' h1 h2)
theorem slice_from (bA oA n c kk : Nat) (h1 : kk ≤ n) (h3 : kk < c) (w : World) : (Instr.slice 55 (.slice (some ⟨bA, oA, none⟩) n c) (some (.int .i64 kk)) none none).run Try.prog w = .ok (.slice (some ⟨bA, oA + kk, none⟩) (n - kk) (c - kk)) w := by
  have e : Try.prog.underlying 55 = some (.slice (Try.prog.elem 55)) := by kernel_rfl
  rw [run_slice_l w _ _ _ _ e _ _ (by omega) (by omega)]
  have hs : (sizeOf (Try.prog.elem 55)).run Try.prog w = .ok 1 w := by kernel_rfl
  rw [hs]
  simp only [Result.andThen, sliced, Int.toNat_natCast, if_neg (show ¬ c = kk by omega), Option.map_some, Nat.mul_one, addr_addN]
theorem slice_to (bA oA n c kk : Nat) (h2 : kk ≤ c) (h3 : 0 < c) (w : World) : (Instr.slice 55 (.slice (some ⟨bA, oA, none⟩) n c) none (some (.int .i64 kk)) none).run Try.prog w = .ok (.slice (some ⟨bA, oA, none⟩) kk c) w := by
  have e : Try.prog.underlying 55 = some (.slice (Try.prog.elem 55)) := by kernel_rfl
  rw [run_slice_h w _ _ _ _ e _ _ (by omega) (by omega)]
  have hs : (sizeOf (Try.prog.elem 55)).run Try.prog w = .ok 1 w := by kernel_rfl
  rw [hs]
  simp only [Result.andThen, sliced, Int.toNat_natCast, if_neg (show ¬ c = 0 by omega), Option.map_some, Nat.zero_mul, addr_addN, Nat.add_zero, Nat.sub_zero]
theorem any_mem {l : List Int} {x : Int} (h : x ∈ l) : anyN (fun j => decide (gi l j = x)) l.length = true := by
  rw [anyN_iff]
  obtain ⟨j, hj, hx⟩ := List.getElem_of_mem h
  exact ⟨j, hj, by simp only [decide_eq_true_eq]; rw [gi_lt _ _ hj, hx]⟩
theorem rotL_drop (l : List Int) (k : Nat) : (rotL l k).flatMap encZ = (l.drop k).flatMap encZ ++ (l.take k).flatMap encZ := by unfold rotL; rw [List.flatMap_append]
set_option maxHeartbeats 64000000 in
set_option maxRecDepth 100000 in
theorem ra_walk (l : List Int) (num den least a0 a1 : Int) (ha0 : 0 ≤ a0 ∧ a0 < 65536) (ha1 : 0 ≤ a1 ∧ a1 < 65536) (w : World) (A : Option Addr) (c : Nat) (hlc : l.length ≤ c) (hc : c ≤ maxLen) (hA : Row 1 encZ w A l) :
    Calls Try.prog 13 #[.slice A l.length c, .agg #[.int .i64 num, .int .i64 den, .int .i64 least], .agg #[.int .u16 a0, .int .u16 a1]] w fun e w' => e = .returned (.bool true) ∧ Ext w w' := by
  unfold maxLen at hc
  by_cases h65 : (65 : Int) < (l.length : Int)
  · clear hA
    go_enter Try.func13, Try.ntmps13
    go_wp2_with (first | (go_at_call 14; with_reducible refine Calls.mono (awake_c _) ?_; rintro e wa ⟨rfl, hb⟩; have hc := hb.ccell; have hf := hb.frz; have hs := hb.sz; (try simp at hs); (try have t0 := hs (w.heap.size) (by first | assumption | omega)); (try have t1 := hs (w.heap.size + 1) (by first | assumption | omega)); (try have t2 := hs (w.heap.size) (by first | assumption | omega)); (try have t3 := hs (w.heap.size) (by first | assumption | omega)); (try have t4 := hs (w.heap.size) (by first | assumption | omega)); (try have t5 := hs (w.heap.size) (by first | assumption | omega))))
    go_ret
    exact ⟨rfl, by (repeat (first | with_reducible exact Ext.rfl' _ | with_reducible assumption | with_reducible refine Ext.al ?_ _ | with_reducible refine Ext.dr ?_ | with_reducible refine Ext.st ?_ (by simp) _ | with_reducible refine Ext.tr ?_ (by assumption)))⟩
  have HRK := Lib.hid (fun w' (hw : Ext w w') => ranked_c l num den least w' A c (by omega) (hA.ext hw))
  by_cases hE : rkE l num den least = 0
  case neg =>
    rw [rkV_no hE] at HRK
    have hE' : (rkE l num den least != 0) = true := by simp [hE]
    generalize rkE l num den least = E at *
    clear hA hE
    go_enter Try.func13, Try.ntmps13
    go_wp2_with (first | (go_at_call 14; with_reducible refine Calls.mono (awake_c _) ?_; rintro e wa ⟨rfl, hb⟩; have hc := hb.ccell; have hf := hb.frz; have hs := hb.sz; (try simp at hs); (try have t0 := hs (w.heap.size) (by first | assumption | omega)); (try have t1 := hs (w.heap.size + 1) (by first | assumption | omega)); (try have t2 := hs (w.heap.size) (by first | assumption | omega)); (try have t3 := hs (w.heap.size) (by first | assumption | omega)); (try have t4 := hs (w.heap.size) (by first | assumption | omega)); (try have t5 := hs (w.heap.size) (by first | assumption | omega))) | (go_at_call 57; with_reducible refine Calls.mono (HRK.out _ (by (repeat (first | with_reducible exact Ext.rfl' _ | with_reducible assumption | with_reducible refine Ext.al ?_ _ | with_reducible refine Ext.dr ?_ | with_reducible refine Ext.st ?_ (by simp) _ | with_reducible refine Ext.tr ?_ (by assumption))))) ?_; rintro e w2 ⟨rfl, hb⟩; have hc := hb.ccell; have hf := hb.frz; have hs := hb.sz; (try simp at hs); (try have t0 := hs (w.heap.size) (by first | assumption | omega)); (try have t1 := hs (w.heap.size + 1) (by first | assumption | omega)); (try have t2 := hs (w.heap.size) (by first | assumption | omega)); (try have t3 := hs (w.heap.size) (by first | assumption | omega)); (try have t4 := hs (w.heap.size) (by first | assumption | omega)); (try have t5 := hs (w.heap.size) (by first | assumption | omega))))
    go_ret
    exact ⟨rfl, by (repeat (first | with_reducible exact Ext.rfl' _ | with_reducible assumption | with_reducible refine Ext.al ?_ _ | with_reducible refine Ext.dr ?_ | with_reducible refine Ext.st ?_ (by simp) _ | with_reducible refine Ext.tr ?_ (by assumption)))⟩
  have ok := rkE_ok hE
  rw [hE, rkV_ok hE] at HRK
  have hpos : 0 < l.length := ok.pos
  have hlen := ok.len
  obtain ⟨bA, oA, rfl, hbA, _⟩ := hA.p1 hpos
  obtain ⟨kk, hkk⟩ : ∃ kk : Nat, a0 % (l.length : Int) = kk := ⟨(a0 % (l.length : Int)).toNat, by have := Int.emod_nonneg a0 (show (l.length : Int) ≠ 0 by omega); omega⟩
  have hkl : kk < l.length := by have := Int.emod_lt_of_pos a0 (show 0 < (l.length : Int) by omega); omega
  have hlz : ((l.length : Int) == 0) = false := by rw [beq_eq_false_iff_ne]; omega
  have HRA := Lib.hid hA
  have HOK := Lib.hid ok
  obtain ⟨V, hV⟩ : ∃ V, rkN l (rkP l.length num den) = V := ⟨_, rfl⟩
  rw [hV] at HRK
  have HVV := Lib.hid hV
  clear hV
  clear hA hE ok
  go_enter Try.func13, Try.ntmps13
  go_upto_region 9 with (first | (go_at_call 14; with_reducible refine Calls.mono (awake_c _) ?_; rintro e wa ⟨rfl, hb⟩; have hc := hb.ccell; have hf := hb.frz; have hs := hb.sz; (try simp at hs); (try have t0 := hs (w.heap.size) (by first | assumption | omega)); (try have t1 := hs (w.heap.size + 1) (by first | assumption | omega)); (try have t2 := hs (w.heap.size) (by first | assumption | omega)); (try have t3 := hs (w.heap.size) (by first | assumption | omega)); (try have t4 := hs (w.heap.size) (by first | assumption | omega)); (try have t5 := hs (w.heap.size) (by first | assumption | omega))) | (go_at_call 57; with_reducible refine Calls.mono (HRK.out _ (by (repeat (first | with_reducible exact Ext.rfl' _ | with_reducible assumption | with_reducible refine Ext.al ?_ _ | with_reducible refine Ext.dr ?_ | with_reducible refine Ext.st ?_ (by simp) _ | with_reducible refine Ext.tr ?_ (by assumption))))) ?_; rintro e w2 ⟨rfl, hb⟩; have hc := hb.ccell; have hf := hb.frz; have hs := hb.sz; (try simp at hs); (try have t0 := hs (w.heap.size) (by first | assumption | omega)); (try have t1 := hs (w.heap.size + 1) (by first | assumption | omega)); (try have t2 := hs (w.heap.size) (by first | assumption | omega)); (try have t3 := hs (w.heap.size) (by first | assumption | omega)); (try have t4 := hs (w.heap.size) (by first | assumption | omega)); (try have t5 := hs (w.heap.size) (by first | assumption | omega))))
  refine wp_name (fun W hW => ?_)
  have hEW : Ext w W := by rw [hW]; (repeat (first | with_reducible exact Ext.rfl' _ | with_reducible assumption | with_reducible refine Ext.al ?_ _ | with_reducible refine Ext.dr ?_ | with_reducible refine Ext.st ?_ (by simp) _ | with_reducible refine Ext.tr ?_ (by assumption)))
  have q0 : W.cell? ⟨w.heap.size, 0, none⟩ = some (.int .i64 num) := by rw [hW]; simp [*, go_sem]
  have q1 : W.cell? ⟨w.heap.size, 1, none⟩ = some (.int .i64 den) := by rw [hW]; simp [*, go_sem]
  have q2 : W.cell? ⟨w.heap.size, 2, none⟩ = some (.int .i64 least) := by rw [hW]; simp [*, go_sem]
  have b1 : W.cell? ⟨w.heap.size + 1, 1, none⟩ = some (.int .u16 a1) := by rw [hW]; simp [*, go_sem]
  have z1 : w.heap.size + 1 < W.heap.size := by rw [hW]; assumption
  have z0 : w.heap.size < W.heap.size := by omega
  have hAW := Lib.hid (HRA.out.ext hEW)
  clear hW hb hc hf hs t0 t1 t2 t3 t4 t5 HRK
  rw [hkk]
  clear hkk
  have hk5 : kk < c := by omega
  have hk1' : kk ≤ l.length := by omega
  have hk2' : kk ≤ c := by omega
  have hk3 : ¬ c = kk := by omega
  have hk4 : ¬ c = 0 := by omega
  have hmt : (l.take kk).length = kk := by rw [List.length_take]; omega
  have HMT := Lib.hid hmt
  have hdl : 0 < (l.drop kk).length := by rw [List.length_drop]; omega
  have HDL := Lib.hid hdl
  have HCI := Lib.hid (fun w' (hw : Ext W w') => by
    have h := copyInts_c (l.drop kk) w' (some ⟨bA, oA + kk, none⟩) (c - kk) (by rw [List.length_drop]; omega) (Row.ext (hAW.out.dropZ kk) hw)
    rw [List.length_drop] at h
    exact h)
  have hsub : (l.drop kk).length = l.length - kk := List.length_drop
  have HSUB := Lib.hid hsub
  obtain ⟨i0, hi, hzi0, hzi1, hzi2⟩ := info_parts infoZ
  have HI := Lib.hid (And.intro hi (And.intro hzi0 (And.intro hzi1 hzi2)))
  clear hi hzi0 hzi1 hzi2 hmt hdl hsub
  refine wp_region_held_drew (S := (fun w' => Ext W w')) (by kernel_rfl) ?_ (fun hHeld => ?_)
  · (try dsimp only)
    (repeat (first | with_reducible exact Ext.rfl' _ | with_reducible assumption | with_reducible refine Ext.al ?_ _ | with_reducible refine Ext.dr ?_ | with_reducible refine Ext.st ?_ (by first | (simp; done) | ((try have s2 := Below.size hb2); (try have s3 := Below.size hb3); (try have s4 := Below.size hb4); (try simp at s2); (try simp at s3); (try simp at s4); (try simp); omega)) _ | with_reducible refine Ext.tr ?_ (by with_reducible assumption)))
  refine wpAnyH_take (i := 0) (v := _) rfl (by kernel_rfl) (by kernel_rfl) (by kernel_rfl) (fun _ _ _ h => h) (Or.inl ⟨by kernel_rfl, by intro w hSw; (try dsimp only at hSw); go_simp; (try with_reducible rfl)⟩) (by assumption) ?_
  (try simp only [Act.put, List.getElem_toArray, List.getElem_cons_zero, List.setIfInBounds_toArray, List.set_cons_zero, List.set_cons_succ])
  refine wpAnyH_take (i := 1) (v := _) rfl (by kernel_rfl) (by kernel_rfl) (by kernel_rfl) (fun _ _ _ h => h) (Or.inl ⟨by kernel_rfl, by intro w hSw; (try dsimp only at hSw); go_simp; (try with_reducible rfl)⟩) (by assumption) ?_
  (try simp only [Act.put, List.getElem_toArray, List.getElem_cons_zero, List.getElem_cons_succ, List.setIfInBounds_toArray, List.set_cons_zero, List.set_cons_succ])
  refine wpAnyH_take (i := 2) (v := _) rfl (by kernel_rfl) (by kernel_rfl) (by kernel_rfl) (fun _ _ _ h => h) (Or.inl ⟨by kernel_rfl, by intro w hSw; (try dsimp only at hSw); go_simp; (try with_reducible rfl)⟩) (by assumption) ?_
  (try simp only [Act.put, List.getElem_toArray, List.getElem_cons_zero, List.getElem_cons_succ, List.setIfInBounds_toArray, List.set_cons_zero, List.set_cons_succ])
  refine wpAnyH_take (i := 4) (v := _) rfl (by kernel_rfl) (by kernel_rfl) (by kernel_rfl) (fun _ _ _ h => h) (Or.inl ⟨by kernel_rfl, by intro w hSw; (try dsimp only at hSw); go_simp; (try with_reducible rfl)⟩) (by assumption) ?_
  (try simp only [Act.put, List.getElem_toArray, List.getElem_cons_zero, List.getElem_cons_succ, List.setIfInBounds_toArray, List.set_cons_zero, List.set_cons_succ])
  refine wpAnyH_take (i := 5) (v := _) rfl (by kernel_rfl) (by kernel_rfl) (by kernel_rfl) (fun _ _ _ h => h) (Or.inl ⟨by kernel_rfl, by intro w hSw; (try dsimp only at hSw); go_simp; (try with_reducible rfl)⟩) (by assumption) ?_
  (try simp only [Act.put, List.getElem_toArray, List.getElem_cons_zero, List.getElem_cons_succ, List.setIfInBounds_toArray, List.set_cons_zero, List.set_cons_succ])
  refine wpAnyH_take (i := 6) (v := _) rfl (by kernel_rfl) (by kernel_rfl) (by kernel_rfl) (fun _ _ _ h => h) (Or.inl ⟨by kernel_rfl, by intro w hSw; (try dsimp only at hSw); go_simp; (try with_reducible rfl)⟩) (by assumption) ?_
  (try simp only [Act.put, List.getElem_toArray, List.getElem_cons_zero, List.getElem_cons_succ, List.setIfInBounds_toArray, List.set_cons_zero, List.set_cons_succ])
  refine wpAnyH_ready (rs := [3]) (by kernel_rfl) (by simp) ?_
  refine AllReadyH.cons (o := _) rfl (fun K hK => ?_) AllReadyH.nil
  go_simp
  (go_at_call 58; (with_reducible refine Calls.mono (HCI.out _ (by (repeat (first | with_reducible exact Ext.rfl' _ | with_reducible assumption | with_reducible refine Ext.al ?_ _ | with_reducible refine Ext.dr ?_ | with_reducible refine Ext.st ?_ (by first | (simp; done) | ((try have s2 := Below.size hb2); (try have s3 := Below.size hb3); (try have s4 := Below.size hb4); (try simp at s2); (try simp at s3); (try simp at s4); (try simp); omega)) _ | with_reducible refine Ext.tr ?_ (by with_reducible assumption))))) ?_); rintro e w3 ⟨⟨A3, c3, rfl, hN3⟩, hb3⟩; obtain ⟨g3, hA3, hg3, hO3⟩ := newz_some HDL.out hN3; subst hA3; have hg3W : W.heap.size ≤ g3 := (by simpa using hg3))
  refine hK.out _ _ ?_ (fun hHeld => ?_)
  · (try dsimp only); (repeat (first | with_reducible exact Ext.rfl' _ | with_reducible assumption | with_reducible refine Ext.al ?_ _ | with_reducible refine Ext.dr ?_ | with_reducible refine Ext.st ?_ (by first | (simp; done) | ((try have s2 := Below.size hb2); (try have s3 := Below.size hb3); (try have s4 := Below.size hb4); (try simp at s2); (try simp at s3); (try simp at s4); (try simp); omega)) _ | with_reducible refine Ext.tr ?_ (by with_reducible assumption)))
  clear hK K
  (try simp only [Act.put, List.getElem_toArray, List.getElem_cons_zero, List.getElem_cons_succ, List.setIfInBounds_toArray, List.set_cons_zero, List.set_cons_succ])
  refine wpAnyH_ready (rs := [7]) (by kernel_rfl) (by simp) ?_
  refine AllReadyH.cons (o := _) rfl (fun K hK => ?_) AllReadyH.nil
  refine bstep_append_in rfl (.tmp 51) (.tmp 54) 55 rfl W.heap.size 3 i0 _ 1 8 Try.underlying55 HI.out.1 HI.out.2.1 HI.out.2.2.1 HI.out.2.2.2 rfl (by decide) encZ encZ_len encZ_one _ (l.drop kk).length ((l.drop kk).flatMap encZ) rfl (OwnK.to_row encZ_len (OwnK.ext hO3 (by (repeat (first | with_reducible exact Ext.rfl' _ | with_reducible assumption | with_reducible refine Ext.al ?_ _ | with_reducible refine Ext.dr ?_ | with_reducible refine Ext.st ?_ (by first | (simp; done) | ((try have s2 := Below.size hb2); (try have s3 := Below.size hb3); (try have s4 := Below.size hb4); (try simp at s2); (try simp at s3); (try simp at s4); (try simp); omega)) _ | with_reducible refine Ext.tr ?_ (by with_reducible assumption))))) hg3W) (l.take kk) (some ⟨bA, oA, none⟩) c (by rw [HMT.out]; rfl) (Row.ext (hAW.out.takeZ kk) (by (repeat (first | with_reducible exact Ext.rfl' _ | with_reducible assumption | with_reducible refine Ext.al ?_ _ | with_reducible refine Ext.dr ?_ | with_reducible refine Ext.st ?_ (by first | (simp; done) | ((try have s2 := Below.size hb2); (try have s3 := Below.size hb3); (try have s4 := Below.size hb4); (try simp at s2); (try simp at s3); (try simp at s4); (try simp); omega)) _ | with_reducible refine Ext.tr ?_ (by with_reducible assumption))))) (by have h8 := HMT.out; have h9 := HSUB.out; unfold maxLen; omega) (by have h8 := HMT.out; have h9 := HSUB.out; omega) (by have h9 := Below.size hb3; (try simp at h9); omega) ?_; intro v' w4 hown hgrow
  refine hK.out _ _ ?_ (fun hHeld => ?_)
  · (try dsimp only); exact Below.grown (show Ext W _ from by (repeat (first | with_reducible exact Ext.rfl' _ | with_reducible assumption | with_reducible refine Ext.al ?_ _ | with_reducible refine Ext.dr ?_ | with_reducible refine Ext.st ?_ (by first | (simp; done) | ((try have s2 := Below.size hb2); (try have s3 := Below.size hb3); (try have s4 := Below.size hb4); (try simp at s2); (try simp at s3); (try simp at s4); (try simp); omega)) _ | with_reducible refine Ext.tr ?_ (by with_reducible assumption)))) hgrow (Below.size (show Ext W _ from by (repeat (first | with_reducible exact Ext.rfl' _ | with_reducible assumption | with_reducible refine Ext.al ?_ _ | with_reducible refine Ext.dr ?_ | with_reducible refine Ext.st ?_ (by first | (simp; done) | ((try have s2 := Below.size hb2); (try have s3 := Below.size hb3); (try have s4 := Below.size hb4); (try simp at s2); (try simp at s3); (try simp at s4); (try simp); omega)) _ | with_reducible refine Ext.tr ?_ (by with_reducible assumption))))) (by intro q hq; have hq2 : some g3 = some q := hq; injection hq2 with hq2; omega)
  clear hK K
  (try simp only [Act.put, List.getElem_toArray, List.getElem_cons_zero, List.getElem_cons_succ, List.setIfInBounds_toArray, List.set_cons_zero, List.set_cons_succ])
  refine wpAnyH_take (i := 8) (v := _) rfl (by kernel_rfl) (by kernel_rfl) (by kernel_rfl) (fun _ _ _ h => h) (Or.inl ⟨by kernel_rfl, by intro w hSw; (try dsimp only at hSw); go_simp; (try with_reducible rfl)⟩) (by assumption) ?_
  (try simp only [Act.put, List.getElem_toArray, List.getElem_cons_zero, List.getElem_cons_succ, List.setIfInBounds_toArray, List.set_cons_zero, List.set_cons_succ])
  refine wpAnyH_done (by kernel_rfl) ?_ _
  obtain ⟨A4, c4, hv, hN4⟩ := NewZ.of (l := rotL l kk) (rotL_drop l kk).symm (by rw [HSUB.out, HMT.out, rotL_len]; omega) hown
  subst hv
  obtain ⟨g4, hA4, hg4, hO4⟩ := newz_some (by rw [rotL_len]; exact hpos) hN4
  subst hA4
  rw [rotL_len]
  have hx : Ext W w4 := hHeld
  have hO4 := Lib.hid hO4
  have hEd := hEW.tr hx
  have okR : RkO (rotL l kk) num den least := HOK.out.of_mem (rotL_len l kk) (fun x hx => HOK.out.mem x ((rotL_perm l kk).mem_iff.1 hx))
  have hER := rkE_mk okR
  have hVR : rkV (rotL l kk) num den least = V := by
    rw [rkV_ok hER, rotL_len, ← HVV.out]
    exact (rkN_perm HOK.out.place.1 (rotL_perm l kk).symm).symm
  have HR2 := Lib.hid (fun w' (hw : Ext w4 w') => by
    have h := ranked_c (rotL l kk) num den least w' (some ⟨g4, 0, none⟩) c4 (by rw [rotL_len]; omega) ((hO4.out.row encZ_len).ext hw)
    rw [rotL_len, hVR, hER] at h
    exact h)
  have hy0 : 0 ≤ gi (rotL l kk) 0 ∧ gi (rotL l kk) 0 ≤ 1000000000 := okR.va 0 (by rw [rotL_len]; exact hpos)
  obtain ⟨y, hy⟩ : ∃ y, gi (rotL l kk) 0 = y := ⟨_, rfl⟩
  rw [hy] at hy0
  have okT : RkO ((rotL l kk).set 0 (min (y + a1) 1000000000)) num den least := okR.of_mem (by simp) (fun x hx => by
    rcases List.mem_or_eq_of_mem_set hx with h | h
    · exact okR.mem x h
    · rw [h]; omega)
  have hET := rkE_mk okT
  obtain ⟨U, hU⟩ : ∃ U, rkV ((rotL l kk).set 0 (min (y + a1) 1000000000)) num den least = U := ⟨_, rfl⟩
  have hUV : V ≤ U := by
    rw [← hU, ← hVR, rkV_ok hET, rkV_ok hER, List.length_set]
    exact rkN_mono okR.place.1 (by rw [List.length_set]; exact okR.place.1) (fun x => cntLe_set0 (by rw [hy]; omega) (by rw [rotL_len]; exact hpos) x)
  have HR3 := Lib.hid (fun w' hr => by
    have h := ranked_c ((rotL l kk).set 0 (min (y + a1) 1000000000)) num den least w' (some ⟨g4, 0, none⟩) c4 (by rw [List.length_set, rotL_len]; omega) hr
    rw [List.length_set, rotL_len, hU, hET] at h
    exact h)
  have hmem : V ∈ l := by rw [← HVV.out]; exact rkN_mem HOK.out.place.1
  have HFN := Lib.hid (any_mem hmem)
  have hcn : (l.length : Int) * num ≤ (cntLe l V : Int) * den := by
    have h1 := rkN_cnt HOK.out.place.1
    rw [HVV.out] at h1
    have h2 := HOK.out.place.2.2
    have h3 : ((rkP l.length num den : Int) + 1) * den ≤ (cntLe l V : Int) * den := Int.mul_le_mul_of_nonneg_right (by omega) (by have := HOK.out.d; omega)
    omega
  have hcl := cntLe_le l V
  obtain ⟨d1, d2⟩ := HOK.out.d
  obtain ⟨n1, n2⟩ := HOK.out.n
  have m1 : (l.length : Int) * num ≤ 60 * 1000 := Int.mul_le_mul (by omega) (by omega) (by omega) (by omega)
  have m2 : 0 ≤ (l.length : Int) * num := Int.mul_nonneg (by omega) (by omega)
  have m3 : (cntLe l V : Int) * den ≤ 60 * 1000 := Int.mul_le_mul (by omega) (by omega) (by omega) (by omega)
  obtain ⟨P1, hP1⟩ : ∃ P, (cntLe l V : Int) * den = P := ⟨_, rfl⟩
  obtain ⟨P2, hP2⟩ : ∃ P, (l.length : Int) * num = P := ⟨_, rfl⟩
  rw [hP1, hP2] at hcn
  rw [hP2] at m1 m2
  rw [hP1] at m3
  have ww1 : IntKind.i64.wrap ((cntLe l V : Int) * den) = P1 := by rw [hP1]; exact IntWalk.i64_in _ (by omega)
  have ww2 : IntKind.i64.wrap ((l.length : Int) * num) = P2 := by rw [hP2]; exact IntWalk.i64_in _ (by omega)
  have WW := Lib.hid (And.intro ww1 (And.intro ww2 hcn))
  have HUV := Lib.hid hUV
  have HY := Lib.hid hy
  have e0 := (hx.ccell _ 0 z0).trans q0
  have e1 := (hx.ccell _ 1 z0).trans q1
  have e2 := (hx.ccell _ 2 z0).trans q2
  have b1 := (hx.ccell _ 1 z1).trans b1
  have z0 := hx.sz _ z0
  have z1 := hx.sz _ z1
  have hwg : w.heap.size + 1 < g4 := by omega
  have HC := Lib.hid hcl
  clear hHeld hown hN4 hO3 hN3 hb3 okR hER hVR okT hET hU hUV hmem hcn hcl n1 n2 m1 m2 m3 hP1 hP2 ww1 ww2 hy d1 d2 hx HCI HI HMT HDL HSUB q0 q1 q2 hEW hAW hk1' hk2' hk3 hk4 hk5
  have hAD := Lib.hid (HRA.out.ext hEd)
  go_wp2_with (first | (go_at_call 57; with_reducible refine Calls.mono (HR2.out _ (by (repeat (first | with_reducible exact Ext.rfl' _ | with_reducible assumption | with_reducible refine Ext.al ?_ _ | with_reducible refine Ext.dr ?_ | with_reducible refine Ext.st ?_ (by simp) _ | with_reducible refine Ext.tr ?_ (by assumption))))) ?_; rintro e w5 ⟨rfl, hb⟩; have hc := hb.ccell; have hf := hb.frz; have hs := hb.sz; (try simp at hs); (try have t0 := hs (w.heap.size) (by first | assumption | omega)); (try have t1 := hs (w.heap.size + 1) (by first | assumption | omega)); (try have t2 := hs (w.heap.size) (by first | assumption | omega)); (try have t3 := hs (w.heap.size) (by first | assumption | omega)); (try have t4 := hs (w.heap.size) (by first | assumption | omega)); (try have t5 := hs (w.heap.size) (by first | assumption | omega))))
  have hE5 : Ext w4 w5 := by assumption
  have hEd5 := hEd.tr hE5
  have hO5 := Lib.hid (hO4.out.ext hE5)
  have k0 := (hE5.ccell _ 0 z0).trans e0
  have k1 := (hE5.ccell _ 1 z0).trans e1
  have k2 := (hE5.ccell _ 2 z0).trans e2
  have kb := (hE5.ccell _ 1 z1).trans b1
  have y1 := hE5.sz _ z1
  have y0 := hE5.sz _ z0
  have hAZ := Lib.hid (hAD.out.ext hE5)
  have HCS := Lib.hid (fun (k : Nat) (hk : k < l.length) => cntLe_take l V hk)
  clear hb hc hf hs t0 t1 t2 t3 t4 t5 hO4 e0 e1 e2 b1 z0 z1 hE5 hEd HR2 HRA hAD
  go_loopw [13, 14, 15] (fun f m i wr => Ext w5 wr ∧ ∃ k : Nat, k ≤ l.length ∧ i = .int .i64 k ∧ ∃ fb : Bool, f = .bool fb ∧ ∃ n : Nat, m = .int .i64 n ∧ Hid (n = cntLe (l.take k) V) ∧ Hid (fb = anyN (fun j => decide (gi l j = V)) k)) (fun _ _ i _ => l.length - (intOf i).toNat)
  case atStart => exact ⟨Ext.rfl' _, 0, Nat.zero_le _, rfl, false, rfl, 0, rfl, Lib.hid (by simp [cntLe]), Lib.hid rfl⟩
  case round =>
    obtain ⟨hE, k, hk, rfl, fb, rfl, n, rfl, hN, hF⟩ := hrel
    have hEr := hEd5.tr hE
    by_cases hlt : k < l.length
    · obtain ⟨b', off', hbe, hb0, hcell⟩ := hAZ.out.p1 hlt
      injection hbe with hbe
      injection hbe with h1 h2
      subst h1 h2
      have x0 := hcell _ hE
      rw [← gi_lt] at x0
      have zb := hE.sz _ hb0
      have hcs := HCS.out k hlt
      have hnb := cntLe_le (l.take k) V
      rw [← hN.out, List.length_take] at hnb
      have hki : (k : Int) < (l.length : Int) := by omega
      have hNS : Hid (cntLe (l.take (k + 1)) V = n + if gi l k ≤ V then 1 else 0) := Lib.hid (by rw [hcs, hN.out])
      have hFS : Hid (anyN (fun j => decide (gi l j = V)) (k + 1) = (fb || decide (gi l k = V))) := Lib.hid (by rw [anyN, hF.out])
      clear hcs hcell hN hF
      generalize gi l k = x at *
      rcases Int.lt_trichotomy x V with hx | hx | hx
      · have hle : x ≤ V := by omega
        have hne : (x == V) = false := by rw [beq_eq_false_iff_ne]; omega
        have hN2 := hNS.out
        have hF2 := hFS.out
        rw [if_pos hle] at hN2
        rw [decide_eq_false (show ¬ x = V by omega)] at hF2
        have HN2 := Lib.hid hN2
        have HF2 := Lib.hid hF2
        clear hN2 hF2 hNS hFS
        cases fb
        all_goals
          go_wp2
          exact ⟨⟨hE, k + 1, by omega, by go_num, _, rfl, n + 1, by go_num, Lib.hid (by rw [HN2.out]), Lib.hid (by rw [HF2.out]; rfl)⟩, by simp [intOf]; omega⟩
      · subst hx
        have hle : x ≤ x := Int.le_refl _
        have hne : (x == x) = true := by simp
        have hN2 := hNS.out
        have hF2 := hFS.out
        rw [if_pos hle] at hN2
        rw [decide_eq_true rfl] at hF2
        have HN2 := Lib.hid hN2
        have HF2 := Lib.hid hF2
        clear hN2 hF2 hNS hFS
        cases fb
        all_goals
          go_wp2
          exact ⟨⟨hE, k + 1, by omega, by go_num, _, rfl, n + 1, by go_num, Lib.hid (by rw [HN2.out]), Lib.hid (by rw [HF2.out]; rfl)⟩, by simp [intOf]; omega⟩
      · have hle : ¬ x ≤ V := by omega
        have hne : (x == V) = false := by rw [beq_eq_false_iff_ne]; omega
        have hN2 := hNS.out
        have hF2 := hFS.out
        rw [if_neg hle] at hN2
        rw [decide_eq_false (show ¬ x = V by omega)] at hF2
        have HN2 := Lib.hid hN2
        have HF2 := Lib.hid hF2
        clear hN2 hF2 hNS hFS
        cases fb
        all_goals
          go_wp2
          exact ⟨⟨hE, k + 1, by omega, by go_num, _, rfl, n, rfl, Lib.hid (by rw [HN2.out]; rfl), Lib.hid (by rw [HF2.out]; rfl)⟩, by simp [intOf]; omega⟩
    · have hks : k = l.length := by omega
      have hN2 := hN.out
      have hF2 := hF.out
      rw [hks, List.take_length] at hN2
      rw [hks, HFN.out] at hF2
      subst hN2 hF2
      clear hks hN hF hk
      obtain ⟨wl, hwl⟩ : ∃ x, x = wr := ⟨_, rfl⟩
      subst hwl
      have hO6 := Lib.hid (hO5.out.ext hE)
      have lz := hO6.out.z (i := 0) (by rw [rotL_len]; exact hpos)
      rw [HY.out] at lz
      have fg := hO6.out.frozen encZ_len 0
      have zg := hO6.out.lt
      have e0 := (hE.ccell _ 0 y0).trans k0
      have e1 := (hE.ccell _ 1 y0).trans k1
      have e2 := (hE.ccell _ 2 y0).trans k2
      have eb := (hE.ccell _ 1 y1).trans kb
      have x1 := hE.sz _ y1
      have x0 := hE.sz _ y0
      have hOS : Hid (∀ w', Ext wl w' → OwnK 3 1 encZ (w'.setCell ⟨g4, 0, none⟩ (.int .i64 (min (y + a1) 1000000000))) g4 c4 ((rotL l kk).set 0 (min (y + a1) 1000000000))) := Lib.hid (fun w' hw => (hO6.out.ext hw).setZ 0 (by rw [rotL_len]; exact hpos) _)
      clear hO5 hO6 hE
      go_upto_region 20 with fail
      refine region_grow_tail 10 (by kernel_rfl) (by kernel_rfl) ?_
      simp only [List.take_succ_cons, List.take_zero, List.drop_succ_cons, List.drop_zero]
      repeat (first | go_big_quiet_step (first | fail | fail) | quiet_step (first | fail | fail))
      refine wpQuiet_nil ?_
      intro w1 hb
      have hc := hb.ccell
      have hf := hb.frz
      have hs := hb.sz
      (try simp at hs); (try have hs0 := hs w.heap.size (by omega)); (try have hs1 := hs (w.heap.size + 1) (by omega)); (try have hs2 := hs (w.heap.size + 1 + 1) (by omega)); (try have hs3 := hs (w.heap.size + 1 + 1 + 1) (by omega))
      have hE7 : Ext wl w1 := by assumption
      have f1 := (hb.frz g4 0 zg).trans fg
      have l1 := (hb.ccell g4 0 zg).trans lz
      have zg1 := hs g4 zg
      have hT7 := tch_set (tch_ext (tch_refl wl g4) hE7) 0 (.int .i64 (min (y + a1) 1000000000))
      have hO7 := Lib.hid (hOS.out _ hE7)
      have d0 : (w1.setCell ⟨g4, 0, none⟩ (.int .i64 (min (y + a1) 1000000000))).cell? ⟨w.heap.size, 0, none⟩ = some (.int .i64 num) := (grown_cellS hT7 x0 (by intro e; injection e with e; omega) 0).trans e0
      have d1 : (w1.setCell ⟨g4, 0, none⟩ (.int .i64 (min (y + a1) 1000000000))).cell? ⟨w.heap.size, 1, none⟩ = some (.int .i64 den) := (grown_cellS hT7 x0 (by intro e; injection e with e; omega) 1).trans e1
      have d2 : (w1.setCell ⟨g4, 0, none⟩ (.int .i64 (min (y + a1) 1000000000))).cell? ⟨w.heap.size, 2, none⟩ = some (.int .i64 least) := (grown_cellS hT7 x0 (by intro e; injection e with e; omega) 2).trans e2
      have hE8 := tch_to_ext hT7 hEr (by omega)
      have hx0 : w.heap.size < (w1.setCell ⟨g4, 0, none⟩ (.int .i64 (min (y + a1) 1000000000))).heap.size := Nat.lt_of_lt_of_le x0 hT7.size
      clear hc hf hs hb e0 e1 e2 eb hT7 hOS
      go_upto_region 21 with fail
      generalize w1.setCell ⟨g4, 0, none⟩ (.int .i64 (min (y + a1) 1000000000)) = w8 at *
      have HR3x := Lib.hid (fun w' (hw : Ext w8 w') => HR3.out w' ((hO7.out.row encZ_len).ext hw))
      obtain ⟨ww1, ww2, hge⟩ := WW.out
      have hUV := HUV.out
      have hcl := HC.out
      clear HR3 hO7 HFN HCS HOK HVV HY WW HUV HC hAZ k0 k1 k2 kb
      generalize cntLe l V = N at *
      go_wp2_with (first | (go_at_call 57; with_reducible refine Calls.mono (HR3x.out _ (by (repeat (first | with_reducible exact Ext.rfl' _ | with_reducible assumption | with_reducible refine Ext.al ?_ _ | with_reducible refine Ext.dr ?_ | with_reducible refine Ext.st ?_ (by simp) _ | with_reducible refine Ext.tr ?_ (by assumption))))) ?_; rintro e w9 ⟨rfl, hb⟩; have hc := hb.ccell; have hf := hb.frz; have hs := hb.sz; (try simp at hs); (try have t0 := hs (w.heap.size) (by first | assumption | omega)); (try have t1 := hs (w.heap.size) (by first | assumption | omega)); (try have t2 := hs (w.heap.size) (by first | assumption | omega)); (try have t3 := hs (w.heap.size) (by first | assumption | omega)); (try have t4 := hs (w.heap.size) (by first | assumption | omega)); (try have t5 := hs (w.heap.size) (by first | assumption | omega))))
      go_ret
      exact ⟨ret_bool (by first | rfl | (simp; done) | (simp; omega)), hE8.tr (by (repeat (first | with_reducible exact Ext.rfl' _ | with_reducible assumption | with_reducible refine Ext.al ?_ _ | with_reducible refine Ext.dr ?_ | with_reducible refine Ext.st ?_ (by simp) _ | with_reducible refine Ext.tr ?_ (by assumption))))⟩
end Go.Proofs.Ytohdplnlbnoojaa
