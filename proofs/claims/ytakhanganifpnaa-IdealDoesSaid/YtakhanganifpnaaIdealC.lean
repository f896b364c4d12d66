/- The code's ideal world: what it promises, in the document's words; tags, keys, digests. -/
import Derived.Test.YtakhanganifpnaaIdealE
namespace Go.Proofs.Ytakhanganifpnaa.Ideal
set_option linter.unusedVariables false
set_option linter.unusedSimpArgs false
open Go Go.RowKit Kit
open Sha (Pc PcsOk catP catP_snoc catP_le)

/-- A thing as the code keeps it: a tag's, a digest's, a key's pieces are its text. -/
def ct (t : Thing) : Thing := if t.kind = 83 then t else if t.kind = 72 then ⟨72, [], [], [], t.a⟩ else ⟨t.kind, t.a, [], [], t.b⟩
structure Good (t : Thing) : Prop where
  of ::
  or : t.kind = 83 ∨ ((t.kind = 77 ∨ t.kind = 68) ∧ t.c = [] ∧ t.d = []) ∨ (t.kind = 72 ∧ t.b = [] ∧ t.c = [] ∧ t.d = [])
theorem ct_seal (key nonce aad text : List UInt8) : ct (sealT key nonce aad text) = sealT key nonce aad text := rfl
theorem ct_mac (key l : List UInt8) : ct (macT key l) = ⟨77, key, [], [], l⟩ := rfl
theorem ct_der (key l : List UInt8) : ct (derT key l) = ⟨68, key, [], [], l⟩ := rfl
theorem ct_hash (l : List UInt8) : ct (hashT l) = ⟨72, [], [], [], l⟩ := rfl
theorem sealT_good (key nonce aad text : List UInt8) : Good (sealT key nonce aad text) := ⟨.inl rfl⟩
theorem macT_good (key l : List UInt8) : Good (macT key l) := ⟨.inr (.inl ⟨.inl rfl, rfl, rfl⟩)⟩
theorem derT_good (key l : List UInt8) : Good (derT key l) := ⟨.inr (.inl ⟨.inr rfl, rfl, rfl⟩)⟩
theorem hashT_good (l : List UInt8) : Good (hashT l) := ⟨.inr (.inr ⟨rfl, rfl, rfl, rfl⟩)⟩
theorem ct_kind (t : Thing) : (ct t).kind = t.kind := by
  unfold ct
  split
  · rfl
  · split
    · rename_i h; exact h.symm
    · rfl
theorem ct_inj {t u : Thing} (ht : Good t) (hu : Good u) (h : ct t = ct u) : t = u := by
  have hk : t.kind = u.kind := by rw [← ct_kind t, ← ct_kind u, h]
  obtain ⟨k, a, b, c, d⟩ := t
  obtain ⟨k', a', b', c', d'⟩ := u
  simp only at hk
  subst hk
  have h1 := ht.or
  have h2 := hu.or
  simp only at h1 h2
  unfold ct at h
  simp only at h
  by_cases h83 : k = 83
  · rw [if_pos h83, if_pos h83] at h; exact h
  · rw [if_neg h83, if_neg h83] at h
    rcases h1 with h1 | ⟨h1, rfl, rfl⟩ | ⟨rfl, rfl, rfl, rfl⟩
    · exact absurd h1 h83
    · have h72 : k ≠ 72 := by rcases h1 with rfl | rfl <;> decide
      rw [if_neg h72, if_neg h72] at h
      rcases h2 with h2 | ⟨_, rfl, rfl⟩ | ⟨h2, _⟩
      · exact absurd h2 h83
      · simp only [Thing.mk.injEq, true_and] at h
        rw [h.1, h.2]
      · exact absurd h2 h72
    · rcases h2 with h2 | ⟨h2, _⟩ | ⟨_, rfl, rfl, rfl⟩
      · exact absurd h2 h83
      · rcases h2 with h2 | h2 <;> exact absurd h2 (by decide)
      · simp only [if_true, Thing.mk.injEq, true_and] at h
        rw [h]
theorem num_ct {ts : List Thing} (hg : ∀ t ∈ ts, Good t) (t : Thing) (ht : Good t) : num (ts.map ct) (ct t) = num ts t := by
  have key : ∀ i, numT (ts.map ct) (ct t) i = numT ts t i := by
    intro i
    induction i with
    | zero => rfl
    | succ i ih =>
      rw [numT_succ, numT_succ, ih]
      have : ((ts.map ct)[i]? = some (ct t)) = (ts[i]? = some t) := by
        rw [List.getElem?_map]
        cases hx : ts[i]? with
        | none => simp
        | some x =>
          simp only [Option.map_some, Option.some.injEq]
          exact propext ⟨fun e => ct_inj (hg x (List.mem_of_getElem? hx)) ht e, fun e => by rw [e]⟩
      simp only [this]
  unfold num
  rw [List.length_map, key]
theorem mk_ct {ts : List Thing} (hg : ∀ t ∈ ts, Good t) (t : Thing) (ht : Good t) : mk (ts.map ct) (ct t) = (mk ts t).map ct := by
  unfold mk
  rw [num_ct hg t ht]
  split
  · rw [List.map_append]; rfl
  · rfl
theorem good_mk {ts : List Thing} (hg : ∀ t ∈ ts, Good t) (t : Thing) (ht : Good t) : ∀ u ∈ mk ts t, Good u := fun u hu => by
  rcases (mem_mk _ _ _).1 hu with rfl | hu
  · exact ht
  · exact hg u hu
theorem num_mk_ct {ts : List Thing} (hg : ∀ t ∈ ts, Good t) (t : Thing) (ht : Good t) : num (mk (ts.map ct) (ct t)) (ct t) = num (mk ts t) t := by
  rw [mk_ct hg t ht, num_ct (good_mk hg t ht) t ht]
theorem out_ct {ts : List Thing} (hg : ∀ t ∈ ts, Good t) (t : Thing) (n : Nat) (ht : Good t) : Ending.returned (Value.agg (bvs (tok t.kind (num (mk (ts.map ct) (ct t)) (ct t)) n)).toArray) = .returned (.agg (bvs (out ts t n)).toArray) := by
  rw [num_mk_ct hg t ht]; rfl

/-- The code's world at p, all its blocks F, with the things ts. -/
def Iw (w : World) (p : Nat) (F : Nat → Prop) (ts : List Thing) : Prop := ∃ bn bs, F = Cf p bn bs ∧ Cx w p bn bs (ts.map ct) (fun _ => True) ∧ ∀ t ∈ ts, Good t
theorem Iw.keep {w w2 : World} {p : Nat} {F G : Nat → Prop} {ts : List Thing} (h : Iw w p F ts) (k : Kp G w w2) (hF : ∀ i, F i → ¬ G i) : Iw w2 p F ts := by
  obtain ⟨bn, bs, rfl, h1, h2⟩ := h
  exact ⟨bn, bs, rfl, h1.keep k hF, h2⟩
theorem Iw.lt {w : World} {p : Nat} {F : Nat → Prop} {ts : List Thing} (h : Iw w p F ts) : ∀ k, F k → k < w.heap.size := by
  obtain ⟨bn, bs, rfl, h1, h2⟩ := h
  exact h1.lt
/-- A world behind a call. -/
structure Iq (w : World) (F : Nat → Prop) (w2 : World) (p : Nat) (F2 : Nat → Prop) (ts : List Thing) : Prop where
  i : Iw w2 p F2 ts
  f : ∀ k, F2 k → F k ∨ w.heap.size ≤ k
  k : Kp F w w2
/-- Bytes that are answered: new ones. -/
structure Ans (w w2 : World) (F2 : Nat → Prop) (A : Option Addr) (c : Nat) (l : List UInt8) : Prop where
  row : Row w2 A (bvs l)
  far : ∀ k, ab A = some k → w.heap.size ≤ k ∧ ¬ F2 k
  cap : l.length ≤ c
  mx : c ≤ maxLen
  nil : A = none → c = 0
theorem iw_more {w : World} {p bn bs : Nat} {F : Nat → Prop} {ts : List Thing} (hF : F = Cf p bn bs) (hg : ∀ t ∈ ts, Good t) (t : Thing) (ht : Good t) (h : Cx w p bn bs (mk (ts.map ct) (ct t)) (fun _ => True)) : Iw w p F (mk ts t) :=
  ⟨bn, bs, hF, by rw [← mk_ct hg t ht]; exact h, good_mk hg t ht⟩

set_option maxHeartbeats 1000000 in
set_option maxRecDepth 100000 in
theorem new_i (w : World) : Calls Try.prog 10 #[] w fun e w' => ∃ p F, e = .returned (.pointer (some ⟨p, 0, none⟩)) ∧ Iq w nob w' p F [] := by
  have hm := @run_makeMap Try.prog
  go_enter Try.func10, Try.ntmps10
  go_wp2
  go_ret
  have hB : Blk (((w.alloc (.map #[] 0)).alloc (.map #[] 0)).alloc (.cells #[.map (some w.heap.size), .map (some (w.heap.size + 1))] 56)) (w.heap.size + 2) 56 [.map (some w.heap.size), .map (some (w.heap.size + 1))] := Blk.new' (by simp) rfl
  have k1 := (Kp.refl nob w).alloc (.map #[] 0)
  have k2 := (Kp.refl nob (w.alloc (.map #[] 0))).alloc (.map #[] 0)
  have k3 := (Kp.refl nob ((w.alloc (.map #[] 0)).alloc (.map #[] 0))).alloc (.cells #[.map (some w.heap.size), .map (some (w.heap.size + 1))] 56)
  have m1 := ((mapB_new w).keep k2 (fun e => e)).keep k3 (fun e => e)
  have m2 : MapB ((w.alloc (.map #[] 0)).alloc (.map #[] 0)) (w.heap.size + 1) [] := by have := mapB_new (w.alloc (.map #[] 0)); simpa using this
  refine ⟨w.heap.size + 2, _, rfl, ⟨⟨w.heap.size, w.heap.size + 1, rfl, ⟨hB, m1, ⟨[], m2.keep k3 (fun e => e), ⟨fun q h => (by cases h), fun i t h => (by simp at h)⟩⟩, by omega, List.nodup_nil, fun t h => (by simp at h)⟩, fun t h => (by cases h)⟩, fun k e => .inr ?_, (k1.trans k2 (fun _ e => e.elim)).trans k3 (fun _ e => e.elim)⟩⟩
  rcases e with rfl | rfl | rfl <;> omega
set_option maxHeartbeats 1000000 in
theorem size_i (p : Nat) (F : Nat → Prop) (ts : List Thing) (w : World) (hw : Iw w p F ts) :
    Calls Try.prog 19 #[.pointer (some ⟨p, 0, none⟩)] w fun e w' => e = .returned (.int .i64 ts.length) ∧ w = w' := by
  obtain ⟨bn, bs, hF, hw, hg⟩ := hw
  have hlen := hw.n.len map_under 3
  rw [nps_length, List.length_map] at hlen
  have hc : w.cell? ⟨p, 0, none⟩ = some (.map (some bn)) := by rw [hw.b.cell]; rfl
  clear hw hg hF
  go_enter Try.func19, Try.ntmps19
  go_wp2
  go_ret
  exact ⟨rfl, rfl⟩
set_option maxHeartbeats 1000000 in
theorem size_nil (w : World) : Calls Try.prog 19 #[.pointer none] w fun e w' => e = .returned (.int .i64 0) ∧ w = w' := by
  go_enter Try.func19, Try.ntmps19
  go_wp2
  go_ret
  exact ⟨rfl, rfl⟩
set_option maxHeartbeats 4000000 in
set_option maxRecDepth 100000 in
theorem mac_i (p : Nat) (F : Nat → Prop) (ts : List Thing) (K : Option Addr) (nk ck : Nat) (key : List UInt8) (B : Option Addr) (m d : Nat) (ps : List Pc) (w0 : World)
    (hw : Iw w0 p F ts) (hk : Arg w0 F K nk ck key) (hp : Args w0 F B m ps) (hl : ts.length ≤ 100000) (lk : key.length ≤ 1048576) (lp : (catP ps).length ≤ 1048576) :
    Calls Try.prog 15 #[.pointer (some ⟨p, 0, none⟩), .slice K nk ck, .slice B m d] w0 fun e w' => ∃ F2, e = .returned (.agg (bvs (out ts (macT key (catP ps)) 32)).toArray) ∧ Iq w0 F w' p F2 (mk ts (macT key (catP ps))) := by
  obtain ⟨bn, bs, hF, hw, hg⟩ := hw
  have HG := Lib.hid hg
  have HF := Lib.hid hF
  have HW := Lib.hid hw
  have HNE : Hid (w0.heap.size ≠ bn) := Lib.hid (by have := hw.lt bn (.inr (.inl rfl)); omega)
  have HA := Lib.hid hk
  have HP := Lib.hid hp
  have hz := zc_run
  have HT0 := Lib.hid (Blk.new w0 41 zc)
  have HKA := Lib.hid ((Kp.refl nob w0).alloc (.cells zc.toArray 41))
  clear hk hp hw hF hg
  go_enter Try.func15, Try.ntmps15
  go_wp2
  generalize hw1 : w0.alloc (.cells zc.toArray 41) = w1 at *
  have HZ := Lib.hid (HT0.out.keep (Kp.refl nob w1).drew (fun e => e))
  have HK01 := Lib.hid HKA.out.drew
  have HK1 := Lib.hid (HK01.out.nob (fun i => i = bn))
  clear hw1 HT0 HKA
  have HS0 : Hid (Kp (fun i => i = bn) w0 w1.drew) := Lib.hid HK1.out
  refine reg_begin (Kp (fun i => i = bn) w0) (by kernel_rfl) HS0.out (fun _ => ?_)
  refine reg_take (v := .pointer (some ⟨p, 0, none⟩)) 0 (some 7) rfl rfl (by kernel_rfl) (by kernel_rfl) (by kernel_rfl) (by rfl) HS0.out (fun w hw => by go_simp) ?_
  simp only [Act.put, List.setIfInBounds_toArray, List.set_cons_zero, List.set_cons_succ]
  refine reg_take (v := .slice K nk ck) 1 (some 8) rfl rfl (by kernel_rfl) (by kernel_rfl) (by kernel_rfl) (by rfl) HS0.out (fun w hw => by go_simp) ?_
  simp only [Act.put, List.setIfInBounds_toArray, List.set_cons_zero, List.set_cons_succ]
  refine reg_bytesStr 2 (some 9) 34 9 5 (.tmp 8) rfl rfl rfl (by kernel_rfl) (by kernel_rfl) (by kernel_rfl) (by rfl) HS0.out u8i_under (by kernel_rfl) (by kernel_rfl) K nk ck key HA.out.len rfl (fun _ x => (HA.out.keep x (fun i e => by rw [HF.out]; exact .inr (.inl e))).row) ?_
  simp only [Act.put, List.setIfInBounds_toArray, List.set_cons_zero, List.set_cons_succ]
  refine reg_take (v := .slice B m d) 3 (some 10) rfl rfl (by kernel_rfl) (by kernel_rfl) (by kernel_rfl) (by rfl) HS0.out (fun w hw => by go_simp) ?_
  simp only [Act.put, List.setIfInBounds_toArray, List.set_cons_zero, List.set_cons_succ]
  refine reg_call 4 (some 11) rfl rfl (by kernel_rfl) (by rfl) _ _ (exec_func 21 _ _ [.slice B m d] rfl (by kernel_rfl) rfl) ?_
  refine (joined_any B m d ps F _ (HP.out.keep0 HK01.out) (by omega)).mono ?_
  rintro e w2 ⟨rfl, k2⟩
  have HS1 : Hid (Kp (fun i => i = bn) w0 w2) := Lib.hid (HS0.out.trans (k2.nob (fun i => i = bn)) (fun i e => .inl e))
  have HN2 := Lib.hid (HK01.out.trans k2 (fun _ e => e.elim))
  have HZ2 := Lib.hid (HZ.out.keep k2 (fun e => e))
  clear k2
  refine ⟨_, rfl, HS1.out, fun _ => ?_⟩
  simp only [Act.put, List.setIfInBounds_toArray, List.set_cons_zero, List.set_cons_succ]
  refine reg_take (v := .agg (tc ⟨77, key, [], [], catP ps⟩).toArray) 5 (some 12) rfl rfl (by kernel_rfl) (by kernel_rfl) (by kernel_rfl) (by rfl) HS1.out (fun w hw => by first | (go_simp; done) | kernel_rfl) ?_
  simp only [Act.put, List.setIfInBounds_toArray, List.set_cons_zero, List.set_cons_succ]
  refine reg_call 6 (some 13) rfl rfl (by kernel_rfl) (by rfl) _ _ (exec_func 27 _ _ [.pointer (some ⟨p, 0, none⟩), .agg (tc ⟨77, key, [], [], catP ps⟩).toArray] rfl (by kernel_rfl) rfl) ?_
  refine (digest_any p bn bs _ ⟨77, key, [], [], catP ps⟩ _ (HW.out.keep0 HN2.out) (by rw [List.length_map]; exact hl) (by decide : (77 : UInt8) ≠ 83)).mono ?_
  rintro e w3 ⟨rfl, hx, k3⟩
  have HS2 : Hid (Kp (fun i => i = bn) w0 w3) := Lib.hid (HS1.out.trans k3 (fun i e => .inl e))
  have HX3 := Lib.hid hx
  have HZ3 := Lib.hid (HZ2.out.keep k3 (fun e => HNE.out e))
  obtain ⟨D, hD⟩ : ∃ D, D = tok 77 (num (mk (ts.map ct) ⟨77, key, [], [], catP ps⟩) ⟨77, key, [], [], catP ps⟩) 32 := ⟨_, rfl⟩
  have HTL := Lib.hid (show D.length = 32 by rw [hD]; exact tok_length _ _ _ (by omega))
  have HDD := Lib.hid hD
  rw [← hD]
  clear hx k3 hD
  refine ⟨_, rfl, HS2.out, fun _ => ?_⟩
  simp only [Act.put, List.setIfInBounds_toArray, List.set_cons_zero, List.set_cons_succ]
  refine reg_store 7 none 41 (.tmp 6) (.tmp 13) rfl rfl rfl (by kernel_rfl) (by rfl) w0.heap.size 41 _ (bvs D) HZ3.out rfl rfl (by rw [bvs_length, zc_length, HTL.out]) (by rw [bvs_length, HTL.out]; kernel_rfl) (bvs_one _) ?_
  intro w4 hB4 k4 z4
  have HS3 : Hid (Kp (fun i => i = bn) w0 w4) := Lib.hid (HS2.out.trans k4 (fun i e => .inr (by have e : i = w0.heap.size := e; omega)))
  refine ⟨HS3.out, fun _ => ?_⟩
  simp only [Act.put, List.setIfInBounds_toArray, List.set_cons_zero, List.set_cons_succ]
  refine reg_end (by kernel_rfl) ?_
  go_wp2
  have hsz : (Try.prog.info? 41).map (·.size) = some (bvs D).toArray.size := by rw [List.size_toArray, bvs_length, HTL.out]; kernel_rfl
  have HX4 := HX3.out.keep k4 (fun i hi e => by have e : i = w0.heap.size := e; have := HW.out.lt i hi; omega)
  refine bodyPost_ret (results_cell_row rfl _ _ w0.heap.size _ _ _ _ rfl hB4 arr32_under rfl hsz) rfl ⟨F, by rw [HDD.out]; exact out_ct HG.out (macT key (catP ps)) 32 (macT_good key (catP ps)), iw_more HF.out HG.out (macT key (catP ps)) (macT_good key (catP ps)) HX4, fun _ e => .inl e, HS3.out.mono (fun i _ e => by rw [HF.out]; exact .inr (.inl e))⟩
set_option maxHeartbeats 4000000 in
set_option maxRecDepth 100000 in
theorem mac_nil (K : Option Addr) (nk ck : Nat) (key : List UInt8) (B : Option Addr) (m d : Nat) (ps : List Pc) (F : Nat → Prop) (w0 : World) (hk : Arg w0 nob K nk ck key) (hp : Args w0 F B m ps) (lp : (catP ps).length ≤ 1048576) :
    Calls Try.prog 15 #[.pointer none, .slice K nk ck, .slice B m d] w0 fun e w' => e = .returned (.agg (bvs z32).toArray) ∧ Kp nob w0 w' := by
  have HA := Lib.hid hk
  have HP := Lib.hid hp
  have hz := zc_run
  have HT0 := Lib.hid (Blk.new w0 41 zc)
  have HKA := Lib.hid ((Kp.refl nob w0).alloc (.cells zc.toArray 41))
  clear hk hp
  go_enter Try.func15, Try.ntmps15
  go_wp2
  generalize hw1 : w0.alloc (.cells zc.toArray 41) = w1 at *
  have HZ := Lib.hid (HT0.out.keep (Kp.refl nob w1).drew (fun e => e))
  have HK01 := Lib.hid HKA.out.drew
  have HK1 := Lib.hid (HK01.out.nob nob)
  clear hw1 HT0 HKA
  have HS0 : Hid (Kp nob w0 w1.drew) := Lib.hid HK1.out
  refine reg_begin (Kp nob w0) (by kernel_rfl) HS0.out (fun _ => ?_)
  refine reg_take (v := .pointer none) 0 (some 7) rfl rfl (by kernel_rfl) (by kernel_rfl) (by kernel_rfl) (by rfl) HS0.out (fun w hw => by go_simp) ?_
  simp only [Act.put, List.setIfInBounds_toArray, List.set_cons_zero, List.set_cons_succ]
  refine reg_take (v := .slice K nk ck) 1 (some 8) rfl rfl (by kernel_rfl) (by kernel_rfl) (by kernel_rfl) (by rfl) HS0.out (fun w hw => by go_simp) ?_
  simp only [Act.put, List.setIfInBounds_toArray, List.set_cons_zero, List.set_cons_succ]
  refine reg_bytesStr 2 (some 9) 34 9 5 (.tmp 8) rfl rfl rfl (by kernel_rfl) (by kernel_rfl) (by kernel_rfl) (by rfl) HS0.out u8i_under (by kernel_rfl) (by kernel_rfl) K nk ck key HA.out.len rfl (fun _ x => (HA.out.keep x (fun i e => e)).row) ?_
  simp only [Act.put, List.setIfInBounds_toArray, List.set_cons_zero, List.set_cons_succ]
  refine reg_take (v := .slice B m d) 3 (some 10) rfl rfl (by kernel_rfl) (by kernel_rfl) (by kernel_rfl) (by rfl) HS0.out (fun w hw => by go_simp) ?_
  simp only [Act.put, List.setIfInBounds_toArray, List.set_cons_zero, List.set_cons_succ]
  refine reg_call 4 (some 11) rfl rfl (by kernel_rfl) (by rfl) _ _ (exec_func 21 _ _ [.slice B m d] rfl (by kernel_rfl) rfl) ?_
  refine (joined_any B m d ps F _ (HP.out.keep0 HK01.out) (by omega)).mono ?_
  rintro e w2 ⟨rfl, k2⟩
  have HS1 : Hid (Kp nob w0 w2) := Lib.hid (HS0.out.trans (k2.nob nob) (fun i e => .inl e))
  have HN2 := Lib.hid (HK01.out.trans k2 (fun _ e => e.elim))
  have HZ2 := Lib.hid (HZ.out.keep k2 (fun e => e))
  clear k2
  refine ⟨_, rfl, HS1.out, fun _ => ?_⟩
  simp only [Act.put, List.setIfInBounds_toArray, List.set_cons_zero, List.set_cons_succ]
  refine reg_take (v := .agg (tc ⟨77, key, [], [], catP ps⟩).toArray) 5 (some 12) rfl rfl (by kernel_rfl) (by kernel_rfl) (by kernel_rfl) (by rfl) HS1.out (fun w hw => by first | (go_simp; done) | kernel_rfl) ?_
  simp only [Act.put, List.setIfInBounds_toArray, List.set_cons_zero, List.set_cons_succ]
  refine reg_call 6 (some 13) rfl rfl (by kernel_rfl) (by rfl) _ _ (exec_func 27 _ _ [.pointer none, .agg (tc ⟨77, key, [], [], catP ps⟩).toArray] rfl (by kernel_rfl) rfl) ?_
  refine (digest_nil _ ⟨77, key, [], [], catP ps⟩ rfl _).mono ?_
  rintro e w3 ⟨rfl, k3⟩
  have HS2 : Hid (Kp nob w0 w3) := Lib.hid (HS1.out.trans k3 (fun i e => .inl e))
  have HZ3 := Lib.hid (HZ2.out.keep k3 (fun e => e))
  obtain ⟨D, hD⟩ : ∃ D, D = z32 := ⟨_, rfl⟩
  have HTL := Lib.hid (show D.length = 32 by rw [hD]; simp [z32])
  have HDD := Lib.hid hD
  rw [← hD]
  clear k3 hD
  refine ⟨_, rfl, HS2.out, fun _ => ?_⟩
  simp only [Act.put, List.setIfInBounds_toArray, List.set_cons_zero, List.set_cons_succ]
  refine reg_store 7 none 41 (.tmp 6) (.tmp 13) rfl rfl rfl (by kernel_rfl) (by rfl) w0.heap.size 41 _ (bvs D) HZ3.out rfl rfl (by rw [bvs_length, zc_length, HTL.out]) (by rw [bvs_length, HTL.out]; kernel_rfl) (bvs_one _) ?_
  intro w4 hB4 k4 z4
  have HS3 : Hid (Kp nob w0 w4) := Lib.hid (HS2.out.trans k4 (fun i e => .inr (by have e : i = w0.heap.size := e; omega)))
  refine ⟨HS3.out, fun _ => ?_⟩
  simp only [Act.put, List.setIfInBounds_toArray, List.set_cons_zero, List.set_cons_succ]
  refine reg_end (by kernel_rfl) ?_
  go_wp2
  have hsz : (Try.prog.info? 41).map (·.size) = some (bvs D).toArray.size := by rw [List.size_toArray, bvs_length, HTL.out]; kernel_rfl
  refine bodyPost_ret (results_cell_row rfl _ _ w0.heap.size _ _ _ _ rfl hB4 arr32_under rfl hsz) rfl ⟨by rw [HDD.out], HS3.out⟩
set_option maxHeartbeats 4000000 in
set_option maxRecDepth 100000 in
theorem derive_i (p : Nat) (F : Nat → Prop) (ts : List Thing) (K : Option Addr) (nk ck : Nat) (key : List UInt8) (B : Option Addr) (m d : Nat) (ps : List Pc) (w0 : World)
    (hw : Iw w0 p F ts) (hk : Arg w0 F K nk ck key) (hp : Args w0 F B m ps) (hl : ts.length ≤ 100000) (lk : key.length ≤ 1048576) (lp : (catP ps).length ≤ 1048576) :
    Calls Try.prog 18 #[.pointer (some ⟨p, 0, none⟩), .slice K nk ck, .slice B m d] w0 fun e w' => ∃ F2, e = .returned (.agg (bvs (out ts (derT key (catP ps)) 32)).toArray) ∧ Iq w0 F w' p F2 (mk ts (derT key (catP ps))) := by
  obtain ⟨bn, bs, hF, hw, hg⟩ := hw
  have HG := Lib.hid hg
  have HF := Lib.hid hF
  have HW := Lib.hid hw
  have HNE : Hid (w0.heap.size ≠ bn) := Lib.hid (by have := hw.lt bn (.inr (.inl rfl)); omega)
  have HA := Lib.hid hk
  have HP := Lib.hid hp
  have hz := zc_run
  have HT0 := Lib.hid (Blk.new w0 41 zc)
  have HKA := Lib.hid ((Kp.refl nob w0).alloc (.cells zc.toArray 41))
  clear hk hp hw hF hg
  go_enter Try.func18, Try.ntmps18
  go_wp2
  generalize hw1 : w0.alloc (.cells zc.toArray 41) = w1 at *
  have HZ := Lib.hid (HT0.out.keep (Kp.refl nob w1).drew (fun e => e))
  have HK01 := Lib.hid HKA.out.drew
  have HK1 := Lib.hid (HK01.out.nob (fun i => i = bn))
  clear hw1 HT0 HKA
  have HS0 : Hid (Kp (fun i => i = bn) w0 w1.drew) := Lib.hid HK1.out
  refine reg_begin (Kp (fun i => i = bn) w0) (by kernel_rfl) HS0.out (fun _ => ?_)
  refine reg_take (v := .pointer (some ⟨p, 0, none⟩)) 0 (some 7) rfl rfl (by kernel_rfl) (by kernel_rfl) (by kernel_rfl) (by rfl) HS0.out (fun w hw => by go_simp) ?_
  simp only [Act.put, List.setIfInBounds_toArray, List.set_cons_zero, List.set_cons_succ]
  refine reg_take (v := .slice K nk ck) 1 (some 8) rfl rfl (by kernel_rfl) (by kernel_rfl) (by kernel_rfl) (by rfl) HS0.out (fun w hw => by go_simp) ?_
  simp only [Act.put, List.setIfInBounds_toArray, List.set_cons_zero, List.set_cons_succ]
  refine reg_bytesStr 2 (some 9) 34 9 5 (.tmp 8) rfl rfl rfl (by kernel_rfl) (by kernel_rfl) (by kernel_rfl) (by rfl) HS0.out u8i_under (by kernel_rfl) (by kernel_rfl) K nk ck key HA.out.len rfl (fun _ x => (HA.out.keep x (fun i e => by rw [HF.out]; exact .inr (.inl e))).row) ?_
  simp only [Act.put, List.setIfInBounds_toArray, List.set_cons_zero, List.set_cons_succ]
  refine reg_take (v := .slice B m d) 3 (some 10) rfl rfl (by kernel_rfl) (by kernel_rfl) (by kernel_rfl) (by rfl) HS0.out (fun w hw => by go_simp) ?_
  simp only [Act.put, List.setIfInBounds_toArray, List.set_cons_zero, List.set_cons_succ]
  refine reg_call 4 (some 11) rfl rfl (by kernel_rfl) (by rfl) _ _ (exec_func 21 _ _ [.slice B m d] rfl (by kernel_rfl) rfl) ?_
  refine (joined_any B m d ps F _ (HP.out.keep0 HK01.out) (by omega)).mono ?_
  rintro e w2 ⟨rfl, k2⟩
  have HS1 : Hid (Kp (fun i => i = bn) w0 w2) := Lib.hid (HS0.out.trans (k2.nob (fun i => i = bn)) (fun i e => .inl e))
  have HN2 := Lib.hid (HK01.out.trans k2 (fun _ e => e.elim))
  have HZ2 := Lib.hid (HZ.out.keep k2 (fun e => e))
  clear k2
  refine ⟨_, rfl, HS1.out, fun _ => ?_⟩
  simp only [Act.put, List.setIfInBounds_toArray, List.set_cons_zero, List.set_cons_succ]
  refine reg_take (v := .agg (tc ⟨68, key, [], [], catP ps⟩).toArray) 5 (some 12) rfl rfl (by kernel_rfl) (by kernel_rfl) (by kernel_rfl) (by rfl) HS1.out (fun w hw => by first | (go_simp; done) | kernel_rfl) ?_
  simp only [Act.put, List.setIfInBounds_toArray, List.set_cons_zero, List.set_cons_succ]
  refine reg_call 6 (some 13) rfl rfl (by kernel_rfl) (by rfl) _ _ (exec_func 27 _ _ [.pointer (some ⟨p, 0, none⟩), .agg (tc ⟨68, key, [], [], catP ps⟩).toArray] rfl (by kernel_rfl) rfl) ?_
  refine (digest_any p bn bs _ ⟨68, key, [], [], catP ps⟩ _ (HW.out.keep0 HN2.out) (by rw [List.length_map]; exact hl) (by decide : (68 : UInt8) ≠ 83)).mono ?_
  rintro e w3 ⟨rfl, hx, k3⟩
  have HS2 : Hid (Kp (fun i => i = bn) w0 w3) := Lib.hid (HS1.out.trans k3 (fun i e => .inl e))
  have HX3 := Lib.hid hx
  have HZ3 := Lib.hid (HZ2.out.keep k3 (fun e => HNE.out e))
  obtain ⟨D, hD⟩ : ∃ D, D = tok 68 (num (mk (ts.map ct) ⟨68, key, [], [], catP ps⟩) ⟨68, key, [], [], catP ps⟩) 32 := ⟨_, rfl⟩
  have HTL := Lib.hid (show D.length = 32 by rw [hD]; exact tok_length _ _ _ (by omega))
  have HDD := Lib.hid hD
  rw [← hD]
  clear hx k3 hD
  refine ⟨_, rfl, HS2.out, fun _ => ?_⟩
  simp only [Act.put, List.setIfInBounds_toArray, List.set_cons_zero, List.set_cons_succ]
  refine reg_store 7 none 41 (.tmp 6) (.tmp 13) rfl rfl rfl (by kernel_rfl) (by rfl) w0.heap.size 41 _ (bvs D) HZ3.out rfl rfl (by rw [bvs_length, zc_length, HTL.out]) (by rw [bvs_length, HTL.out]; kernel_rfl) (bvs_one _) ?_
  intro w4 hB4 k4 z4
  have HS3 : Hid (Kp (fun i => i = bn) w0 w4) := Lib.hid (HS2.out.trans k4 (fun i e => .inr (by have e : i = w0.heap.size := e; omega)))
  refine ⟨HS3.out, fun _ => ?_⟩
  simp only [Act.put, List.setIfInBounds_toArray, List.set_cons_zero, List.set_cons_succ]
  refine reg_end (by kernel_rfl) ?_
  go_wp2
  have hsz : (Try.prog.info? 41).map (·.size) = some (bvs D).toArray.size := by rw [List.size_toArray, bvs_length, HTL.out]; kernel_rfl
  have HX4 := HX3.out.keep k4 (fun i hi e => by have e : i = w0.heap.size := e; have := HW.out.lt i hi; omega)
  refine bodyPost_ret (results_cell_row rfl _ _ w0.heap.size _ _ _ _ rfl hB4 arr32_under rfl hsz) rfl ⟨F, by rw [HDD.out]; exact out_ct HG.out (derT key (catP ps)) 32 (derT_good key (catP ps)), iw_more HF.out HG.out (derT key (catP ps)) (derT_good key (catP ps)) HX4, fun _ e => .inl e, HS3.out.mono (fun i _ e => by rw [HF.out]; exact .inr (.inl e))⟩
set_option maxHeartbeats 4000000 in
set_option maxRecDepth 100000 in
theorem derive_nil (K : Option Addr) (nk ck : Nat) (key : List UInt8) (B : Option Addr) (m d : Nat) (ps : List Pc) (F : Nat → Prop) (w0 : World) (hk : Arg w0 nob K nk ck key) (hp : Args w0 F B m ps) (lp : (catP ps).length ≤ 1048576) :
    Calls Try.prog 18 #[.pointer none, .slice K nk ck, .slice B m d] w0 fun e w' => e = .returned (.agg (bvs z32).toArray) ∧ Kp nob w0 w' := by
  have HA := Lib.hid hk
  have HP := Lib.hid hp
  have hz := zc_run
  have HT0 := Lib.hid (Blk.new w0 41 zc)
  have HKA := Lib.hid ((Kp.refl nob w0).alloc (.cells zc.toArray 41))
  clear hk hp
  go_enter Try.func18, Try.ntmps18
  go_wp2
  generalize hw1 : w0.alloc (.cells zc.toArray 41) = w1 at *
  have HZ := Lib.hid (HT0.out.keep (Kp.refl nob w1).drew (fun e => e))
  have HK01 := Lib.hid HKA.out.drew
  have HK1 := Lib.hid (HK01.out.nob nob)
  clear hw1 HT0 HKA
  have HS0 : Hid (Kp nob w0 w1.drew) := Lib.hid HK1.out
  refine reg_begin (Kp nob w0) (by kernel_rfl) HS0.out (fun _ => ?_)
  refine reg_take (v := .pointer none) 0 (some 7) rfl rfl (by kernel_rfl) (by kernel_rfl) (by kernel_rfl) (by rfl) HS0.out (fun w hw => by go_simp) ?_
  simp only [Act.put, List.setIfInBounds_toArray, List.set_cons_zero, List.set_cons_succ]
  refine reg_take (v := .slice K nk ck) 1 (some 8) rfl rfl (by kernel_rfl) (by kernel_rfl) (by kernel_rfl) (by rfl) HS0.out (fun w hw => by go_simp) ?_
  simp only [Act.put, List.setIfInBounds_toArray, List.set_cons_zero, List.set_cons_succ]
  refine reg_bytesStr 2 (some 9) 34 9 5 (.tmp 8) rfl rfl rfl (by kernel_rfl) (by kernel_rfl) (by kernel_rfl) (by rfl) HS0.out u8i_under (by kernel_rfl) (by kernel_rfl) K nk ck key HA.out.len rfl (fun _ x => (HA.out.keep x (fun i e => e)).row) ?_
  simp only [Act.put, List.setIfInBounds_toArray, List.set_cons_zero, List.set_cons_succ]
  refine reg_take (v := .slice B m d) 3 (some 10) rfl rfl (by kernel_rfl) (by kernel_rfl) (by kernel_rfl) (by rfl) HS0.out (fun w hw => by go_simp) ?_
  simp only [Act.put, List.setIfInBounds_toArray, List.set_cons_zero, List.set_cons_succ]
  refine reg_call 4 (some 11) rfl rfl (by kernel_rfl) (by rfl) _ _ (exec_func 21 _ _ [.slice B m d] rfl (by kernel_rfl) rfl) ?_
  refine (joined_any B m d ps F _ (HP.out.keep0 HK01.out) (by omega)).mono ?_
  rintro e w2 ⟨rfl, k2⟩
  have HS1 : Hid (Kp nob w0 w2) := Lib.hid (HS0.out.trans (k2.nob nob) (fun i e => .inl e))
  have HN2 := Lib.hid (HK01.out.trans k2 (fun _ e => e.elim))
  have HZ2 := Lib.hid (HZ.out.keep k2 (fun e => e))
  clear k2
  refine ⟨_, rfl, HS1.out, fun _ => ?_⟩
  simp only [Act.put, List.setIfInBounds_toArray, List.set_cons_zero, List.set_cons_succ]
  refine reg_take (v := .agg (tc ⟨68, key, [], [], catP ps⟩).toArray) 5 (some 12) rfl rfl (by kernel_rfl) (by kernel_rfl) (by kernel_rfl) (by rfl) HS1.out (fun w hw => by first | (go_simp; done) | kernel_rfl) ?_
  simp only [Act.put, List.setIfInBounds_toArray, List.set_cons_zero, List.set_cons_succ]
  refine reg_call 6 (some 13) rfl rfl (by kernel_rfl) (by rfl) _ _ (exec_func 27 _ _ [.pointer none, .agg (tc ⟨68, key, [], [], catP ps⟩).toArray] rfl (by kernel_rfl) rfl) ?_
  refine (digest_nil _ ⟨68, key, [], [], catP ps⟩ rfl _).mono ?_
  rintro e w3 ⟨rfl, k3⟩
  have HS2 : Hid (Kp nob w0 w3) := Lib.hid (HS1.out.trans k3 (fun i e => .inl e))
  have HZ3 := Lib.hid (HZ2.out.keep k3 (fun e => e))
  obtain ⟨D, hD⟩ : ∃ D, D = z32 := ⟨_, rfl⟩
  have HTL := Lib.hid (show D.length = 32 by rw [hD]; simp [z32])
  have HDD := Lib.hid hD
  rw [← hD]
  clear k3 hD
  refine ⟨_, rfl, HS2.out, fun _ => ?_⟩
  simp only [Act.put, List.setIfInBounds_toArray, List.set_cons_zero, List.set_cons_succ]
  refine reg_store 7 none 41 (.tmp 6) (.tmp 13) rfl rfl rfl (by kernel_rfl) (by rfl) w0.heap.size 41 _ (bvs D) HZ3.out rfl rfl (by rw [bvs_length, zc_length, HTL.out]) (by rw [bvs_length, HTL.out]; kernel_rfl) (bvs_one _) ?_
  intro w4 hB4 k4 z4
  have HS3 : Hid (Kp nob w0 w4) := Lib.hid (HS2.out.trans k4 (fun i e => .inr (by have e : i = w0.heap.size := e; omega)))
  refine ⟨HS3.out, fun _ => ?_⟩
  simp only [Act.put, List.setIfInBounds_toArray, List.set_cons_zero, List.set_cons_succ]
  refine reg_end (by kernel_rfl) ?_
  go_wp2
  have hsz : (Try.prog.info? 41).map (·.size) = some (bvs D).toArray.size := by rw [List.size_toArray, bvs_length, HTL.out]; kernel_rfl
  refine bodyPost_ret (results_cell_row rfl _ _ w0.heap.size _ _ _ _ rfl hB4 arr32_under rfl hsz) rfl ⟨by rw [HDD.out], HS3.out⟩
set_option maxHeartbeats 4000000 in
set_option maxRecDepth 100000 in
theorem hash_i (p : Nat) (F : Nat → Prop) (ts : List Thing) (B : Option Addr) (m d : Nat) (ps : List Pc) (w0 : World)
    (hw : Iw w0 p F ts) (hp : Args w0 F B m ps) (hl : ts.length ≤ 100000) (lp : (catP ps).length ≤ 1048576) :
    Calls Try.prog 17 #[.pointer (some ⟨p, 0, none⟩), .slice B m d] w0 fun e w' => ∃ F2, e = .returned (.agg (bvs (out ts (hashT (catP ps)) 32)).toArray) ∧ Iq w0 F w' p F2 (mk ts (hashT (catP ps))) := by
  obtain ⟨bn, bs, hF, hw, hg⟩ := hw
  have HG := Lib.hid hg
  have HF := Lib.hid hF
  have HW := Lib.hid hw
  have HNE : Hid (w0.heap.size ≠ bn) := Lib.hid (by have := hw.lt bn (.inr (.inl rfl)); omega)
  clear hF hw hg
  have HP := Lib.hid hp
  have hz := zc_run
  have HZ := Lib.hid (Blk.new w0 41 zc)
  have HK1 := Lib.hid ((Kp.refl nob w0).alloc (.cells zc.toArray 41))
  clear hp
  go_enter Try.func17, Try.ntmps17
  go_wp2_with fail
  generalize hw1 : w0.alloc (.cells zc.toArray 41) = w1 at *
  clear hw1
  refine (joined_any B m d ps F _ (HP.out.keep0 HK1.out) (by omega)).mono ?_
  rintro e w2 ⟨rfl, k2⟩
  have HN2 := Lib.hid (HK1.out.trans k2 (fun _ e => e.elim))
  have HZ2 := Lib.hid (HZ.out.keep k2 (fun e => e))
  clear k2
  go_wp2_with fail
  refine (digest_any p bn bs _ ⟨72, [], [], [], catP ps⟩ _ (HW.out.keep0 HN2.out) (by rw [List.length_map]; exact hl) (by decide : (72 : UInt8) ≠ 83)).mono ?_
  rintro e w3 ⟨rfl, hx, k3⟩
  have HS2 := Lib.hid ((HN2.out.nob (fun i => i = bn)).trans k3 (fun _ e => .inl e))
  have HX3 := Lib.hid hx
  have HZ3 := Lib.hid (HZ2.out.keep k3 (fun e => HNE.out e))
  obtain ⟨D, hD⟩ : ∃ D, D = tok 72 (num (mk (ts.map ct) ⟨72, [], [], [], catP ps⟩) ⟨72, [], [], [], catP ps⟩) 32 := ⟨_, rfl⟩
  have HTL := Lib.hid (show D.length = 32 by rw [hD]; exact tok_length _ _ _ (by omega))
  have HDD := Lib.hid hD
  rw [← hD]
  clear hx k3 hD
  go_wp2_with (first
    | (refine wpList_store_blk rfl 41 (.tmp 4) (.tmp 9) rfl _ _ zc (bvs D) HZ3.out rfl rfl (by rw [bvs_length, zc_length, HTL.out]) (by rw [bvs_length, HTL.out]; kernel_rfl) (bvs_one _) ?_; intro w4 hB4 k4 z4)
    | fail)
  have hsz : (Try.prog.info? 41).map (·.size) = some (bvs D).toArray.size := by rw [List.size_toArray, bvs_length, HTL.out]; kernel_rfl
  have HX4 := HX3.out.keep k4 (fun i hi e => by have e : i = w0.heap.size := e; have := HW.out.lt i hi; omega)
  refine bodyPost_ret (results_cell_row rfl _ _ w0.heap.size _ _ _ _ rfl hB4 arr32_under rfl hsz) rfl ⟨F, by rw [HDD.out]; exact out_ct HG.out (hashT (catP ps)) 32 (hashT_good (catP ps)), iw_more HF.out HG.out (hashT (catP ps)) (hashT_good (catP ps)) HX4, fun _ e => .inl e, (HS2.out.trans k4 (fun i e => .inr (by have e : i = w0.heap.size := e; omega))).mono (fun i _ e => by rw [HF.out]; exact .inr (.inl e))⟩
set_option maxHeartbeats 4000000 in
set_option maxRecDepth 100000 in
theorem hash_nil (B : Option Addr) (m d : Nat) (ps : List Pc) (F : Nat → Prop) (w0 : World) (hp : Args w0 F B m ps) (lp : (catP ps).length ≤ 1048576) :
    Calls Try.prog 17 #[.pointer none, .slice B m d] w0 fun e w' => e = .returned (.agg (bvs z32).toArray) ∧ Kp nob w0 w' := by
  have HP := Lib.hid hp
  have hz := zc_run
  have HZ := Lib.hid (Blk.new w0 41 zc)
  have HK1 := Lib.hid ((Kp.refl nob w0).alloc (.cells zc.toArray 41))
  clear hp
  go_enter Try.func17, Try.ntmps17
  go_wp2_with fail
  generalize hw1 : w0.alloc (.cells zc.toArray 41) = w1 at *
  clear hw1
  refine (joined_any B m d ps F _ (HP.out.keep0 HK1.out) (by omega)).mono ?_
  rintro e w2 ⟨rfl, k2⟩
  have HN2 := Lib.hid (HK1.out.trans k2 (fun _ e => e.elim))
  have HZ2 := Lib.hid (HZ.out.keep k2 (fun e => e))
  clear k2
  go_wp2_with fail
  refine (digest_nil _ ⟨72, [], [], [], catP ps⟩ rfl _).mono ?_
  rintro e w3 ⟨rfl, k3⟩
  have HS2 := Lib.hid (HN2.out.trans k3 (fun _ e => e.elim))
  have HZ3 := Lib.hid (HZ2.out.keep k3 (fun e => e))
  obtain ⟨D, hD⟩ : ∃ D, D = z32 := ⟨_, rfl⟩
  have HTL := Lib.hid (show D.length = 32 by rw [hD]; simp [z32])
  have HDD := Lib.hid hD
  rw [← hD]
  clear k3 hD
  go_wp2_with (first
    | (refine wpList_store_blk rfl 41 (.tmp 4) (.tmp 9) rfl _ _ zc (bvs D) HZ3.out rfl rfl (by rw [bvs_length, zc_length, HTL.out]) (by rw [bvs_length, HTL.out]; kernel_rfl) (bvs_one _) ?_; intro w4 hB4 k4 z4)
    | fail)
  have hsz : (Try.prog.info? 41).map (·.size) = some (bvs D).toArray.size := by rw [List.size_toArray, bvs_length, HTL.out]; kernel_rfl
  refine bodyPost_ret (results_cell_row rfl _ _ w0.heap.size _ _ _ _ rfl hB4 arr32_under rfl hsz) rfl ⟨by rw [HDD.out], HS2.out.since k4 (fun i e => by cases e; exact Nat.le_refl _)⟩
end Go.Proofs.Ytakhanganifpnaa.Ideal
