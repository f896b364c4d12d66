/- Lemmas: IdealC IdealQ CodeR0 IdealU IdealI. -/
import Derived.Test.YtigdlnfgdjfdoaaGreatZK08
set_option maxHeartbeats 4000000
set_option maxRecDepth 100000
set_option linter.unusedVariables false
set_option linter.unusedSimpArgs false
namespace Go.Proofs.YtigdlnfgdjfdoaaGreat
namespace Ideal
open Go Go.RowKit Kit
open Sha (Pc PcsOk catP catP_snoc catP_le)
def ct (t : Thing) : Thing := if t.kind = 83 then t else if t.kind = 72 then ⟨72, [], [], [], t.a⟩ else ⟨t.kind, t.a, [], [], t.b⟩
structure Good (t : Thing) : Prop where
 of ::
 or : t.kind = 83 ∨ ((t.kind = 77 ∨ t.kind = 68) ∧ t.c = [] ∧ t.d = []) ∨ (t.kind = 72 ∧ t.b = [] ∧ t.c = [] ∧ t.d = [])
theorem sealT_good (key nonce aad text : List UInt8) : Good (sealT key nonce aad text) := ⟨.inl rfl⟩
theorem derT_good (key l : List UInt8) : Good (derT key l) := ⟨.inr (.inl ⟨.inr rfl, rfl, rfl⟩)⟩
theorem hashT_good (l : List UInt8) : Good (hashT l) := ⟨.inr (.inr ⟨rfl, rfl, rfl, rfl⟩)⟩
theorem ct_kind (t : Thing) : (ct t).kind = t.kind := by
 unfold ct
 split
 · rfl
 · split
   · rename_i h; exact h.symm
   · rfl
theorem ct_inj {t u : Thing} (ht : Good t) (hu : Good u) (h : ct t = ct u) : t = u := by
 have hk : t.kind = u.kind := by rw [← ct_kind t, ← ct_kind u, h]
 obtain ⟨k, a, b, c, d⟩ := t
 obtain ⟨k', a', b', c', d'⟩ := u
 simp only at hk
 subst hk
 have h1 := ht.or
 have h2 := hu.or
 simp only at h1 h2
 unfold ct at h
 simp only at h
 by_cases h83 : k = 83
 · rw [if_pos h83, if_pos h83] at h; exact h
 · rw [if_neg h83, if_neg h83] at h
   rcases h1 with h1 | ⟨h1, rfl, rfl⟩ | ⟨rfl, rfl, rfl, rfl⟩
   · exact absurd h1 h83
   · have h72 : k ≠ 72 := by rcases h1 with rfl | rfl <;> decide
     rw [if_neg h72, if_neg h72] at h
     rcases h2 with h2 | ⟨_, rfl, rfl⟩ | ⟨h2, _⟩
     · exact absurd h2 h83
     · simp only [Thing.mk.injEq, true_and] at h
       rw [h.1, h.2]
     · exact absurd h2 h72
   · rcases h2 with h2 | ⟨h2, _⟩ | ⟨_, rfl, rfl, rfl⟩
     · exact absurd h2 h83
     · rcases h2 with h2 | h2 <;> exact absurd h2 (by decide)
     · simp only [if_true, Thing.mk.injEq, true_and] at h
       rw [h]
theorem num_ct {ts : List Thing} (hg : ∀ t ∈ ts, Good t) (t : Thing) (ht : Good t) : num (ts.map ct) (ct t) = num ts t := by
 have key : ∀ i, numT (ts.map ct) (ct t) i = numT ts t i := by
  intro i
  induction i with
  | zero => rfl
  | succ i ih =>
    rw [numT_succ, numT_succ, ih]
    have : ((ts.map ct)[i]? = some (ct t)) = (ts[i]? = some t) := by
     rw [List.getElem?_map]
     cases hx : ts[i]? with
     | none => simp
     | some x =>
       simp only [Option.map_some, Option.some.injEq]
       exact propext ⟨fun e => ct_inj (hg x (List.mem_of_getElem? hx)) ht e, fun e => by rw [e]⟩
    simp only [this]
 unfold num
 rw [List.length_map, key]
theorem mk_ct {ts : List Thing} (hg : ∀ t ∈ ts, Good t) (t : Thing) (ht : Good t) : mk (ts.map ct) (ct t) = (mk ts t).map ct := by
 unfold mk
 rw [num_ct hg t ht]
 split
 · rw [List.map_append]; rfl
 · rfl
theorem good_mk {ts : List Thing} (hg : ∀ t ∈ ts, Good t) (t : Thing) (ht : Good t) : ∀ u ∈ mk ts t, Good u := fun u hu => by
 rcases (mem_mk _ _ _).1 hu with rfl | hu
 · exact ht
 · exact hg u hu
theorem num_mk_ct {ts : List Thing} (hg : ∀ t ∈ ts, Good t) (t : Thing) (ht : Good t) : num (mk (ts.map ct) (ct t)) (ct t) = num (mk ts t) t := by
 rw [mk_ct hg t ht, num_ct (good_mk hg t ht) t ht]
theorem out_ct {ts : List Thing} (hg : ∀ t ∈ ts, Good t) (t : Thing) (n : Nat) (ht : Good t) : Ending.returned (Value.agg (bvs (tok t.kind (num (mk (ts.map ct) (ct t)) (ct t)) n)).toArray) = .returned (.agg (bvs (out ts t n)).toArray) := by
 rw [num_mk_ct hg t ht]; rfl
def Iw (w : World) (p : Nat) (F : Nat → Prop) (ts : List Thing) : Prop := ∃ bn bs, F = Cf p bn bs ∧ Cx w p bn bs (ts.map ct) (fun _ => True) ∧ ∀ t ∈ ts, Good t
theorem Iw.keep {w w2 : World} {p : Nat} {F G : Nat → Prop} {ts : List Thing} (h : Iw w p F ts) (k : Kp G w w2) (hF : ∀ i, F i → ¬ G i) : Iw w2 p F ts := by
 obtain ⟨bn, bs, rfl, h1, h2⟩ := h
 exact ⟨bn, bs, rfl, h1.keep k hF, h2⟩
theorem Iw.lt {w : World} {p : Nat} {F : Nat → Prop} {ts : List Thing} (h : Iw w p F ts) : ∀ k, F k → k < w.heap.size := by
 obtain ⟨bn, bs, rfl, h1, h2⟩ := h
 exact h1.lt
structure Iq (w : World) (F : Nat → Prop) (w2 : World) (p : Nat) (F2 : Nat → Prop) (ts : List Thing) : Prop where
 i : Iw w2 p F2 ts
 f : ∀ k, F2 k → F k ∨ w.heap.size ≤ k
 k : Kp F w w2
structure Ans (w w2 : World) (F2 : Nat → Prop) (A : Option Addr) (c : Nat) (l : List UInt8) : Prop where
 row : Row w2 A (bvs l)
 far : ∀ k, ab A = some k → w.heap.size ≤ k ∧ ¬ F2 k
 cap : l.length ≤ c
 mx : c ≤ maxLen
 nil : A = none → c = 0
theorem iw_more {w : World} {p bn bs : Nat} {F : Nat → Prop} {ts : List Thing} (hF : F = Cf p bn bs) (hg : ∀ t ∈ ts, Good t) (t : Thing) (ht : Good t) (h : Cx w p bn bs (mk (ts.map ct) (ct t)) (fun _ => True)) : Iw w p F (mk ts t) :=
 ⟨bn, bs, hF, by rw [← mk_ct hg t ht]; exact h, good_mk hg t ht⟩
theorem new_i (w : World) : Calls Tryz.prog 29 #[] w fun e w' => ∃ p F, e = .returned (.pointer (some ⟨p, 0, none⟩)) ∧ Iq w nob w' p F [] := by
 have hm := @run_makeMap Tryz.prog
 go_enter Tryz.func29, Tryz.ntmps29
 go_wp2
 go_ret
 have hB : Blk (((w.alloc (.map #[] 0)).alloc (.map #[] 0)).alloc (.cells #[.map (some w.heap.size), .map (some (w.heap.size + 1))] 121)) (w.heap.size + 2) 121 [.map (some w.heap.size), .map (some (w.heap.size + 1))] := Blk.new' (by simp) rfl
 have k1 := (Kp.refl nob w).alloc (.map #[] 0)
 have k2 := (Kp.refl nob (w.alloc (.map #[] 0))).alloc (.map #[] 0)
 have k3 := (Kp.refl nob ((w.alloc (.map #[] 0)).alloc (.map #[] 0))).alloc (.cells #[.map (some w.heap.size), .map (some (w.heap.size + 1))] 121)
 have m1 := ((mapB_new w).keep k2 (fun e => e)).keep k3 (fun e => e)
 have m2 : MapB ((w.alloc (.map #[] 0)).alloc (.map #[] 0)) (w.heap.size + 1) [] := by have := mapB_new (w.alloc (.map #[] 0)); simpa using this
 refine ⟨w.heap.size + 2, _, rfl, ⟨⟨w.heap.size, w.heap.size + 1, rfl, ⟨hB, m1, ⟨[], m2.keep k3 (fun e => e), ⟨fun q h => (by cases h), fun i t h => (by simp at h)⟩⟩, by omega, List.nodup_nil, fun t h => (by simp at h)⟩, fun t h => (by cases h)⟩, fun k e => .inr ?_, (k1.trans k2 (fun _ e => e.elim)).trans k3 (fun _ e => e.elim)⟩⟩
 rcases e with rfl | rfl | rfl <;> omega
theorem derive_i (p : Nat) (F : Nat → Prop) (ts : List Thing) (K : Option Addr) (nk ck : Nat) (key : List UInt8) (B : Option Addr) (m d : Nat) (ps : List Pc) (w0 : World)
    (hw : Iw w0 p F ts) (hk : Arg w0 F K nk ck key) (hp : Args w0 F B m ps) (hl : ts.length ≤ 100000) (lk : key.length ≤ 1048576) (lp : (catP ps).length ≤ 1048576) :
    Calls Tryz.prog 153 #[.pointer (some ⟨p, 0, none⟩), .slice K nk ck, .slice B m d] w0 fun e w' => ∃ F2, e = .returned (.agg (bvs (out ts (derT key (catP ps)) 32)).toArray) ∧ Iq w0 F w' p F2 (mk ts (derT key (catP ps))) := by
 obtain ⟨bn, bs, hF, hw, hg⟩ := hw
 have HG := Lib.hid hg
 have HF := Lib.hid hF
 have HW := Lib.hid hw
 have HNE : Hid (w0.heap.size ≠ bn) := Lib.hid (by have := hw.lt bn (.inr (.inl rfl)); omega)
 have HA := Lib.hid hk
 have HP := Lib.hid hp
 have hz := zc_run
 have HT0 := Lib.hid (Blk.new w0 47 zc)
 have HKA := Lib.hid ((Kp.refl nob w0).alloc (.cells zc.toArray 47))
 clear hk hp hw hF hg
 go_enter Tryz.func153, Tryz.ntmps153
 go_wp2
 generalize hw1 : w0.alloc (.cells zc.toArray 47) = w1 at *
 have HZ := Lib.hid (HT0.out.keep (Kp.refl nob w1).drew (fun e => e))
 have HK01 := Lib.hid HKA.out.drew
 have HK1 := Lib.hid (HK01.out.nob (fun i => i = bn))
 clear hw1 HT0 HKA
 have HS0 : Hid (Kp (fun i => i = bn) w0 w1.drew) := Lib.hid HK1.out
 refine reg_begin (Kp (fun i => i = bn) w0) (by kernel_rfl) HS0.out (fun _ => ?_)
 refine reg_tk (v := .pointer (some ⟨p, 0, none⟩)) 0 7 rfl rfl (by kernel_rfl) (by rfl) HS0.out (fun w hw => by go_simp) ?_; simp only [Act.put, zp1, zp2, zp3]
 refine reg_tk (v := .slice K nk ck) 1 8 rfl rfl (by kernel_rfl) (by rfl) HS0.out (fun w hw => by go_simp) ?_; simp only [Act.put, zp1, zp2, zp3]
 refine reg_bytesStr 2 (some 9) 58 9 5 (.tmp 8) rfl rfl rfl (by kernel_rfl) (by kernel_rfl) (by kernel_rfl) (by rfl) HS0.out u8i_under (by kernel_rfl) (by kernel_rfl) K nk ck key HA.out.len rfl (fun _ x => (HA.out.keep x (fun i e => by rw [HF.out]; exact .inr (.inl e))).row) ?_; simp only [Act.put, zp1, zp2, zp3]
 refine reg_tk (v := .slice B m d) 3 10 rfl rfl (by kernel_rfl) (by rfl) HS0.out (fun w hw => by go_simp) ?_; simp only [Act.put, zp1, zp2, zp3]
 refine reg_call 4 (some 11) rfl rfl (by kernel_rfl) (by rfl) _ _ (exec_func 158 _ _ [.slice B m d] rfl (by kernel_rfl) rfl) ?_
 refine (joined_any B m d ps F _ (HP.out.keep0 HK01.out) (by omega)).mono ?_
 rintro e w2 ⟨rfl, k2⟩
 have HS1 : Hid (Kp (fun i => i = bn) w0 w2) := Lib.hid (HS0.out.trans (k2.nob (fun i => i = bn)) (fun i e => .inl e))
 have HN2 := Lib.hid (HK01.out.trans k2 (fun _ e => e.elim))
 have HZ2 := Lib.hid (HZ.out.keep k2 (fun e => e))
 clear k2
 refine ⟨_, rfl, HS1.out, fun _ => ?_⟩
 simp only [Act.put, zp1, zp2, zp3]
 refine reg_tk (v := .agg (tc ⟨68, key, [], [], catP ps⟩).toArray) 5 12 rfl rfl (by kernel_rfl) (by rfl) HS1.out (fun w hw => by first | (go_simp; done) | kernel_rfl) ?_; simp only [Act.put, zp1, zp2, zp3]
 refine reg_call 6 (some 13) rfl rfl (by kernel_rfl) (by rfl) _ _ (exec_func 157 _ _ [.pointer (some ⟨p, 0, none⟩), .agg (tc ⟨68, key, [], [], catP ps⟩).toArray] rfl (by kernel_rfl) rfl) ?_
 refine (digest_any p bn bs _ ⟨68, key, [], [], catP ps⟩ _ (HW.out.keep0 HN2.out) (by rw [List.length_map]; exact hl) (by decide : (68 : UInt8) ≠ 83)).mono ?_
 rintro e w3 ⟨rfl, hx, k3⟩
 have HS2 : Hid (Kp (fun i => i = bn) w0 w3) := Lib.hid (HS1.out.trans k3 (fun i e => .inl e))
 have HX3 := Lib.hid hx
 have HZ3 := Lib.hid (HZ2.out.keep k3 (fun e => HNE.out e))
 obtain ⟨D, hD⟩ : ∃ D, D = tok 68 (num (mk (ts.map ct) ⟨68, key, [], [], catP ps⟩) ⟨68, key, [], [], catP ps⟩) 32 := ⟨_, rfl⟩
 have HTL := Lib.hid (show D.length = 32 by rw [hD]; exact tok_length _ _ _ (by omega))
 have HDD := Lib.hid hD
 rw [← hD]
 clear hx k3 hD
 refine ⟨_, rfl, HS2.out, fun _ => ?_⟩
 simp only [Act.put, zp1, zp2, zp3]
 refine reg_store 7 none 47 (.tmp 6) (.tmp 13) rfl rfl rfl (by kernel_rfl) (by rfl) w0.heap.size 47 _ (bvs D) HZ3.out rfl rfl (by rw [bvs_length, zc_length, HTL.out]) (by rw [bvs_length, HTL.out]; kernel_rfl) (bvs_one _) ?_
 intro w4 hB4 k4 z4
 have HS3 : Hid (Kp (fun i => i = bn) w0 w4) := Lib.hid (HS2.out.trans k4 (fun i e => .inr (by have e : i = w0.heap.size := e; omega)))
 refine ⟨HS3.out, fun _ => ?_⟩
 simp only [Act.put, zp1, zp2, zp3]
 refine reg_end (by kernel_rfl) ?_
 go_wp2
 have hsz : (Tryz.prog.info? 47).map (·.size) = some (bvs D).toArray.size := by rw [List.size_toArray, bvs_length, HTL.out]; kernel_rfl
 have HX4 := HX3.out.keep k4 (fun i hi e => by have e : i = w0.heap.size := e; have := HW.out.lt i hi; omega)
 refine bodyPost_ret (results_cell_row rfl _ _ w0.heap.size _ _ _ _ rfl hB4 arr32_under rfl hsz) rfl ⟨F, by rw [HDD.out]; exact out_ct HG.out (derT key (catP ps)) 32 (derT_good key (catP ps)), iw_more HF.out HG.out (derT key (catP ps)) (derT_good key (catP ps)) HX4, fun _ e => .inl e, HS3.out.mono (fun i _ e => by rw [HF.out]; exact .inr (.inl e))⟩
theorem hash_i (p : Nat) (F : Nat → Prop) (ts : List Thing) (B : Option Addr) (m d : Nat) (ps : List Pc) (w0 : World)
    (hw : Iw w0 p F ts) (hp : Args w0 F B m ps) (hl : ts.length ≤ 100000) (lp : (catP ps).length ≤ 1048576) :
    Calls Tryz.prog 154 #[.pointer (some ⟨p, 0, none⟩), .slice B m d] w0 fun e w' => ∃ F2, e = .returned (.agg (bvs (out ts (hashT (catP ps)) 32)).toArray) ∧ Iq w0 F w' p F2 (mk ts (hashT (catP ps))) := by
 obtain ⟨bn, bs, hF, hw, hg⟩ := hw
 have HG := Lib.hid hg
 have HF := Lib.hid hF
 have HW := Lib.hid hw
 have HNE : Hid (w0.heap.size ≠ bn) := Lib.hid (by have := hw.lt bn (.inr (.inl rfl)); omega)
 clear hF hw hg
 have HP := Lib.hid hp
 have hz := zc_run
 have HZ := Lib.hid (Blk.new w0 47 zc)
 have HK1 := Lib.hid ((Kp.refl nob w0).alloc (.cells zc.toArray 47))
 clear hp
 go_enter Tryz.func154, Tryz.ntmps154
 go_wp2_with fail
 generalize hw1 : w0.alloc (.cells zc.toArray 47) = w1 at *
 clear hw1
 refine (joined_any B m d ps F _ (HP.out.keep0 HK1.out) (by omega)).mono ?_
 rintro e w2 ⟨rfl, k2⟩
 have HN2 := Lib.hid (HK1.out.trans k2 (fun _ e => e.elim))
 have HZ2 := Lib.hid (HZ.out.keep k2 (fun e => e))
 clear k2
 go_wp2_with fail
 refine (digest_any p bn bs _ ⟨72, [], [], [], catP ps⟩ _ (HW.out.keep0 HN2.out) (by rw [List.length_map]; exact hl) (by decide : (72 : UInt8) ≠ 83)).mono ?_
 rintro e w3 ⟨rfl, hx, k3⟩
 have HS2 := Lib.hid ((HN2.out.nob (fun i => i = bn)).trans k3 (fun _ e => .inl e))
 have HX3 := Lib.hid hx
 have HZ3 := Lib.hid (HZ2.out.keep k3 (fun e => HNE.out e))
 obtain ⟨D, hD⟩ : ∃ D, D = tok 72 (num (mk (ts.map ct) ⟨72, [], [], [], catP ps⟩) ⟨72, [], [], [], catP ps⟩) 32 := ⟨_, rfl⟩
 have HTL := Lib.hid (show D.length = 32 by rw [hD]; exact tok_length _ _ _ (by omega))
 have HDD := Lib.hid hD
 rw [← hD]
 clear hx k3 hD
 go_wp2_with (first
  | (refine wpList_store_blk rfl 47 (.tmp 4) (.tmp 9) rfl _ _ zc (bvs D) HZ3.out rfl rfl (by rw [bvs_length, zc_length, HTL.out]) (by rw [bvs_length, HTL.out]; kernel_rfl) (bvs_one _) ?_; intro w4 hB4 k4 z4)
  | fail)
 have hsz : (Tryz.prog.info? 47).map (·.size) = some (bvs D).toArray.size := by rw [List.size_toArray, bvs_length, HTL.out]; kernel_rfl
 have HX4 := HX3.out.keep k4 (fun i hi e => by have e : i = w0.heap.size := e; have := HW.out.lt i hi; omega)
 refine bodyPost_ret (results_cell_row rfl _ _ w0.heap.size _ _ _ _ rfl hB4 arr32_under rfl hsz) rfl ⟨F, by rw [HDD.out]; exact out_ct HG.out (hashT (catP ps)) 32 (hashT_good (catP ps)), iw_more HF.out HG.out (hashT (catP ps)) (hashT_good (catP ps)) HX4, fun _ e => .inl e, (HS2.out.trans k4 (fun i e => .inr (by have e : i = w0.heap.size := e; omega))).mono (fun i _ e => by rw [HF.out]; exact .inr (.inl e))⟩
theorem seal_store {w : World} {p bn bs : Nat} {cs : List Thing} {U : Thing → Prop} (h : Cx w p bn bs cs U) (i : Nat) (t : Thing) (hi : cs[i]? = some t) (hk : t.kind = 83) :
    ∃ w', (Instr.mapUpdate 119 (.map (some bs)) (.int .i64 ((i : Int) + 1)) (cv t)).run Tryz.prog w = .ok () w' ∧ Cx w' p bn bs cs (fun u => U u ∨ u = t) ∧ Kp (fun i => i = bs) w w' ∧ w'.heap.size = w.heap.size := by
 obtain ⟨ps, h1, h2⟩ := h.s
 have fin : ∀ (w' : World) (qs : List (Value × Value)), MapB w' bs qs → Sps cs (fun u => U u ∨ u = t) qs → Kp (fun i => i = bs) w w' → Cx w' p bn bs cs (fun u => U u ∨ u = t) := fun w' qs m s k =>
  ⟨h.b.keep k h.ne.2.1, h.n.keep k h.ne.2.2, ⟨qs, m, s⟩, h.ne, h.nd, h.sm⟩
 by_cases hm : ∃ u, (Value.int .i64 ((i : Int) + 1), u) ∈ ps
 · obtain ⟨u, hm⟩ := hm
   have hu := h2.one i t hi u hm
   subst hu
   obtain ⟨w', hr, m, k, z⟩ := h1.store_old (t := 119) int_keys h2.keys smap_under ((i : Int) + 1) (cv t) _ hm (fun u hu => h2.one i t hi u hu)
   refine ⟨w', hr, fin w' ps m ⟨h2.all, fun j x hj hx hU => ?_⟩ k, k, z⟩
   rcases hU with hU | rfl
   · exact h2.has j x hj hx hU
   · have := (List.getElem?_inj (List.getElem?_eq_some_iff.1 hj).1 h.nd).1 (hj.trans hi.symm)
     subst this; exact hm
 · have hn : ∀ q ∈ ps, q.1 ≠ Value.int .i64 ((i : Int) + 1) := fun q hq e => hm ⟨q.2, by rw [← e]; exact hq⟩
   obtain ⟨w', hr, m, k, z⟩ := h1.store_new (t := 119) int_keys h2.keys smap_under ((i : Int) + 1) (cv t) hn
   refine ⟨w', hr, fin w' _ m ⟨fun q hq => ?_, fun j x hj hx hU => ?_⟩ k, k, z⟩
   · rcases List.mem_append.1 hq with hq | hq
     · exact h2.all q hq
     · exact ⟨i, t, hi, hk, List.mem_singleton.1 hq⟩
   · rcases hU with hU | rfl
     · exact List.mem_append_left _ (h2.has j x hj hx hU)
     · have := (List.getElem?_inj (List.getElem?_eq_some_iff.1 hj).1 h.nd).1 (hj.trans hi.symm)
       subst this; exact List.mem_append_right _ (List.mem_singleton.2 rfl)
theorem seal_i (p : Nat) (F : Nat → Prop) (ts : List Thing) (K : Option Addr) (nk ck : Nat) (key : List UInt8) (N : Option Addr) (nn cn : Nat) (nonce : List UInt8) (T : Option Addr) (nt ct' : Nat) (text : List UInt8) (B : Option Addr) (m d : Nat) (ps : List Pc) (w0 : World)
    (hw : Iw w0 p F ts) (hk : Arg w0 F K nk ck key) (hn : Arg w0 F N nn cn nonce) (ht : Arg w0 F T nt ct' text) (hp : Args w0 F B m ps) (hl : ts.length ≤ 100000) (lk : key.length ≤ 1048576) (ln : nonce.length ≤ 1048576) (lt : text.length ≤ 1048576) (lp : (catP ps).length ≤ 1048576) :
    Calls Tryz.prog 156 #[.pointer (some ⟨p, 0, none⟩), .slice K nk ck, .slice N nn cn, .slice T nt ct', .slice B m d] w0 fun e w' => ∃ F2 X cX, e = .returned (.tuple #[.slice X (text.length + 16) cX, .int .i64 0]) ∧
     Iq w0 F w' p F2 (mk ts (sealT key nonce (catP ps) text)) ∧ Ans w0 w' F2 X cX (out ts (sealT key nonce (catP ps) text) (text.length + 16)) := by
 obtain ⟨bn, bs, hF, hw, hg⟩ := hw
 have HG := Lib.hid hg
 have HF := Lib.hid hF
 have HW := Lib.hid hw
 have HK := Lib.hid hk; have HN := Lib.hid hn; have HT := Lib.hid ht; have HP := Lib.hid hp
 have hnt : ¬ ((1048576 : Int) < (nt : Int)) := by have := ht.len; omega
 have HLP := Lib.hid lp
 have hlp : ¬ ((1048576 : Int) < ((catP ps).length : Int)) := by omega
 have HLT := Lib.hid lt
 clear hF hw hg hk hn ht hp lk ln lt lp
 go_enter Tryz.func156, Tryz.ntmps156
 go_wp2_with (go_at_call 160; refine (size_any B m d ps F _ HP.out (by have := HLP.out; omega)).mono ?_; rintro e w1 ⟨rfl, rfl⟩)
 rename_i KK hK
 have hcont : ∀ (q : Nat) (w9 : World), Kp nob w0 w9 → Blk w9 q 242 (tc (sealT key nonce (catP ps) text)) → w0.heap.size ≤ q → KK { tmps := #[(.pointer (some ⟨p, 0, none⟩) : Value), (.slice K nk ck : Value), (.slice N nn cn : Value), (.slice T nt ct' : Value), (.slice B m d : Value), undef, undef, undef, undef, undef, (.slice none 0 0 : Value), (.int .i64 0 : Value), (.pointer (some ⟨q, 0, none⟩) : Value), undef, (.bool false : Value), (.pointer (some ⟨p, 0, none⟩) : Value), (.bool false : Value), (.bool (decide ((1048576 : Int) < ((catP ps).length : Int))) : Value), (.slice T nt ct' : Value), (.int .i64 (nt : Int) : Value), (.bool false : Value), (.bool false : Value), (.slice B m d : Value), (.int .i64 ((catP ps).length : Int) : Value), (.bool (decide ((1048576 : Int) < ((catP ps).length : Int))) : Value), (.bool (decide ((1048576 : Int) < ((catP ps).length : Int))) : Value), (.slice K nk ck : Value), (.string (str key) : Value), (.slice N nn cn : Value), (.string (str nonce) : Value), (.slice B m d : Value), (.string (str (catP ps)) : Value), (.slice T nt ct' : Value), (.string (str text) : Value), (.agg (tc (sealT key nonce (catP ps) text)).toArray : Value), undef, undef, undef, undef, undef, undef, undef, undef, undef, undef, undef, undef], defers := [] } w9 := by
  intro q w9 k9 hB9 hq
  have HB9 := Lib.hid hB9
  have HK9 := Lib.hid k9
  have HQ := Lib.hid hq
  have HW9 := Lib.hid (HW.out.keep0 k9)
  obtain ⟨cs, hcs⟩ : ∃ cs, cs = ts.map ct := ⟨_, rfl⟩
  rw [← hcs] at HW9
  have HCS := Lib.hid hcs
  have hcl : cs.length ≤ 100000 := by rw [hcs, List.length_map]; exact hl
  obtain ⟨TT, hTT⟩ : ∃ TT, TT = sealT key nonce (catP ps) text := ⟨_, rfl⟩
  rw [← hTT] at HB9
  have HTT := Lib.hid hTT
  rw [← hTT]
  have hd : TT.d.length ≤ 1048576 := by rw [hTT]; exact HLT.out
  have HTK := Lib.hid (show TT.kind = 83 by rw [hTT]; rfl)
  clear k9 hB9 hq hcs hTT
  apply hK
  go_wp2_with (first | (refine wpList_load_blk rfl 242 (.tmp 12) rfl _ _ _ HB9.out rfl _ cthing_under rfl (by kernel_rfl) ?_) | fail)
  refine (number_any p bn bs cs TT _ HW9.out hcl (fun _ => hd)).mono ?_
  rintro e w10 ⟨rfl, hx, k10⟩
  obtain ⟨i, hi⟩ : ∃ i, num (mk cs TT) TT = i + 1 := ⟨num (mk cs TT) TT - 1, by have := num_pos cs TT; omega⟩
  have hit : (mk cs TT)[i]? = some TT := by have := num_at (mk cs TT) TT (num_pos cs TT); rwa [hi, Nat.add_sub_cancel] at this
  have hib : i ≤ 100000 := by have := num_le (mk cs TT) TT; have := mk_length_le cs TT; omega
  rw [hi]
  have HI := Lib.hid hi
  have HNQ : Hid (q ≠ bn ∧ q ≠ bs) := Lib.hid (by have := HW.out.lt bn (.inr (.inl rfl)); have := HW.out.lt bs (.inr (.inr rfl)); have := HQ.out; omega)
  have HB10 := Lib.hid (HB9.out.keep k10 (fun e => HNQ.out.1 e))
  obtain ⟨w11, hs1, hs2, hs3, hs4⟩ := seal_store (hx.keep0 (Kp.refl nob w10).drew) i TT hit HTK.out
  have HS1 := Lib.hid hs1
  have hx11 : Cx w11 p bn bs (mk cs TT) (fun _ => True) := hs2.imp (fun u hu _ _ => by
   rcases (mem_mk _ _ _).1 hu with h | h
   · exact .inr h
   · exact .inl h)
  have HX11 := Lib.hid hx11
  have hc10 : w10.drew.cell? ⟨p, 1, none⟩ = some (.map (some bs)) := by rw [(hx.keep0 (Kp.refl nob w10).drew).b.cell]; rfl
  have HB11 := Lib.hid ((HB10.out.keep (Kp.refl nob w10).drew (fun e => e)).keep hs3 (fun e => HNQ.out.2 e))
  have HK11 := Lib.hid (((HK9.out.nob (Cf p bn bs)).trans (k10.mono (fun j _ e => (.inr (.inl e) : Cf p bn bs j))) (fun j e => .inl e)).drew.trans (hs3.mono (fun j _ e => (.inr (.inr e) : Cf p bn bs j))) (fun j e => .inl e))
  have hsl := sealed_any TT (i + 1) w11 (by omega) hd
  rw [show ((i + 1 : Nat) : Int) = (i : Int) + 1 from rfl] at hsl
  have HSL := Lib.hid hsl
  clear hx k10 hs1 hs2 hs3 hs4 hx11 hsl hi hit
  go_wp2_with fail
  have HSS : Hid ((fun w2 : World => w2.cell? ⟨p, 1, none⟩ = some (.map (some bs)) ∧ Blk w2 q 242 (tc TT)) w10.drew) := Lib.hid ⟨hc10, HB10.out⟩
  refine reg_begin (fun w2 : World => w2.cell? ⟨p, 1, none⟩ = some (.map (some bs)) ∧ Blk w2 q 242 (tc TT)) (by kernel_rfl) HSS.out (fun _ => ?_)
  refine reg_tk (v := .pointer (some ⟨p, 0, none⟩)) 0 38 rfl rfl (by kernel_rfl) (by rfl) HSS.out (fun w hw => by go_simp) ?_; simp only [Act.put, zp1, zp2, zp3]
  refine reg_tk (v := .pointer (some ⟨p, 0, none⟩)) 1 39 rfl rfl (by kernel_rfl) (by rfl) HSS.out (fun w hw => by go_simp) ?_; simp only [Act.put, zp1, zp2, zp3]
  refine reg_tk (v := .pointer (some ⟨p, 1, none⟩)) 2 40 rfl rfl (by kernel_rfl) (by rfl) HSS.out (fun w hw => by go_simp) ?_; simp only [Act.put, zp1, zp2, zp3]
  refine reg_tk (v := .map (some bs)) 3 41 rfl rfl (by kernel_rfl) (by rfl) HSS.out (fun w hw => by have hw0 := hw.1; go_simp) ?_; simp only [Act.put, zp1, zp2, zp3]
  refine reg_tk (v := .int .i64 ((i : Int) + 1)) 4 42 rfl rfl (by kernel_rfl) (by rfl) HSS.out (fun w hw => by go_simp) ?_; simp only [Act.put, zp1, zp2, zp3]
  refine reg_load 5 (some 43) 242 (.tmp 12) rfl rfl rfl (by kernel_rfl) (by kernel_rfl) (by kernel_rfl) (by rfl) HSS.out q 0 rfl (tc TT) _ (fun w hw => hw.2.range) cthing_under rfl (by kernel_rfl) ?_; simp only [Act.put, zp1, zp2, zp3]
  refine reg_update 6 none (.tmp 41) (.tmp 42) (.tmp 43) 119 rfl rfl rfl (by kernel_rfl) (by rfl) _ _ _ rfl rfl rfl HS1.out ⟨by rw [HX11.out.b.cell]; rfl, HB11.out⟩ (fun _ => ?_)
  simp only [Act.put, zp1, zp2, zp3]
  refine reg_end (by kernel_rfl) ?_
  go_wp2_with (first | (refine wpList_load_blk rfl 242 (.tmp 12) rfl _ _ _ HB11.out rfl _ cthing_under rfl (by kernel_rfl) ?_) | fail)
  refine HSL.out.mono ?_
  rintro e w12 ⟨X, cX, rfl, ho, k12, hf, hn12⟩
  have HO := Lib.hid ho
  have HE := Lib.hid (And.intro k12 (And.intro hf hn12))
  clear ho k12 hf hn12
  have hdl : TT.d.length = text.length := by rw [HTT.out]; rfl
  have HDL := Lib.hid hdl
  clear hdl
  go_wp2
  go_ret2
  have e1 : tok TT.kind (i + 1) (TT.d.length + 16) = out ts (sealT key nonce (catP ps) text) (text.length + 16) := by
   rw [← HI.out, HCS.out, HDL.out, HTT.out]
   exact congrArg (fun x => tok 83 x (text.length + 16)) (num_mk_ct HG.out (sealT key nonce (catP ps) text) (sealT_good _ _ _ _))
  have hK12 := HK11.out.trans HE.out.1 (fun _ e => e.elim)
  have hX12 := HX11.out.keep0 HE.out.1
  rw [HCS.out, HTT.out] at hX12
  refine ⟨F, X, cX, by rw [← HDL.out]; rfl, ⟨iw_more HF.out HG.out (sealT key nonce (catP ps) text) (sealT_good _ _ _ _) hX12, fun _ e => .inl e, by rw [HF.out]; exact hK12⟩, ⟨by rw [← e1]; exact HO.out.row, fun k e => ?_, by rw [← e1, tok_length _ _ _ (by omega)]; exact HO.out.cap.1, HO.out.cap.2, HE.out.2.2⟩⟩
  have h1 := HE.out.2.1 k e
  have h2 := HK11.out.size
  exact ⟨by omega, fun hF2 => by rw [HF.out] at hF2; have := HW.out.lt k hF2; omega⟩
 have hz : ∀ w, (zeroValue 242).run Tryz.prog w = .ok (.agg (tc ⟨0, [], [], [], []⟩).toArray) w := fun w => by kernel_rfl
 have HZ := Lib.hid hz
 have H0 : Hid (Kp nob w0 w0.drew) := Lib.hid (Kp.refl nob w0).drew
 have HCT := Lib.hid hcont
 clear hcont hK
 refine reg_begin (Kp nob w0) (by kernel_rfl) H0.out (fun _ => ?_)
 refine reg_tk (v := .slice K nk ck) 0 26 rfl rfl (by kernel_rfl) (by rfl) H0.out (fun w hw => by go_simp) ?_; simp only [Act.put, zp1, zp2, zp3]
 refine reg_bytesStr 1 (some 27) 58 9 5 (.tmp 26) rfl rfl rfl (by kernel_rfl) (by kernel_rfl) (by kernel_rfl) (by rfl) H0.out u8i_under (by kernel_rfl) (by kernel_rfl) K nk ck key HK.out.len rfl (fun _ x => (HK.out.keep0 x).row) ?_; simp only [Act.put, zp1, zp2, zp3]
 refine reg_tk (v := .slice N nn cn) 2 28 rfl rfl (by kernel_rfl) (by rfl) H0.out (fun w hw => by go_simp) ?_; simp only [Act.put, zp1, zp2, zp3]
 refine reg_bytesStr 3 (some 29) 58 9 5 (.tmp 28) rfl rfl rfl (by kernel_rfl) (by kernel_rfl) (by kernel_rfl) (by rfl) H0.out u8i_under (by kernel_rfl) (by kernel_rfl) N nn cn nonce HN.out.len rfl (fun _ x => (HN.out.keep0 x).row) ?_; simp only [Act.put, zp1, zp2, zp3]
 refine reg_tk (v := .slice B m d) 4 30 rfl rfl (by kernel_rfl) (by rfl) H0.out (fun w hw => by go_simp) ?_; simp only [Act.put, zp1, zp2, zp3]
 refine reg_tk (v := .slice T nt ct') 6 32 rfl rfl (by kernel_rfl) (by rfl) H0.out (fun w hw => by go_simp) ?_; simp only [Act.put, zp1, zp2, zp3]
 refine reg_bytesStr 7 (some 33) 58 9 5 (.tmp 32) rfl rfl rfl (by kernel_rfl) (by kernel_rfl) (by kernel_rfl) (by rfl) H0.out u8i_under (by kernel_rfl) (by kernel_rfl) T nt ct' text HT.out.len rfl (fun _ x => (HT.out.keep0 x).row) ?_; simp only [Act.put, zp1, zp2, zp3]
 generalize w0.drew = wd at *
 refine reg_callOr (w' := wd.alloc (.cells (tc ⟨0, [], [], [], []⟩).toArray 242)) (v := .pointer (some ⟨wd.heap.size, 0, none⟩)) 5 9 (some 31) (some 12) rfl rfl rfl rfl (by kernel_rfl) (by rfl) (by rfl) _ _ (exec_func 158 _ _ [.slice B m d] rfl (by kernel_rfl) rfl) (by go_simp) (H0.out.alloc _) ?wa (fun _ => ?wb)
 case wa =>
  refine (joined_any B m d ps F _ (HP.out.keep0 H0.out) (by have := HLP.out; omega)).mono ?_
  rintro e w1 ⟨rfl, k1⟩
  have H1 := Lib.hid (H0.out.trans k1 (fun _ e => e.elim))
  clear k1
  refine ⟨_, rfl, H1.out, fun _ => ?_⟩
  simp only [Act.put, zp1, zp2, zp3]
  refine reg_tk (v := .agg (tc (sealT key nonce (catP ps) text)).toArray) 8 34 rfl rfl (by kernel_rfl) (by rfl) H1.out (fun w hw => by first | (go_simp; done) | kernel_rfl) ?_; simp only [Act.put, zp1, zp2, zp3]
  refine reg_step (w' := w1.alloc (.cells (tc ⟨0, [], [], [], []⟩).toArray 242)) (v := .pointer (some ⟨w1.heap.size, 0, none⟩)) 9 (some 12) rfl rfl (by kernel_rfl) (by rfl) (by go_simp) (H1.out.alloc _) (fun _ => ?_)
  simp only [Act.put, zp1, zp2, zp3]
  have hbk : Blk (w1.alloc (.cells (tc ⟨0, [], [], [], []⟩).toArray 242)) w1.heap.size 242 (tc ⟨0, [], [], [], []⟩) := Blk.new w1 _ _
  have hge := H1.out.size
  refine reg_store 10 none 242 (.tmp 12) (.tmp 34) rfl rfl rfl (by kernel_rfl) (by rfl) w1.heap.size _ _ (tc (sealT key nonce (catP ps) text)) hbk rfl rfl rfl (by kernel_rfl) (tc_one _) ?_
  intro w99 hB99 k99 z99
  have hkk : Kp nob w0 w99 := (H1.out.alloc _).since k99 (fun i e => by unfold oneB at e; omega)
  refine ⟨hkk, fun _ => ?_⟩
  simp only [Act.put, zp1, zp2, zp3]
  exact reg_end (by kernel_rfl) (HCT.out w1.heap.size w99 hkk hB99 hge)
 case wb =>
  simp only [Act.put, zp1, zp2, zp3]
  have hbk : Blk (wd.alloc (.cells (tc ⟨0, [], [], [], []⟩).toArray 242)) wd.heap.size 242 (tc ⟨0, [], [], [], []⟩) := Blk.new wd _ _
  have hge := H0.out.size
  have H0a := Lib.hid (H0.out.alloc (.cells (tc ⟨0, [], [], [], []⟩).toArray 242))
  generalize wd.alloc (.cells (tc ⟨0, [], [], [], []⟩).toArray 242) = wda at *
  refine reg_call 5 (some 31) rfl rfl (by kernel_rfl) (by rfl) _ _ (exec_func 158 _ _ [.slice B m d] rfl (by kernel_rfl) rfl) ?_
  refine (joined_any B m d ps F _ (HP.out.keep0 H0a.out) (by have := HLP.out; omega)).mono ?_
  rintro e w1 ⟨rfl, k1⟩
  have H1 := Lib.hid (H0a.out.trans k1 (fun _ e => e.elim))
  have hbk2 := hbk.keep k1 (fun e => e)
  clear k1
  refine ⟨_, rfl, H1.out, fun _ => ?_⟩
  simp only [Act.put, zp1, zp2, zp3]
  refine reg_tk (v := .agg (tc (sealT key nonce (catP ps) text)).toArray) 8 34 rfl rfl (by kernel_rfl) (by rfl) H1.out (fun w hw => by first | (go_simp; done) | kernel_rfl) ?_; simp only [Act.put, zp1, zp2, zp3]
  refine reg_store 10 none 242 (.tmp 12) (.tmp 34) rfl rfl rfl (by kernel_rfl) (by rfl) wd.heap.size _ _ (tc (sealT key nonce (catP ps) text)) hbk2 rfl rfl rfl (by kernel_rfl) (tc_one _) ?_
  intro w99 hB99 k99 z99
  have hkk : Kp nob w0 w99 := (H1.out).since k99 (fun i e => by unfold oneB at e; omega)
  refine ⟨hkk, fun _ => ?_⟩
  simp only [Act.put, zp1, zp2, zp3]
  exact reg_end (by kernel_rfl) (HCT.out wd.heap.size w99 hkk hB99 hge)
end Ideal

namespace Ideal
open Go Go.RowKit Kit
open Sha (Pc PcsOk catP catP_snoc catP_le)
theorem beq_sl (l m : List UInt8) : ((str l).toList == (str m).toList) = decide (l = m) := by
 rw [str_toList, str_toList, Bool.eq_iff_iff]; simp
theorem neq_str (w : World) (l m : List UInt8) : (binOp .neq 9 (.string (str l)) (.string (str m))).run Tryz.prog w = .ok (.bool (!decide (l = m))) w := by
 rw [binOp_string_neq, beq_sl]; rfl
theorem exec_neq {a : Act} {o : Oper} {w : World} (i j : Nat) (u : TypeId) (l m : List UInt8) (ho : o.op = .binOp .neq 9 (.tmp i) (.tmp j) u) (hx : a.eval (.tmp i) = .string (str l)) (hy : a.eval (.tmp j) = .string (str m)) : (execOp a.eval o).run Tryz.prog w = .ok (.value (.bool (!decide (l = m)))) w := by
 have hg : (eqGuard .neq 9 (.tmp i) (.tmp j) (.string (str l)) (.string (str m))).run Tryz.prog w = .ok () w := by kernel_rfl
 have hn := neq_str w l m
 unfold execOp
 simp only [ho, hx, hy, Sem.run_bind, hg, hn, Result.andThen_ok, Sem.run_pure]
theorem equal_any (A B : Option Addr) (n c m d : Nat) (l k : List UInt8) (w : World) (hl : l.length = n) (hk : k.length = m) (hA : Row w A (bvs l)) (hB : Row w B (bvs k)) :
    Calls Tryz.prog 129 #[.slice A n c, .slice B m d] w fun e w' => e = .returned (.bool (decide (l = k))) ∧ w = w' := by
 have c1 := conv_row w A n c l hl hA
 have c2 := conv_row w B m d k hk hB
 have e1 := beq_sl l k
 go_enter Tryz.func129, Tryz.ntmps129
 go_wp2
 go_ret
 exact ⟨by rw [← e1]; rfl, rfl⟩
def numOf (b : List UInt8) : Int := (sNum (b, false)).1
theorem numOf_tok (k : UInt8) (n c : Nat) (h : n < 4611686018427387904) : numOf (tok k n c) = n := by
 have e : tok k n c = le 8 n ++ ([k] ++ List.replicate (c - 9) 0xee) := by rw [tok, List.append_assoc]
 unfold numOf
 rw [e, sNum, sTake_app _ _ 8 (by simp)]
 show wrap64 (lowN (le 8 n) : Nat) = n
 rw [lowN_le]
 have := Nat.mod_eq_of_lt (show n < 256 ^ 8 by omega)
 rw [this]
 have := IntKind.wrap_i64 (n : Int)
 simp only [wrap64] at *
 omega
theorem opn_num {ts : List Thing} (hl : ts.length ≤ 100000) {key nonce aad b d : List UInt8} (h : opn ts key nonce aad b = some d) :
    sealT key nonce aad d ∈ ts ∧ b = tok 83 (num ts (sealT key nonce aad d)) (d.length + 16) ∧ numOf b = num ts (sealT key nonce aad d) := by
 obtain ⟨h1, h2⟩ := (opn_iff ts key nonce aad b d (by omega)).1 h
 rw [out_old _ _ _ h1] at h2
 have h2 : tok 83 (num ts (sealT key nonce aad d)) (d.length + 16) = b := h2
 have := num_le ts (sealT key nonce aad d)
 exact ⟨h1, h2.symm, by rw [← h2]; exact numOf_tok _ _ _ (by omega)⟩
theorem open_miss (p bn bs : Nat) (cs : List Thing) (K : Option Addr) (nk ck : Nat) (key : List UInt8) (N : Option Addr) (nn cn : Nat) (nonce : List UInt8) (T : Option Addr) (nt ct' : Nat) (text : List UInt8) (B : Option Addr) (m d : Nat) (ps : List Pc) (w0 : World)
    (hw : Cx w0 p bn bs cs (fun _ => True)) (hk : Arg w0 (Cf p bn bs) K nk ck key) (hn : Arg w0 (Cf p bn bs) N nn cn nonce) (ht : Arg w0 (Cf p bn bs) T nt ct' text) (hp : Args w0 (Cf p bn bs) B m ps) (lt : text.length ≤ 1048592) (lp : (catP ps).length ≤ 1048576) (hl : cs.length ≤ 100000)
    (hno : ∀ (i : Nat) (t : Thing), cs[i]? = some t → t.kind = 83 → (i : Int) + 1 ≠ numOf text) :
    Calls Tryz.prog 155 #[.pointer (some ⟨p, 0, none⟩), .slice K nk ck, .slice N nn cn, .slice T nt ct', .slice B m d] w0 fun e w' => e = .returned (.tuple #[.slice none 0 0, .int .i64 9]) ∧ Kp nob w0 w' := by
 have HNO := Lib.hid hno
 clear hno
 have HW := Lib.hid hw
 have HK := Lib.hid hk; have HN := Lib.hid hn; have HT := Lib.hid ht; have HP := Lib.hid hp
 have HLT := Lib.hid lt; have HLP := Lib.hid lp; have HL := Lib.hid hl
 have hz : ∀ w, (zeroValue 242).run Tryz.prog w = .ok (.agg (tc ⟨0, [], [], [], []⟩).toArray) w := fun w => by kernel_rfl
 have HZ := Lib.hid hz
 clear hw hk hn ht hp lt lp hl
 go_enter Tryz.func155, Tryz.ntmps155
 go_wp2_with fail
 refine (rRead2 T nt ct' text _ HT.out.len (by have := HT.out.len; have := HLT.out; omega) HT.out.nil HT.out.row).mono ?_
 rintro e w1 ⟨rb, A1, rfl, hr, k1, hf1, hlt1⟩
 have HK1 := Lib.hid k1
 have HF1 := Lib.hid (hf1 rb (.inl rfl))
 have HR := Lib.hid hr
 clear hr k1 hf1 hlt1 hz
 go_wp2_with fail
 refine (rNum rb A1 (text, false) _ HR.out).mono ?_
 rintro e w2 ⟨rfl, A2, _, k2, _⟩
 have HK2 := Lib.hid (HK1.out.since k2 (fun i e => by have e : i = rb := e; have := HF1.out; omega))
 have HW2 := Lib.hid (HW.out.keep0 HK2.out)
 rw [show (sNum (text, false)).1 = numOf text from rfl]
 clear k2
 have hc2 : w2.cell? ⟨p, 1, none⟩ = some (.map (some bs)) := by rw [HW2.out.b.cell]; rfl
 obtain ⟨q, hq⟩ : ∃ q, q = numOf text := ⟨_, rfl⟩
 rw [← hq]
 have HQ := Lib.hid hq
 clear hq
 obtain ⟨ps', m1, m2⟩ := HW2.out.s
 have HLK := Lib.hid (m1.look_not (t := 119) int_keys m2.keys smap_under (HZ.out w2) q (fun x hx e => by
  obtain ⟨i, t, h1, h2, rfl⟩ := m2.all x hx
  injection e with _ e
  exact HNO.out i t h1 h2 (by rw [e, HQ.out])))
 clear m1 m2
 go_wp2_with (first
  | (refine wpList_look_eq rfl (.tmp 24) (.tmp 25) 119 true rfl _ HLK.out ?_)
  | (refine wpList_store_new rfl 242 (.tmp 13) (.tmp 27) rfl _ (tc ⟨0, [], [], [], []⟩) rfl rfl rfl (by kernel_rfl) (tc_one _) ?_; intro w3 hB3 k3 z3; have HK3 := Lib.hid (HK2.out.trans k3 (fun _ e => e.elim)); clear hB3 k3 z3)
  | fail)
 go_ret2
 exact ⟨rfl, HK3.out⟩
theorem open_hit1 (p bn bs : Nat) (cs : List Thing) (K : Option Addr) (nk ck : Nat) (key : List UInt8) (N : Option Addr) (nn cn : Nat) (nonce : List UInt8) (T : Option Addr) (nt ct' : Nat) (text : List UInt8) (B : Option Addr) (m d : Nat) (ps : List Pc) (w0 : World)
    (hw : Cx w0 p bn bs cs (fun _ => True)) (hk : Arg w0 (Cf p bn bs) K nk ck key) (hn : Arg w0 (Cf p bn bs) N nn cn nonce) (ht : Arg w0 (Cf p bn bs) T nt ct' text) (hp : Args w0 (Cf p bn bs) B m ps) (lt : text.length ≤ 1048592) (lp : (catP ps).length ≤ 1048576) (hl : cs.length ≤ 100000)
    (i : Nat) (t : Thing) (hit : cs[i]? = some t) (hkd : t.kind = 83) (hnum : numOf text = (i : Int) + 1) (he : text ≠ tok 83 (i + 1) (t.d.length + 16)) :
    Calls Tryz.prog 155 #[.pointer (some ⟨p, 0, none⟩), .slice K nk ck, .slice N nn cn, .slice T nt ct', .slice B m d] w0 fun e w' => e = .returned (.tuple #[.slice none 0 0, .int .i64 9]) ∧ Kp nob w0 w' := by
 have HIT := Lib.hid hit; have HKD := Lib.hid hkd; have HNUM := Lib.hid hnum
 have hib : i < cs.length := (List.getElem?_eq_some_iff.1 hit).1
 have hd : t.d.length ≤ 1048576 := hw.sm t (List.mem_of_getElem? hit) hkd
 have hib2 : i ≤ 100000 := by omega
 clear hit hkd hnum hib
 have HE := Lib.hid he; clear he
 have HW := Lib.hid hw
 have HK := Lib.hid hk; have HN := Lib.hid hn; have HT := Lib.hid ht; have HP := Lib.hid hp
 have HLT := Lib.hid lt; have HLP := Lib.hid lp; have HL := Lib.hid hl
 have hz : ∀ w, (zeroValue 242).run Tryz.prog w = .ok (.agg (tc ⟨0, [], [], [], []⟩).toArray) w := fun w => by kernel_rfl
 have HZ := Lib.hid hz
 clear hw hk hn ht hp lt lp hl
 go_enter Tryz.func155, Tryz.ntmps155
 go_wp2_with fail
 refine (rRead2 T nt ct' text _ HT.out.len (by have := HT.out.len; have := HLT.out; omega) HT.out.nil HT.out.row).mono ?_
 rintro e w1 ⟨rb, A1, rfl, hr, k1, hf1, hlt1⟩
 have HK1 := Lib.hid k1
 have HF1 := Lib.hid (hf1 rb (.inl rfl))
 have HR := Lib.hid hr
 clear hr k1 hf1 hlt1 hz
 go_wp2_with fail
 refine (rNum rb A1 (text, false) _ HR.out).mono ?_
 rintro e w2 ⟨rfl, A2, _, k2, _⟩
 have HK2 := Lib.hid (HK1.out.since k2 (fun i e => by have e : i = rb := e; have := HF1.out; omega))
 have HW2 := Lib.hid (HW.out.keep0 HK2.out)
 rw [show (sNum (text, false)).1 = ((i : Int) + 1) from HNUM.out]
 clear k2
 have hc2 : w2.cell? ⟨p, 1, none⟩ = some (.map (some bs)) := by rw [HW2.out.b.cell]; rfl
 obtain ⟨ps', m1, m2⟩ := HW2.out.s
 have HLK := Lib.hid (m1.look_has (t := 119) int_keys m2.keys smap_under ((i : Int) + 1) (cv t) (m2.has i t HIT.out HKD.out trivial) (fun u hu => m2.one i t HIT.out u hu))
 clear m1 m2
 have hsl : ∀ w, Calls Tryz.prog 159 #[.agg (tc t).toArray, .int .i64 ((i : Int) + 1)] w fun e w' => ∃ A c, e = .returned (.slice A (t.d.length + 16) c) ∧ Kit.Own 5 w' A (t.d.length + 16) c (bvs (tok t.kind (i + 1) (t.d.length + 16))) ∧ Kp nob w w' ∧ Fresh w.heap.size A ∧ (A = none → c = 0) := fun w => by
  have := sealed_any t (i + 1) w (by omega) hd
  rwa [show ((i + 1 : Nat) : Int) = (i : Int) + 1 from rfl] at this
 have HSL := Lib.hid hsl
 clear hsl
 go_wp2_with (first
  | (refine wpList_look_eq rfl (.tmp 24) (.tmp 25) 119 true rfl _ HLK.out ?_)
  | (refine wpList_store_new rfl 242 (.tmp 13) (.tmp 27) rfl _ (tc t) rfl rfl rfl (by kernel_rfl) (tc_one _) ?_; intro w3 hB3 k3 z3; have HK3 := Lib.hid (HK2.out.trans k3 (fun _ e => e.elim)); have HB3 := Lib.hid hB3; clear hB3 k3 z3)
  | (refine wpList_load_gd 242 (.tmp 13) rfl (by rfl) _ _ (tc t) HB3.out rfl _ cthing_under rfl (by kernel_rfl) ?_)
  | fail)
 refine (HSL.out _).mono ?_
 rintro e w4 ⟨X, cX, rfl, ho4, k4, _, _⟩
 have HK4 := Lib.hid (HK3.out.trans k4 (fun _ e => e.elim))
 have HB4 := Lib.hid (HB3.out.keep k4 (fun e => e))
 have HRX := Lib.hid ho4.row
 clear ho4 k4
 go_wp2_with fail
 refine (equal_any T X nt ct' (t.d.length + 16) cX text (tok t.kind (i + 1) (t.d.length + 16)) _ HT.out.len (tok_length _ _ _ (by omega)) (HT.out.keep0 HK4.out).row HRX.out).mono ?_
 rintro e w5 ⟨rfl, rfl⟩
 rw [HKD.out, show decide (text = tok 83 (i + 1) (t.d.length + 16)) = false from decide_eq_false HE.out]
 go_wp2
 go_ret2
 exact ⟨rfl, HK4.out⟩
theorem open_hit2 (p bn bs : Nat) (cs : List Thing) (K : Option Addr) (nk ck : Nat) (key : List UInt8) (N : Option Addr) (nn cn : Nat) (nonce : List UInt8) (T : Option Addr) (nt ct' : Nat) (text : List UInt8) (B : Option Addr) (m d : Nat) (ps : List Pc) (w0 : World)
    (hw : Cx w0 p bn bs cs (fun _ => True)) (hk : Arg w0 (Cf p bn bs) K nk ck key) (hn : Arg w0 (Cf p bn bs) N nn cn nonce) (ht : Arg w0 (Cf p bn bs) T nt ct' text) (hp : Args w0 (Cf p bn bs) B m ps) (lt : text.length ≤ 1048592) (lp : (catP ps).length ≤ 1048576) (hl : cs.length ≤ 100000)
    (i : Nat) (t : Thing) (hit : cs[i]? = some t) (hkd : t.kind = 83) (hnum : numOf text = (i : Int) + 1) (he : text = tok 83 (i + 1) (t.d.length + 16)) (ha : t.a ≠ key) :
    Calls Tryz.prog 155 #[.pointer (some ⟨p, 0, none⟩), .slice K nk ck, .slice N nn cn, .slice T nt ct', .slice B m d] w0 fun e w' => e = .returned (.tuple #[.slice none 0 0, .int .i64 9]) ∧ Kp nob w0 w' := by
 have HIT := Lib.hid hit; have HKD := Lib.hid hkd; have HNUM := Lib.hid hnum
 have hib : i < cs.length := (List.getElem?_eq_some_iff.1 hit).1
 have hd : t.d.length ≤ 1048576 := hw.sm t (List.mem_of_getElem? hit) hkd
 have hib2 : i ≤ 100000 := by omega
 clear hit hkd hnum hib
 have HE := Lib.hid he; clear he
 have HHA := Lib.hid ha; clear ha
 have HW := Lib.hid hw
 have HK := Lib.hid hk; have HN := Lib.hid hn; have HT := Lib.hid ht; have HP := Lib.hid hp
 have HLT := Lib.hid lt; have HLP := Lib.hid lp; have HL := Lib.hid hl
 have hz : ∀ w, (zeroValue 242).run Tryz.prog w = .ok (.agg (tc ⟨0, [], [], [], []⟩).toArray) w := fun w => by kernel_rfl
 have HZ := Lib.hid hz
 clear hw hk hn ht hp lt lp hl
 go_enter Tryz.func155, Tryz.ntmps155
 go_wp2_with fail
 refine (rRead2 T nt ct' text _ HT.out.len (by have := HT.out.len; have := HLT.out; omega) HT.out.nil HT.out.row).mono ?_
 rintro e w1 ⟨rb, A1, rfl, hr, k1, hf1, hlt1⟩
 have HK1 := Lib.hid k1
 have HF1 := Lib.hid (hf1 rb (.inl rfl))
 have HR := Lib.hid hr
 clear hr k1 hf1 hlt1 hz
 go_wp2_with fail
 refine (rNum rb A1 (text, false) _ HR.out).mono ?_
 rintro e w2 ⟨rfl, A2, _, k2, _⟩
 have HK2 := Lib.hid (HK1.out.since k2 (fun i e => by have e : i = rb := e; have := HF1.out; omega))
 have HW2 := Lib.hid (HW.out.keep0 HK2.out)
 rw [show (sNum (text, false)).1 = ((i : Int) + 1) from HNUM.out]
 clear k2
 have hc2 : w2.cell? ⟨p, 1, none⟩ = some (.map (some bs)) := by rw [HW2.out.b.cell]; rfl
 obtain ⟨ps', m1, m2⟩ := HW2.out.s
 have HLK := Lib.hid (m1.look_has (t := 119) int_keys m2.keys smap_under ((i : Int) + 1) (cv t) (m2.has i t HIT.out HKD.out trivial) (fun u hu => m2.one i t HIT.out u hu))
 clear m1 m2
 have hsl : ∀ w, Calls Tryz.prog 159 #[.agg (tc t).toArray, .int .i64 ((i : Int) + 1)] w fun e w' => ∃ A c, e = .returned (.slice A (t.d.length + 16) c) ∧ Kit.Own 5 w' A (t.d.length + 16) c (bvs (tok t.kind (i + 1) (t.d.length + 16))) ∧ Kp nob w w' ∧ Fresh w.heap.size A ∧ (A = none → c = 0) := fun w => by
  have := sealed_any t (i + 1) w (by omega) hd
  rwa [show ((i + 1 : Nat) : Int) = (i : Int) + 1 from rfl] at this
 have HSL := Lib.hid hsl
 clear hsl
 go_wp2_with (first
  | (refine wpList_look_eq rfl (.tmp 24) (.tmp 25) 119 true rfl _ HLK.out ?_)
  | (refine wpList_store_new rfl 242 (.tmp 13) (.tmp 27) rfl _ (tc t) rfl rfl rfl (by kernel_rfl) (tc_one _) ?_; intro w3 hB3 k3 z3; have HK3 := Lib.hid (HK2.out.trans k3 (fun _ e => e.elim)); have HB3 := Lib.hid hB3; clear hB3 k3 z3)
  | (refine wpList_load_gd 242 (.tmp 13) rfl (by rfl) _ _ (tc t) HB3.out rfl _ cthing_under rfl (by kernel_rfl) ?_)
  | fail)
 refine (HSL.out _).mono ?_
 rintro e w4 ⟨X, cX, rfl, ho4, k4, _, _⟩
 have HK4 := Lib.hid (HK3.out.trans k4 (fun _ e => e.elim))
 have HB4 := Lib.hid (HB3.out.keep k4 (fun e => e))
 have HRX := Lib.hid ho4.row
 clear ho4 k4
 go_wp2_with fail
 refine (equal_any T X nt ct' (t.d.length + 16) cX text (tok t.kind (i + 1) (t.d.length + 16)) _ HT.out.len (tok_length _ _ _ (by omega)) (HT.out.keep0 HK4.out).row HRX.out).mono ?_
 rintro e w5 ⟨rfl, rfl⟩
 rw [HKD.out, show decide (text = tok 83 (i + 1) (t.d.length + 16)) = true from decide_eq_true HE.out]
 obtain ⟨q, hq⟩ : ∃ q, q = w2.heap.size := ⟨_, rfl⟩
 rw [← hq] at HB4 HB3 ⊢
 have HQ := Lib.hid hq
 clear hq HB3
 go_wp2
 have HS0 : Hid (Kp nob w0 w4.drew ∧ Blk w4.drew q 242 (tc t)) := Lib.hid ⟨HK4.out.drew, HB4.out⟩
 refine reg_begin (fun w' : World => Kp nob w0 w' ∧ Blk w' q 242 (tc t)) (by kernel_rfl) HS0.out (fun _ => ?_)
 refine reg_tk (v := .pointer (some ⟨q, 1, none⟩)) 0 39 rfl rfl (by kernel_rfl) (by rfl) HS0.out (fun w hw => by go_simp) ?_; simp only [Act.put, zp1, zp2, zp3]
 refine reg_tk (v := .string (str t.a)) 1 40 rfl rfl (by kernel_rfl) (by rfl) HS0.out (fun w hw => by have hc : w.cell? ⟨q, 1, none⟩ = some (.string (str t.a)) := (hw.2.cell 1).trans rfl; go_simp) ?_; simp only [Act.put, zp1, zp2, zp3]
 refine reg_tk (v := .slice K nk ck) 2 41 rfl rfl (by kernel_rfl) (by rfl) HS0.out (fun w hw => by go_simp) ?_; simp only [Act.put, zp1, zp2, zp3]
 refine reg_bytesStr 3 (some 42) 58 9 5 (.tmp 41) rfl rfl rfl (by kernel_rfl) (by kernel_rfl) (by kernel_rfl) (by rfl) HS0.out u8i_under (by kernel_rfl) (by kernel_rfl) K nk ck key HK.out.len rfl (fun _ x => (HK.out.keep0 x.1).row) ?_; simp only [Act.put, zp1, zp2, zp3]
 refine reg_tk (v := .bool true) 4 43 rfl rfl (by kernel_rfl) (by rfl) HS0.out (fun w hw => by exact (exec_neq 40 42 _ t.a key rfl rfl rfl).trans (by rw [show (!decide (t.a = key)) = true from by simp [HHA.out]])) ?_; simp only [Act.put, zp1, zp2, zp3]
 refine reg_tk (v := .bool true) 5 44 rfl rfl (by kernel_rfl) (by rfl) HS0.out (fun w hw => by go_simp) ?_; simp only [Act.put, zp1, zp2, zp3]
 refine reg_skip 6 (some 45) rfl rfl (by kernel_rfl) (by kernel_rfl) (by kernel_rfl) (by rfl) HS0.out ?_; simp only [Act.put, zp1, zp2, zp3]
 refine reg_skip 7 (some 46) rfl rfl (by kernel_rfl) (by kernel_rfl) (by kernel_rfl) (by rfl) HS0.out ?_; simp only [Act.put, zp1, zp2, zp3]
 refine reg_skip 8 (some 47) rfl rfl (by kernel_rfl) (by kernel_rfl) (by kernel_rfl) (by rfl) HS0.out ?_; simp only [Act.put, zp1, zp2, zp3]
 refine reg_skip 9 (some 48) rfl rfl (by kernel_rfl) (by kernel_rfl) (by kernel_rfl) (by rfl) HS0.out ?_; simp only [Act.put, zp1, zp2, zp3]
 refine reg_skip 10 (some 49) rfl rfl (by kernel_rfl) (by kernel_rfl) (by kernel_rfl) (by rfl) HS0.out ?_; simp only [Act.put, zp1, zp2, zp3]
 refine reg_tk (v := .bool true) 11 50 rfl rfl (by kernel_rfl) (by rfl) HS0.out (fun w hw => by go_simp) ?_; simp only [Act.put, zp1, zp2, zp3]
 refine reg_tk (v := .bool true) 12 51 rfl rfl (by kernel_rfl) (by rfl) HS0.out (fun w hw => by go_simp) ?_; simp only [Act.put, zp1, zp2, zp3]
 refine reg_skip 13 (some 52) rfl rfl (by kernel_rfl) (by kernel_rfl) (by kernel_rfl) (by rfl) HS0.out ?_; simp only [Act.put, zp1, zp2, zp3]
 refine reg_skip 14 (some 53) rfl rfl (by kernel_rfl) (by kernel_rfl) (by kernel_rfl) (by rfl) HS0.out ?_; simp only [Act.put, zp1, zp2, zp3]
 refine reg_skip 15 (some 54) rfl rfl (by kernel_rfl) (by kernel_rfl) (by kernel_rfl) (by rfl) HS0.out ?_; simp only [Act.put, zp1, zp2, zp3]
 refine reg_skip 16 (some 55) rfl rfl (by kernel_rfl) (by kernel_rfl) (by kernel_rfl) (by rfl) HS0.out ?_; simp only [Act.put, zp1, zp2, zp3]
 refine reg_skip 17 (some 56) rfl rfl (by kernel_rfl) (by kernel_rfl) (by kernel_rfl) (by rfl) HS0.out ?_; simp only [Act.put, zp1, zp2, zp3]
 refine reg_tk (v := .bool true) 18 57 rfl rfl (by kernel_rfl) (by rfl) HS0.out (fun w hw => by go_simp) ?_; simp only [Act.put, zp1, zp2, zp3]
 refine reg_end (by kernel_rfl) ?_
 go_wp2
 go_ret2
 exact ⟨rfl, HS0.out.1⟩
theorem open_hit3 (p bn bs : Nat) (cs : List Thing) (K : Option Addr) (nk ck : Nat) (key : List UInt8) (N : Option Addr) (nn cn : Nat) (nonce : List UInt8) (T : Option Addr) (nt ct' : Nat) (text : List UInt8) (B : Option Addr) (m d : Nat) (ps : List Pc) (w0 : World)
    (hw : Cx w0 p bn bs cs (fun _ => True)) (hk : Arg w0 (Cf p bn bs) K nk ck key) (hn : Arg w0 (Cf p bn bs) N nn cn nonce) (ht : Arg w0 (Cf p bn bs) T nt ct' text) (hp : Args w0 (Cf p bn bs) B m ps) (lt : text.length ≤ 1048592) (lp : (catP ps).length ≤ 1048576) (hl : cs.length ≤ 100000)
    (i : Nat) (t : Thing) (hit : cs[i]? = some t) (hkd : t.kind = 83) (hnum : numOf text = (i : Int) + 1) (he : text = tok 83 (i + 1) (t.d.length + 16)) (ha : t.a = key) (hb : t.b ≠ nonce) :
    Calls Tryz.prog 155 #[.pointer (some ⟨p, 0, none⟩), .slice K nk ck, .slice N nn cn, .slice T nt ct', .slice B m d] w0 fun e w' => e = .returned (.tuple #[.slice none 0 0, .int .i64 9]) ∧ Kp nob w0 w' := by
 have HIT := Lib.hid hit; have HKD := Lib.hid hkd; have HNUM := Lib.hid hnum
 have hib : i < cs.length := (List.getElem?_eq_some_iff.1 hit).1
 have hd : t.d.length ≤ 1048576 := hw.sm t (List.mem_of_getElem? hit) hkd
 have hib2 : i ≤ 100000 := by omega
 clear hit hkd hnum hib
 have HE := Lib.hid he; clear he
 have HHA := Lib.hid ha; clear ha
 have HHB := Lib.hid hb; clear hb
 have HW := Lib.hid hw
 have HK := Lib.hid hk; have HN := Lib.hid hn; have HT := Lib.hid ht; have HP := Lib.hid hp
 have HLT := Lib.hid lt; have HLP := Lib.hid lp; have HL := Lib.hid hl
 have hz : ∀ w, (zeroValue 242).run Tryz.prog w = .ok (.agg (tc ⟨0, [], [], [], []⟩).toArray) w := fun w => by kernel_rfl
 have HZ := Lib.hid hz
 clear hw hk hn ht hp lt lp hl
 go_enter Tryz.func155, Tryz.ntmps155
 go_wp2_with fail
 refine (rRead2 T nt ct' text _ HT.out.len (by have := HT.out.len; have := HLT.out; omega) HT.out.nil HT.out.row).mono ?_
 rintro e w1 ⟨rb, A1, rfl, hr, k1, hf1, hlt1⟩
 have HK1 := Lib.hid k1
 have HF1 := Lib.hid (hf1 rb (.inl rfl))
 have HR := Lib.hid hr
 clear hr k1 hf1 hlt1 hz
 go_wp2_with fail
 refine (rNum rb A1 (text, false) _ HR.out).mono ?_
 rintro e w2 ⟨rfl, A2, _, k2, _⟩
 have HK2 := Lib.hid (HK1.out.since k2 (fun i e => by have e : i = rb := e; have := HF1.out; omega))
 have HW2 := Lib.hid (HW.out.keep0 HK2.out)
 rw [show (sNum (text, false)).1 = ((i : Int) + 1) from HNUM.out]
 clear k2
 have hc2 : w2.cell? ⟨p, 1, none⟩ = some (.map (some bs)) := by rw [HW2.out.b.cell]; rfl
 obtain ⟨ps', m1, m2⟩ := HW2.out.s
 have HLK := Lib.hid (m1.look_has (t := 119) int_keys m2.keys smap_under ((i : Int) + 1) (cv t) (m2.has i t HIT.out HKD.out trivial) (fun u hu => m2.one i t HIT.out u hu))
 clear m1 m2
 have hsl : ∀ w, Calls Tryz.prog 159 #[.agg (tc t).toArray, .int .i64 ((i : Int) + 1)] w fun e w' => ∃ A c, e = .returned (.slice A (t.d.length + 16) c) ∧ Kit.Own 5 w' A (t.d.length + 16) c (bvs (tok t.kind (i + 1) (t.d.length + 16))) ∧ Kp nob w w' ∧ Fresh w.heap.size A ∧ (A = none → c = 0) := fun w => by
  have := sealed_any t (i + 1) w (by omega) hd
  rwa [show ((i + 1 : Nat) : Int) = (i : Int) + 1 from rfl] at this
 have HSL := Lib.hid hsl
 clear hsl
 go_wp2_with (first
  | (refine wpList_look_eq rfl (.tmp 24) (.tmp 25) 119 true rfl _ HLK.out ?_)
  | (refine wpList_store_new rfl 242 (.tmp 13) (.tmp 27) rfl _ (tc t) rfl rfl rfl (by kernel_rfl) (tc_one _) ?_; intro w3 hB3 k3 z3; have HK3 := Lib.hid (HK2.out.trans k3 (fun _ e => e.elim)); have HB3 := Lib.hid hB3; clear hB3 k3 z3)
  | (refine wpList_load_gd 242 (.tmp 13) rfl (by rfl) _ _ (tc t) HB3.out rfl _ cthing_under rfl (by kernel_rfl) ?_)
  | fail)
 refine (HSL.out _).mono ?_
 rintro e w4 ⟨X, cX, rfl, ho4, k4, _, _⟩
 have HK4 := Lib.hid (HK3.out.trans k4 (fun _ e => e.elim))
 have HB4 := Lib.hid (HB3.out.keep k4 (fun e => e))
 have HRX := Lib.hid ho4.row
 clear ho4 k4
 go_wp2_with fail
 refine (equal_any T X nt ct' (t.d.length + 16) cX text (tok t.kind (i + 1) (t.d.length + 16)) _ HT.out.len (tok_length _ _ _ (by omega)) (HT.out.keep0 HK4.out).row HRX.out).mono ?_
 rintro e w5 ⟨rfl, rfl⟩
 rw [HKD.out, show decide (text = tok 83 (i + 1) (t.d.length + 16)) = true from decide_eq_true HE.out]
 obtain ⟨q, hq⟩ : ∃ q, q = w2.heap.size := ⟨_, rfl⟩
 rw [← hq] at HB4 HB3 ⊢
 have HQ := Lib.hid hq
 clear hq HB3
 go_wp2
 have HS0 : Hid (Kp nob w0 w4.drew ∧ Blk w4.drew q 242 (tc t)) := Lib.hid ⟨HK4.out.drew, HB4.out⟩
 refine reg_begin (fun w' : World => Kp nob w0 w' ∧ Blk w' q 242 (tc t)) (by kernel_rfl) HS0.out (fun _ => ?_)
 refine reg_tk (v := .pointer (some ⟨q, 1, none⟩)) 0 39 rfl rfl (by kernel_rfl) (by rfl) HS0.out (fun w hw => by go_simp) ?_; simp only [Act.put, zp1, zp2, zp3]
 refine reg_tk (v := .string (str t.a)) 1 40 rfl rfl (by kernel_rfl) (by rfl) HS0.out (fun w hw => by have hc : w.cell? ⟨q, 1, none⟩ = some (.string (str t.a)) := (hw.2.cell 1).trans rfl; go_simp) ?_; simp only [Act.put, zp1, zp2, zp3]
 refine reg_tk (v := .slice K nk ck) 2 41 rfl rfl (by kernel_rfl) (by rfl) HS0.out (fun w hw => by go_simp) ?_; simp only [Act.put, zp1, zp2, zp3]
 refine reg_bytesStr 3 (some 42) 58 9 5 (.tmp 41) rfl rfl rfl (by kernel_rfl) (by kernel_rfl) (by kernel_rfl) (by rfl) HS0.out u8i_under (by kernel_rfl) (by kernel_rfl) K nk ck key HK.out.len rfl (fun _ x => (HK.out.keep0 x.1).row) ?_; simp only [Act.put, zp1, zp2, zp3]
 refine reg_tk (v := .bool false) 4 43 rfl rfl (by kernel_rfl) (by rfl) HS0.out (fun w hw => by exact (exec_neq 40 42 _ t.a key rfl rfl rfl).trans (by rw [show (!decide (t.a = key)) = false from by simp [HHA.out]])) ?_; simp only [Act.put, zp1, zp2, zp3]
 refine reg_tk (v := .bool false) 5 44 rfl rfl (by kernel_rfl) (by rfl) HS0.out (fun w hw => by go_simp) ?_; simp only [Act.put, zp1, zp2, zp3]
 refine reg_tk (v := .pointer (some ⟨q, 2, none⟩)) 6 45 rfl rfl (by kernel_rfl) (by rfl) HS0.out (fun w hw => by go_simp) ?_; simp only [Act.put, zp1, zp2, zp3]
 refine reg_tk (v := .string (str t.b)) 7 46 rfl rfl (by kernel_rfl) (by rfl) HS0.out (fun w hw => by have hc : w.cell? ⟨q, 2, none⟩ = some (.string (str t.b)) := (hw.2.cell 2).trans rfl; go_simp) ?_; simp only [Act.put, zp1, zp2, zp3]
 refine reg_tk (v := .slice N nn cn) 8 47 rfl rfl (by kernel_rfl) (by rfl) HS0.out (fun w hw => by go_simp) ?_; simp only [Act.put, zp1, zp2, zp3]
 refine reg_bytesStr 9 (some 48) 58 9 5 (.tmp 47) rfl rfl rfl (by kernel_rfl) (by kernel_rfl) (by kernel_rfl) (by rfl) HS0.out u8i_under (by kernel_rfl) (by kernel_rfl) N nn cn nonce HN.out.len rfl (fun _ x => (HN.out.keep0 x.1).row) ?_; simp only [Act.put, zp1, zp2, zp3]
 refine reg_tk (v := .bool true) 10 49 rfl rfl (by kernel_rfl) (by rfl) HS0.out (fun w hw => by exact (exec_neq 46 48 _ t.b nonce rfl rfl rfl).trans (by rw [show (!decide (t.b = nonce)) = true from by simp [HHB.out]])) ?_; simp only [Act.put, zp1, zp2, zp3]
 refine reg_tk (v := .bool true) 11 50 rfl rfl (by kernel_rfl) (by rfl) HS0.out (fun w hw => by go_simp) ?_; simp only [Act.put, zp1, zp2, zp3]
 refine reg_tk (v := .bool true) 12 51 rfl rfl (by kernel_rfl) (by rfl) HS0.out (fun w hw => by go_simp) ?_; simp only [Act.put, zp1, zp2, zp3]
 refine reg_skip 13 (some 52) rfl rfl (by kernel_rfl) (by kernel_rfl) (by kernel_rfl) (by rfl) HS0.out ?_; simp only [Act.put, zp1, zp2, zp3]
 refine reg_skip 14 (some 53) rfl rfl (by kernel_rfl) (by kernel_rfl) (by kernel_rfl) (by rfl) HS0.out ?_; simp only [Act.put, zp1, zp2, zp3]
 refine reg_skip 15 (some 54) rfl rfl (by kernel_rfl) (by kernel_rfl) (by kernel_rfl) (by rfl) HS0.out ?_; simp only [Act.put, zp1, zp2, zp3]
 refine reg_skip 16 (some 55) rfl rfl (by kernel_rfl) (by kernel_rfl) (by kernel_rfl) (by rfl) HS0.out ?_; simp only [Act.put, zp1, zp2, zp3]
 refine reg_skip 17 (some 56) rfl rfl (by kernel_rfl) (by kernel_rfl) (by kernel_rfl) (by rfl) HS0.out ?_; simp only [Act.put, zp1, zp2, zp3]
 refine reg_tk (v := .bool true) 18 57 rfl rfl (by kernel_rfl) (by rfl) HS0.out (fun w hw => by go_simp) ?_; simp only [Act.put, zp1, zp2, zp3]
 refine reg_end (by kernel_rfl) ?_
 go_wp2
 go_ret2
 exact ⟨rfl, HS0.out.1⟩
theorem open_hit4 (p bn bs : Nat) (cs : List Thing) (K : Option Addr) (nk ck : Nat) (key : List UInt8) (N : Option Addr) (nn cn : Nat) (nonce : List UInt8) (T : Option Addr) (nt ct' : Nat) (text : List UInt8) (B : Option Addr) (m d : Nat) (ps : List Pc) (w0 : World)
    (hw : Cx w0 p bn bs cs (fun _ => True)) (hk : Arg w0 (Cf p bn bs) K nk ck key) (hn : Arg w0 (Cf p bn bs) N nn cn nonce) (ht : Arg w0 (Cf p bn bs) T nt ct' text) (hp : Args w0 (Cf p bn bs) B m ps) (lt : text.length ≤ 1048592) (lp : (catP ps).length ≤ 1048576) (hl : cs.length ≤ 100000)
    (i : Nat) (t : Thing) (hit : cs[i]? = some t) (hkd : t.kind = 83) (hnum : numOf text = (i : Int) + 1) (he : text = tok 83 (i + 1) (t.d.length + 16)) (ha : t.a = key) (hb : t.b = nonce) (hc : t.c ≠ catP ps) :
    Calls Tryz.prog 155 #[.pointer (some ⟨p, 0, none⟩), .slice K nk ck, .slice N nn cn, .slice T nt ct', .slice B m d] w0 fun e w' => e = .returned (.tuple #[.slice none 0 0, .int .i64 9]) ∧ Kp nob w0 w' := by
 have HIT := Lib.hid hit; have HKD := Lib.hid hkd; have HNUM := Lib.hid hnum
 have hib : i < cs.length := (List.getElem?_eq_some_iff.1 hit).1
 have hd : t.d.length ≤ 1048576 := hw.sm t (List.mem_of_getElem? hit) hkd
 have hib2 : i ≤ 100000 := by omega
 clear hit hkd hnum hib
 have HE := Lib.hid he; clear he
 have HHA := Lib.hid ha; clear ha
 have HHB := Lib.hid hb; clear hb
 have HHC := Lib.hid hc; clear hc
 have HW := Lib.hid hw
 have HK := Lib.hid hk; have HN := Lib.hid hn; have HT := Lib.hid ht; have HP := Lib.hid hp
 have HLT := Lib.hid lt; have HLP := Lib.hid lp; have HL := Lib.hid hl
 have hz : ∀ w, (zeroValue 242).run Tryz.prog w = .ok (.agg (tc ⟨0, [], [], [], []⟩).toArray) w := fun w => by kernel_rfl
 have HZ := Lib.hid hz
 clear hw hk hn ht hp lt lp hl
 go_enter Tryz.func155, Tryz.ntmps155
 go_wp2_with fail
 refine (rRead2 T nt ct' text _ HT.out.len (by have := HT.out.len; have := HLT.out; omega) HT.out.nil HT.out.row).mono ?_
 rintro e w1 ⟨rb, A1, rfl, hr, k1, hf1, hlt1⟩
 have HK1 := Lib.hid k1
 have HF1 := Lib.hid (hf1 rb (.inl rfl))
 have HR := Lib.hid hr
 clear hr k1 hf1 hlt1 hz
 go_wp2_with fail
 refine (rNum rb A1 (text, false) _ HR.out).mono ?_
 rintro e w2 ⟨rfl, A2, _, k2, _⟩
 have HK2 := Lib.hid (HK1.out.since k2 (fun i e => by have e : i = rb := e; have := HF1.out; omega))
 have HW2 := Lib.hid (HW.out.keep0 HK2.out)
 rw [show (sNum (text, false)).1 = ((i : Int) + 1) from HNUM.out]
 clear k2
 have hc2 : w2.cell? ⟨p, 1, none⟩ = some (.map (some bs)) := by rw [HW2.out.b.cell]; rfl
 obtain ⟨ps', m1, m2⟩ := HW2.out.s
 have HLK := Lib.hid (m1.look_has (t := 119) int_keys m2.keys smap_under ((i : Int) + 1) (cv t) (m2.has i t HIT.out HKD.out trivial) (fun u hu => m2.one i t HIT.out u hu))
 clear m1 m2
 have hsl : ∀ w, Calls Tryz.prog 159 #[.agg (tc t).toArray, .int .i64 ((i : Int) + 1)] w fun e w' => ∃ A c, e = .returned (.slice A (t.d.length + 16) c) ∧ Kit.Own 5 w' A (t.d.length + 16) c (bvs (tok t.kind (i + 1) (t.d.length + 16))) ∧ Kp nob w w' ∧ Fresh w.heap.size A ∧ (A = none → c = 0) := fun w => by
  have := sealed_any t (i + 1) w (by omega) hd
  rwa [show ((i + 1 : Nat) : Int) = (i : Int) + 1 from rfl] at this
 have HSL := Lib.hid hsl
 clear hsl
 go_wp2_with (first
  | (refine wpList_look_eq rfl (.tmp 24) (.tmp 25) 119 true rfl _ HLK.out ?_)
  | (refine wpList_store_new rfl 242 (.tmp 13) (.tmp 27) rfl _ (tc t) rfl rfl rfl (by kernel_rfl) (tc_one _) ?_; intro w3 hB3 k3 z3; have HK3 := Lib.hid (HK2.out.trans k3 (fun _ e => e.elim)); have HB3 := Lib.hid hB3; clear hB3 k3 z3)
  | (refine wpList_load_gd 242 (.tmp 13) rfl (by rfl) _ _ (tc t) HB3.out rfl _ cthing_under rfl (by kernel_rfl) ?_)
  | fail)
 refine (HSL.out _).mono ?_
 rintro e w4 ⟨X, cX, rfl, ho4, k4, _, _⟩
 have HK4 := Lib.hid (HK3.out.trans k4 (fun _ e => e.elim))
 have HB4 := Lib.hid (HB3.out.keep k4 (fun e => e))
 have HRX := Lib.hid ho4.row
 clear ho4 k4
 go_wp2_with fail
 refine (equal_any T X nt ct' (t.d.length + 16) cX text (tok t.kind (i + 1) (t.d.length + 16)) _ HT.out.len (tok_length _ _ _ (by omega)) (HT.out.keep0 HK4.out).row HRX.out).mono ?_
 rintro e w5 ⟨rfl, rfl⟩
 rw [HKD.out, show decide (text = tok 83 (i + 1) (t.d.length + 16)) = true from decide_eq_true HE.out]
 obtain ⟨q, hq⟩ : ∃ q, q = w2.heap.size := ⟨_, rfl⟩
 rw [← hq] at HB4 HB3 ⊢
 have HQ := Lib.hid hq
 clear hq HB3
 go_wp2
 have HS0 : Hid (Kp nob w0 w4.drew ∧ Blk w4.drew q 242 (tc t)) := Lib.hid ⟨HK4.out.drew, HB4.out⟩
 refine reg_begin (fun w' : World => Kp nob w0 w' ∧ Blk w' q 242 (tc t)) (by kernel_rfl) HS0.out (fun _ => ?_)
 refine reg_tk (v := .pointer (some ⟨q, 1, none⟩)) 0 39 rfl rfl (by kernel_rfl) (by rfl) HS0.out (fun w hw => by go_simp) ?_; simp only [Act.put, zp1, zp2, zp3]
 refine reg_tk (v := .string (str t.a)) 1 40 rfl rfl (by kernel_rfl) (by rfl) HS0.out (fun w hw => by have hc : w.cell? ⟨q, 1, none⟩ = some (.string (str t.a)) := (hw.2.cell 1).trans rfl; go_simp) ?_; simp only [Act.put, zp1, zp2, zp3]
 refine reg_tk (v := .slice K nk ck) 2 41 rfl rfl (by kernel_rfl) (by rfl) HS0.out (fun w hw => by go_simp) ?_; simp only [Act.put, zp1, zp2, zp3]
 refine reg_bytesStr 3 (some 42) 58 9 5 (.tmp 41) rfl rfl rfl (by kernel_rfl) (by kernel_rfl) (by kernel_rfl) (by rfl) HS0.out u8i_under (by kernel_rfl) (by kernel_rfl) K nk ck key HK.out.len rfl (fun _ x => (HK.out.keep0 x.1).row) ?_; simp only [Act.put, zp1, zp2, zp3]
 refine reg_tk (v := .bool false) 4 43 rfl rfl (by kernel_rfl) (by rfl) HS0.out (fun w hw => by exact (exec_neq 40 42 _ t.a key rfl rfl rfl).trans (by rw [show (!decide (t.a = key)) = false from by simp [HHA.out]])) ?_; simp only [Act.put, zp1, zp2, zp3]
 refine reg_tk (v := .bool false) 5 44 rfl rfl (by kernel_rfl) (by rfl) HS0.out (fun w hw => by go_simp) ?_; simp only [Act.put, zp1, zp2, zp3]
 refine reg_tk (v := .pointer (some ⟨q, 2, none⟩)) 6 45 rfl rfl (by kernel_rfl) (by rfl) HS0.out (fun w hw => by go_simp) ?_; simp only [Act.put, zp1, zp2, zp3]
 refine reg_tk (v := .string (str t.b)) 7 46 rfl rfl (by kernel_rfl) (by rfl) HS0.out (fun w hw => by have hc : w.cell? ⟨q, 2, none⟩ = some (.string (str t.b)) := (hw.2.cell 2).trans rfl; go_simp) ?_; simp only [Act.put, zp1, zp2, zp3]
 refine reg_tk (v := .slice N nn cn) 8 47 rfl rfl (by kernel_rfl) (by rfl) HS0.out (fun w hw => by go_simp) ?_; simp only [Act.put, zp1, zp2, zp3]
 refine reg_bytesStr 9 (some 48) 58 9 5 (.tmp 47) rfl rfl rfl (by kernel_rfl) (by kernel_rfl) (by kernel_rfl) (by rfl) HS0.out u8i_under (by kernel_rfl) (by kernel_rfl) N nn cn nonce HN.out.len rfl (fun _ x => (HN.out.keep0 x.1).row) ?_; simp only [Act.put, zp1, zp2, zp3]
 refine reg_tk (v := .bool false) 10 49 rfl rfl (by kernel_rfl) (by rfl) HS0.out (fun w hw => by exact (exec_neq 46 48 _ t.b nonce rfl rfl rfl).trans (by rw [show (!decide (t.b = nonce)) = false from by simp [HHB.out]])) ?_; simp only [Act.put, zp1, zp2, zp3]
 refine reg_tk (v := .bool false) 11 50 rfl rfl (by kernel_rfl) (by rfl) HS0.out (fun w hw => by go_simp) ?_; simp only [Act.put, zp1, zp2, zp3]
 refine reg_tk (v := .bool false) 12 51 rfl rfl (by kernel_rfl) (by rfl) HS0.out (fun w hw => by go_simp) ?_; simp only [Act.put, zp1, zp2, zp3]
 refine reg_tk (v := .pointer (some ⟨q, 3, none⟩)) 13 52 rfl rfl (by kernel_rfl) (by rfl) HS0.out (fun w hw => by go_simp) ?_; simp only [Act.put, zp1, zp2, zp3]
 refine reg_tk (v := .string (str t.c)) 14 53 rfl rfl (by kernel_rfl) (by rfl) HS0.out (fun w hw => by have hc : w.cell? ⟨q, 3, none⟩ = some (.string (str t.c)) := (hw.2.cell 3).trans rfl; go_simp) ?_; simp only [Act.put, zp1, zp2, zp3]
 refine reg_tk (v := .slice B m d) 15 54 rfl rfl (by kernel_rfl) (by rfl) HS0.out (fun w hw => by go_simp) ?_; simp only [Act.put, zp1, zp2, zp3]
 refine reg_call 16 (some 55) rfl rfl (by kernel_rfl) (by rfl) _ _ (exec_func 158 _ _ [.slice B m d] rfl (by kernel_rfl) rfl) ?_
 refine (joined_any B m d ps (Cf p bn bs) _ (HP.out.keep0 HS0.out.1) (by have := HLP.out; omega)).mono ?_
 rintro e w6 ⟨rfl, k6⟩
 have HS1 : Hid (Kp nob w0 w6 ∧ Blk w6 q 242 (tc t)) := Lib.hid ⟨HS0.out.1.trans k6 (fun _ e => e.elim), HS0.out.2.keep k6 (fun e => e)⟩
 clear k6
 refine ⟨_, rfl, HS1.out, fun _ => ?_⟩
 simp only [Act.put, zp1, zp2, zp3]
 refine reg_tk (v := .bool true) 17 56 rfl rfl (by kernel_rfl) (by rfl) HS1.out (fun w hw => by exact (exec_neq 53 55 _ t.c (catP ps) rfl rfl rfl).trans (by rw [show (!decide (t.c = catP ps)) = true from by simp [HHC.out]])) ?_; simp only [Act.put, zp1, zp2, zp3]
 refine reg_tk (v := .bool true) 18 57 rfl rfl (by kernel_rfl) (by rfl) HS1.out (fun w hw => by go_simp) ?_; simp only [Act.put, zp1, zp2, zp3]
 refine reg_end (by kernel_rfl) ?_
 go_wp2
 go_ret2
 exact ⟨rfl, HS1.out.1⟩
theorem open_hit5 (p bn bs : Nat) (cs : List Thing) (K : Option Addr) (nk ck : Nat) (key : List UInt8) (N : Option Addr) (nn cn : Nat) (nonce : List UInt8) (T : Option Addr) (nt ct' : Nat) (text : List UInt8) (B : Option Addr) (m d : Nat) (ps : List Pc) (w0 : World)
    (hw : Cx w0 p bn bs cs (fun _ => True)) (hk : Arg w0 (Cf p bn bs) K nk ck key) (hn : Arg w0 (Cf p bn bs) N nn cn nonce) (ht : Arg w0 (Cf p bn bs) T nt ct' text) (hp : Args w0 (Cf p bn bs) B m ps) (lt : text.length ≤ 1048592) (lp : (catP ps).length ≤ 1048576) (hl : cs.length ≤ 100000)
    (i : Nat) (t : Thing) (hit : cs[i]? = some t) (hkd : t.kind = 83) (hnum : numOf text = (i : Int) + 1) (he : text = tok 83 (i + 1) (t.d.length + 16)) (ha : t.a = key) (hb : t.b = nonce) (hc : t.c = catP ps) :
    Calls Tryz.prog 155 #[.pointer (some ⟨p, 0, none⟩), .slice K nk ck, .slice N nn cn, .slice T nt ct', .slice B m d] w0 fun e w' => ∃ X cX, e = .returned (.tuple #[.slice X t.d.length cX, .int .i64 0]) ∧ Kp nob w0 w' ∧ Row w' X (bvs t.d) ∧ ∀ k, ab X = some k → w0.heap.size ≤ k := by
 have HIT := Lib.hid hit; have HKD := Lib.hid hkd; have HNUM := Lib.hid hnum
 have hib : i < cs.length := (List.getElem?_eq_some_iff.1 hit).1
 have hd : t.d.length ≤ 1048576 := hw.sm t (List.mem_of_getElem? hit) hkd
 have hib2 : i ≤ 100000 := by omega
 clear hit hkd hnum hib
 have HE := Lib.hid he; clear he
 have HHA := Lib.hid ha; clear ha
 have HHB := Lib.hid hb; clear hb
 have HHC := Lib.hid hc; clear hc
 have HW := Lib.hid hw
 have HK := Lib.hid hk; have HN := Lib.hid hn; have HT := Lib.hid ht; have HP := Lib.hid hp
 have HLT := Lib.hid lt; have HLP := Lib.hid lp; have HL := Lib.hid hl
 have hz : ∀ w, (zeroValue 242).run Tryz.prog w = .ok (.agg (tc ⟨0, [], [], [], []⟩).toArray) w := fun w => by kernel_rfl
 have HZ := Lib.hid hz
 clear hw hk hn ht hp lt lp hl
 go_enter Tryz.func155, Tryz.ntmps155
 go_wp2_with fail
 refine (rRead2 T nt ct' text _ HT.out.len (by have := HT.out.len; have := HLT.out; omega) HT.out.nil HT.out.row).mono ?_
 rintro e w1 ⟨rb, A1, rfl, hr, k1, hf1, hlt1⟩
 have HK1 := Lib.hid k1
 have HF1 := Lib.hid (hf1 rb (.inl rfl))
 have HR := Lib.hid hr
 clear hr k1 hf1 hlt1 hz
 go_wp2_with fail
 refine (rNum rb A1 (text, false) _ HR.out).mono ?_
 rintro e w2 ⟨rfl, A2, _, k2, _⟩
 have HK2 := Lib.hid (HK1.out.since k2 (fun i e => by have e : i = rb := e; have := HF1.out; omega))
 have HW2 := Lib.hid (HW.out.keep0 HK2.out)
 rw [show (sNum (text, false)).1 = ((i : Int) + 1) from HNUM.out]
 clear k2
 have hc2 : w2.cell? ⟨p, 1, none⟩ = some (.map (some bs)) := by rw [HW2.out.b.cell]; rfl
 obtain ⟨ps', m1, m2⟩ := HW2.out.s
 have HLK := Lib.hid (m1.look_has (t := 119) int_keys m2.keys smap_under ((i : Int) + 1) (cv t) (m2.has i t HIT.out HKD.out trivial) (fun u hu => m2.one i t HIT.out u hu))
 clear m1 m2
 have hsl : ∀ w, Calls Tryz.prog 159 #[.agg (tc t).toArray, .int .i64 ((i : Int) + 1)] w fun e w' => ∃ A c, e = .returned (.slice A (t.d.length + 16) c) ∧ Kit.Own 5 w' A (t.d.length + 16) c (bvs (tok t.kind (i + 1) (t.d.length + 16))) ∧ Kp nob w w' ∧ Fresh w.heap.size A ∧ (A = none → c = 0) := fun w => by
  have := sealed_any t (i + 1) w (by omega) hd
  rwa [show ((i + 1 : Nat) : Int) = (i : Int) + 1 from rfl] at this
 have HSL := Lib.hid hsl
 clear hsl
 go_wp2_with (first
  | (refine wpList_look_eq rfl (.tmp 24) (.tmp 25) 119 true rfl _ HLK.out ?_)
  | (refine wpList_store_new rfl 242 (.tmp 13) (.tmp 27) rfl _ (tc t) rfl rfl rfl (by kernel_rfl) (tc_one _) ?_; intro w3 hB3 k3 z3; have HK3 := Lib.hid (HK2.out.trans k3 (fun _ e => e.elim)); have HB3 := Lib.hid hB3; clear hB3 k3 z3)
  | (refine wpList_load_gd 242 (.tmp 13) rfl (by rfl) _ _ (tc t) HB3.out rfl _ cthing_under rfl (by kernel_rfl) ?_)
  | fail)
 refine (HSL.out _).mono ?_
 rintro e w4 ⟨X, cX, rfl, ho4, k4, _, _⟩
 have HK4 := Lib.hid (HK3.out.trans k4 (fun _ e => e.elim))
 have HB4 := Lib.hid (HB3.out.keep k4 (fun e => e))
 have HRX := Lib.hid ho4.row
 clear ho4 k4
 go_wp2_with fail
 refine (equal_any T X nt ct' (t.d.length + 16) cX text (tok t.kind (i + 1) (t.d.length + 16)) _ HT.out.len (tok_length _ _ _ (by omega)) (HT.out.keep0 HK4.out).row HRX.out).mono ?_
 rintro e w5 ⟨rfl, rfl⟩
 rw [HKD.out, show decide (text = tok 83 (i + 1) (t.d.length + 16)) = true from decide_eq_true HE.out]
 obtain ⟨q, hq⟩ : ∃ q, q = w2.heap.size := ⟨_, rfl⟩
 rw [← hq] at HB4 HB3 ⊢
 have HQ := Lib.hid hq
 clear hq HB3
 go_wp2
 have HS0 : Hid (Kp nob w0 w4.drew ∧ Blk w4.drew q 242 (tc t)) := Lib.hid ⟨HK4.out.drew, HB4.out⟩
 refine reg_begin (fun w' : World => Kp nob w0 w' ∧ Blk w' q 242 (tc t)) (by kernel_rfl) HS0.out (fun _ => ?_)
 refine reg_tk (v := .pointer (some ⟨q, 1, none⟩)) 0 39 rfl rfl (by kernel_rfl) (by rfl) HS0.out (fun w hw => by go_simp) ?_; simp only [Act.put, zp1, zp2, zp3]
 refine reg_tk (v := .string (str t.a)) 1 40 rfl rfl (by kernel_rfl) (by rfl) HS0.out (fun w hw => by have hc : w.cell? ⟨q, 1, none⟩ = some (.string (str t.a)) := (hw.2.cell 1).trans rfl; go_simp) ?_; simp only [Act.put, zp1, zp2, zp3]
 refine reg_tk (v := .slice K nk ck) 2 41 rfl rfl (by kernel_rfl) (by rfl) HS0.out (fun w hw => by go_simp) ?_; simp only [Act.put, zp1, zp2, zp3]
 refine reg_bytesStr 3 (some 42) 58 9 5 (.tmp 41) rfl rfl rfl (by kernel_rfl) (by kernel_rfl) (by kernel_rfl) (by rfl) HS0.out u8i_under (by kernel_rfl) (by kernel_rfl) K nk ck key HK.out.len rfl (fun _ x => (HK.out.keep0 x.1).row) ?_; simp only [Act.put, zp1, zp2, zp3]
 refine reg_tk (v := .bool false) 4 43 rfl rfl (by kernel_rfl) (by rfl) HS0.out (fun w hw => by exact (exec_neq 40 42 _ t.a key rfl rfl rfl).trans (by rw [show (!decide (t.a = key)) = false from by simp [HHA.out]])) ?_; simp only [Act.put, zp1, zp2, zp3]
 refine reg_tk (v := .bool false) 5 44 rfl rfl (by kernel_rfl) (by rfl) HS0.out (fun w hw => by go_simp) ?_; simp only [Act.put, zp1, zp2, zp3]
 refine reg_tk (v := .pointer (some ⟨q, 2, none⟩)) 6 45 rfl rfl (by kernel_rfl) (by rfl) HS0.out (fun w hw => by go_simp) ?_; simp only [Act.put, zp1, zp2, zp3]
 refine reg_tk (v := .string (str t.b)) 7 46 rfl rfl (by kernel_rfl) (by rfl) HS0.out (fun w hw => by have hc : w.cell? ⟨q, 2, none⟩ = some (.string (str t.b)) := (hw.2.cell 2).trans rfl; go_simp) ?_; simp only [Act.put, zp1, zp2, zp3]
 refine reg_tk (v := .slice N nn cn) 8 47 rfl rfl (by kernel_rfl) (by rfl) HS0.out (fun w hw => by go_simp) ?_; simp only [Act.put, zp1, zp2, zp3]
 refine reg_bytesStr 9 (some 48) 58 9 5 (.tmp 47) rfl rfl rfl (by kernel_rfl) (by kernel_rfl) (by kernel_rfl) (by rfl) HS0.out u8i_under (by kernel_rfl) (by kernel_rfl) N nn cn nonce HN.out.len rfl (fun _ x => (HN.out.keep0 x.1).row) ?_; simp only [Act.put, zp1, zp2, zp3]
 refine reg_tk (v := .bool false) 10 49 rfl rfl (by kernel_rfl) (by rfl) HS0.out (fun w hw => by exact (exec_neq 46 48 _ t.b nonce rfl rfl rfl).trans (by rw [show (!decide (t.b = nonce)) = false from by simp [HHB.out]])) ?_; simp only [Act.put, zp1, zp2, zp3]
 refine reg_tk (v := .bool false) 11 50 rfl rfl (by kernel_rfl) (by rfl) HS0.out (fun w hw => by go_simp) ?_; simp only [Act.put, zp1, zp2, zp3]
 refine reg_tk (v := .bool false) 12 51 rfl rfl (by kernel_rfl) (by rfl) HS0.out (fun w hw => by go_simp) ?_; simp only [Act.put, zp1, zp2, zp3]
 refine reg_tk (v := .pointer (some ⟨q, 3, none⟩)) 13 52 rfl rfl (by kernel_rfl) (by rfl) HS0.out (fun w hw => by go_simp) ?_; simp only [Act.put, zp1, zp2, zp3]
 refine reg_tk (v := .string (str t.c)) 14 53 rfl rfl (by kernel_rfl) (by rfl) HS0.out (fun w hw => by have hc : w.cell? ⟨q, 3, none⟩ = some (.string (str t.c)) := (hw.2.cell 3).trans rfl; go_simp) ?_; simp only [Act.put, zp1, zp2, zp3]
 refine reg_tk (v := .slice B m d) 15 54 rfl rfl (by kernel_rfl) (by rfl) HS0.out (fun w hw => by go_simp) ?_; simp only [Act.put, zp1, zp2, zp3]
 refine reg_call 16 (some 55) rfl rfl (by kernel_rfl) (by rfl) _ _ (exec_func 158 _ _ [.slice B m d] rfl (by kernel_rfl) rfl) ?_
 refine (joined_any B m d ps (Cf p bn bs) _ (HP.out.keep0 HS0.out.1) (by have := HLP.out; omega)).mono ?_
 rintro e w6 ⟨rfl, k6⟩
 have HS1 : Hid (Kp nob w0 w6 ∧ Blk w6 q 242 (tc t)) := Lib.hid ⟨HS0.out.1.trans k6 (fun _ e => e.elim), HS0.out.2.keep k6 (fun e => e)⟩
 clear k6
 refine ⟨_, rfl, HS1.out, fun _ => ?_⟩
 simp only [Act.put, zp1, zp2, zp3]
 refine reg_tk (v := .bool false) 17 56 rfl rfl (by kernel_rfl) (by rfl) HS1.out (fun w hw => by exact (exec_neq 53 55 _ t.c (catP ps) rfl rfl rfl).trans (by rw [show (!decide (t.c = catP ps)) = false from by simp [HHC.out]])) ?_; simp only [Act.put, zp1, zp2, zp3]
 refine reg_tk (v := .bool false) 18 57 rfl rfl (by kernel_rfl) (by rfl) HS1.out (fun w hw => by go_simp) ?_; simp only [Act.put, zp1, zp2, zp3]
 refine reg_end (by kernel_rfl) ?_
 have hc6 : w6.cell? ⟨q, 4, none⟩ = some (.string (str t.d)) := (HS1.out.2.cell 4).trans rfl
 go_wp2_with (first
  | (refine wpList_str_argN rfl 9 58 5 (.tmp 59) rfl u8_string u8i_under (by kernel_rfl) t.d t.d.length rfl (by unfold maxLen; omega) rfl ?_; intro c7 w7 k7 z7 hA7; have H7 := Lib.hid (And.intro k7 hA7); clear k7 hA7 z7)
  | fail)
 go_ret2
 exact ⟨_, c7, rfl, HS1.out.1.trans H7.out.1 (fun _ e => e.elim), (H7.out.2 nob (fun _ e => e.elim)).row, fun k e => by cases e; exact HS1.out.1.size⟩
theorem ct_seals {u : Thing} (h : u.kind = 83) : ct u = u := if_pos h
theorem seal_eta {t : Thing} (h : t.kind = 83) : t = sealT t.a t.b t.c t.d := by
 obtain ⟨k, a, b, c, d⟩ := t
 simp only at h
 subst h; rfl
theorem open_if (p : Nat) (F : Nat → Prop) (ts : List Thing) (K : Option Addr) (nk ck : Nat) (key : List UInt8) (N : Option Addr) (nn cn : Nat) (nonce : List UInt8) (T : Option Addr) (nt ct' : Nat) (text : List UInt8) (B : Option Addr) (m d : Nat) (ps : List Pc) (w : World)
    (hw : Iw w p F ts) (hk : Arg w F K nk ck key) (hn : Arg w F N nn cn nonce) (ht : Arg w F T nt ct' text) (hp : Args w F B m ps) (hl : ts.length ≤ 100000) (lk : key.length ≤ 1048576) (ln : nonce.length ≤ 1048576) (lt : text.length ≤ 1048592) (lp : (catP ps).length ≤ 1048576) :
    Calls Tryz.prog 155 #[.pointer (some ⟨p, 0, none⟩), .slice K nk ck, .slice N nn cn, .slice T nt ct', .slice B m d] w fun e w' => ∃ X cX, e = .returned (.tuple #[.slice X ((opn ts key nonce (catP ps) text).getD []).length cX, .int .i64 (if (opn ts key nonce (catP ps) text).isSome then 0 else 9)]) ∧
     Kp nob w w' ∧ Row w' X (bvs ((opn ts key nonce (catP ps) text).getD [])) ∧ ∀ k, ab X = some k → w.heap.size ≤ k := by
 obtain ⟨bn, bs, rfl, hw, hg⟩ := hw
 have hcl : (ts.map ct).length ≤ 100000 := by rw [List.length_map]; exact hl
 have no : opn ts key nonce (catP ps) text = none → ∀ (e : Ending) (w' : World), (e = .returned (.tuple #[.slice none 0 0, .int .i64 9]) ∧ Kp nob w w') → ∃ X cX, e = .returned (.tuple #[.slice X ((opn ts key nonce (catP ps) text).getD []).length cX, .int .i64 (if (opn ts key nonce (catP ps) text).isSome then 0 else 9)]) ∧ Kp nob w w' ∧ Row w' X (bvs ((opn ts key nonce (catP ps) text).getD [])) ∧ ∀ k, ab X = some k → w.heap.size ≤ k := by
  rintro h e w' ⟨rfl, k⟩
  rw [h]
  exact ⟨none, 0, rfl, k, Row.nil _ _, fun k e => by cases e⟩
 by_cases hm : ∃ (i : Nat) (t : Thing), (ts.map ct)[i]? = some t ∧ t.kind = 83 ∧ (i : Int) + 1 = numOf text
 · obtain ⟨i, t, hit, hkd, hnum⟩ := hm
   have hts : ts[i]? = some t := by
    rw [List.getElem?_map] at hit
    cases hx : ts[i]? with
    | none => rw [hx] at hit; cases hit
    | some u =>
      rw [hx] at hit
      have e : ct u = t := Option.some.inj hit
      have hu : u.kind = 83 := by rw [← ct_kind u, e]; exact hkd
      rw [← e, ct_seals hu]
   have hnd : ts.Nodup := (List.pairwise_map.1 hw.nd).imp (fun h e => h (by rw [e]))
   have hnt : num ts t = i + 1 := num_of_at ts t i hnd hts
   have back : ∀ dd, opn ts key nonce (catP ps) text = some dd → t = sealT key nonce (catP ps) dd ∧ text = tok 83 (i + 1) (t.d.length + 16) := by
    intro dd h
    obtain ⟨h1, h2, h3⟩ := opn_num hl h
    have hn0 : num ts (sealT key nonce (catP ps) dd) = i + 1 := by omega
    have h4 := num_at ts _ (show num ts (sealT key nonce (catP ps) dd) ≠ 0 by omega)
    rw [hn0, Nat.add_sub_cancel, hts] at h4
    have e := Option.some.inj h4
    exact ⟨e, by rw [h2, hn0, e]; rfl⟩
   have none_of : (¬ ∃ dd, t = sealT key nonce (catP ps) dd ∧ text = tok 83 (i + 1) (t.d.length + 16)) → opn ts key nonce (catP ps) text = none := by
    intro h
    cases hq : opn ts key nonce (catP ps) text with
    | none => rfl
    | some dd => exact absurd ⟨dd, back dd hq⟩ h
   by_cases he : text = tok 83 (i + 1) (t.d.length + 16)
   · by_cases ha : t.a = key
     · by_cases hb : t.b = nonce
       · by_cases hc : t.c = catP ps
         · have hs : opn ts key nonce (catP ps) text = some t.d := by
             have e := seal_eta hkd
             rw [ha, hb, hc] at e
             refine (opn_iff _ _ _ _ _ _ (by omega)).2 ⟨by rw [← e]; exact List.mem_of_getElem? hts, ?_⟩
             rw [← e, out_old _ _ _ (List.mem_of_getElem? hts), hnt, he, hkd]
           refine (open_hit5 p bn bs _ K nk ck key N nn cn nonce T nt ct' text B m d ps w hw hk hn ht hp lt lp hcl i t hit hkd hnum.symm he ha hb hc).mono ?_
           rintro e w' ⟨X, cX, rfl, k, hr⟩
           rw [hs]
           exact ⟨X, cX, rfl, k, hr⟩
         · exact (open_hit4 p bn bs _ K nk ck key N nn cn nonce T nt ct' text B m d ps w hw hk hn ht hp lt lp hcl i t hit hkd hnum.symm he ha hb hc).mono (no (none_of (fun ⟨dd, e, _⟩ => hc (by rw [e]; rfl))))
       · exact (open_hit3 p bn bs _ K nk ck key N nn cn nonce T nt ct' text B m d ps w hw hk hn ht hp lt lp hcl i t hit hkd hnum.symm he ha hb).mono (no (none_of (fun ⟨dd, e, _⟩ => hb (by rw [e]; rfl))))
     · exact (open_hit2 p bn bs _ K nk ck key N nn cn nonce T nt ct' text B m d ps w hw hk hn ht hp lt lp hcl i t hit hkd hnum.symm he ha).mono (no (none_of (fun ⟨dd, e, _⟩ => ha (by rw [e]; rfl))))
   · exact (open_hit1 p bn bs _ K nk ck key N nn cn nonce T nt ct' text B m d ps w hw hk hn ht hp lt lp hcl i t hit hkd hnum.symm he).mono (no (none_of (fun ⟨dd, _, e⟩ => he e)))
 · refine (open_miss p bn bs _ K nk ck key N nn cn nonce T nt ct' text B m d ps w hw hk hn ht hp lt lp hcl (fun i t h1 h2 e => hm ⟨i, t, h1, h2, e⟩)).mono (no ?_)
   cases hq : opn ts key nonce (catP ps) text with
   | none => rfl
   | some dd =>
     obtain ⟨h1, h2, h3⟩ := opn_num hl hq
     have h0 : num ts (sealT key nonce (catP ps) dd) ≠ 0 := fun e => (num_none _ _).1 e h1
     have h4 := num_at ts _ h0
     exact absurd ⟨num ts (sealT key nonce (catP ps) dd) - 1, sealT key nonce (catP ps) dd, by rw [List.getElem?_map, h4]; rfl, rfl, by rw [h3]; omega⟩ hm
end Ideal
end Go.Proofs.YtigdlnfgdjfdoaaGreat
