/- Lemmas: SegPu RecH SegO SegU SegAny Shp. -/
import Derived.Test.YtiimfhacnfdmhaaGreatZG30
import Derived.ProofKit
import Derived.Below
import Derived.HandedShaped
set_option linter.unusedVariables false
set_option linter.unusedSimpArgs false
namespace Go.Proofs.YtiimfhacnfdmhaaGreat.Seg
open Go Go.RowKit Kit
open Rec (Rec good ftot recB recB_length good_bounds)
open Ideal (Ts Thing sealT derT hashT leafT rootT)
open Vault (nonce pur)
theorem fold_get (ms : List UInt8) (e s : Int) (at' : List UInt8) (n : Nat) : ∀ (rs : List Rec) (q : Ts × List (Int × List UInt8)) (i : Nat), i < q.2.length → (rs.foldl (st1 ms e s at' n) q).2[i]? = q.2[i]?
  | [], q, i, h => rfl
  | r :: rs, q, i, h => by
    rw [List.foldl_cons, fold_get ms e s at' n rs _ i (by simp only [st1, List.length_append]; omega)]
    unfold st1
    exact List.getElem?_append_left h
theorem stA_get (ms : List UInt8) (e s : Int) (at' : List UInt8) (n : Nat) (o : Ts) (rs : List Rec) (k i : Nat) (h : i < (stA ms e s at' n o (rs.take k)).2.length) : (stA ms e s at' n o rs).2[i]? = (stA ms e s at' n o (rs.take k)).2[i]? := by
  have h2 : stA ms e s at' n o rs = (rs.drop k).foldl (st1 ms e s at' n) (stA ms e s at' n o (rs.take k)) := by
    unfold stA; rw [← List.foldl_append, List.take_append_drop]
  rw [h2]; exact fold_get ms e s at' n _ _ i h
theorem stA_known (ms : List UInt8) (e s : Int) (at' : List UInt8) (n : Nat) (o p : Ts) (rs : List Rec) (k : Nat) (hk : k < rs.length) (h : (stA ms e s at' n o rs).1.sub p) :
    p.nx (keyT ms rs[k].queue) = p ∧ p.has (sealT (p.val (keyT ms rs[k].queue) 32) (nonce e (s + (k : Nat))) (besT at' k n) (recB rs[k])) ∧
    (stA ms e s at' n o rs).2[k]? = some (rs[k].queue, p.val (sealT (p.val (keyT ms rs[k].queue) 32) (nonce e (s + (k : Nat))) (besT at' k n) (recB rs[k])) ((recB rs[k]).length + 16)) := by
  have hlen : (stA ms e s at' n o (rs.take k)).2.length = k := by rw [stA_length, List.length_take]; omega
  have hsn := stA_snoc ms e s at' n o rs k hk
  have hsub := (stA_sub ms e s at' n o rs (k + 1)).trans h
  obtain ⟨q, hq⟩ : ∃ q, q = stA ms e s at' n o (rs.take k) := ⟨_, rfl⟩
  rw [← hq] at hsn hlen
  have h1 : (stA ms e s at' n o (rs.take (k + 1))).1 = (q.1.nx (keyT ms rs[k].queue)).nx (stT ms e s at' n q.1 k rs[k]) := by rw [hsn]; unfold st1; rw [hlen]
  have h2 : (stA ms e s at' n o (rs.take (k + 1))).2 = q.2 ++ [(rs[k].queue, (q.1.nx (keyT ms rs[k].queue)).val (stT ms e s at' n q.1 k rs[k]) ((recB rs[k]).length + 16))] := by rw [hsn]; unfold st1; rw [hlen]
  rw [h1] at hsub
  have ha := Ts.again ((Ts.sub_nx _ _).trans hsub : (q.1.nx (keyT ms rs[k].queue)).sub p) 32
  have hb := Ts.again hsub ((recB rs[k]).length + 16)
  have ht : stT ms e s at' n q.1 k rs[k] = sealT (p.val (keyT ms rs[k].queue) 32) (nonce e (s + (k : Nat))) (besT at' k n) (recB rs[k]) := by unfold stT; rw [ha.1]
  refine ⟨ha.2, ?_, ?_⟩
  · rw [← ht]; exact (Ts.has_nx _ _).sub hsub
  · have hl2 : k < (stA ms e s at' n o (rs.take (k + 1))).2.length := by rw [h2, List.length_append, hlen]; simp
    rw [stA_get ms e s at' n o rs (k + 1) k hl2, h2, List.getElem?_append_right (by omega), hlen, Nat.sub_self, ← ht, ← hb.1]
    rfl
theorem lfold_again : ∀ (bs : List (List UInt8)) (a : Ts × List (List UInt8)) (p : Ts) (ls : List (List UInt8)), (bs.foldl lf1 a).1.sub p → a.2 = ls → bs.foldl lf1 (p, ls) = (p, (bs.foldl lf1 a).2)
  | [], a, p, ls, h, h2 => by rw [← h2]; rfl
  | b :: bs, a, p, ls, h, h2 => by
    have hs : (a.1.nx (leafT b)).sub p := (lfold_sub bs (lf1 a b)).trans h
    have ha := Ts.again hs 32
    rw [List.foldl_cons, List.foldl_cons]
    have e1 : lf1 (p, ls) b = (p, ls ++ [a.1.val (leafT b) 32]) := by unfold lf1; rw [ha.2, ha.1]
    rw [e1]
    exact lfold_again bs (lf1 a b) p _ h (by unfold lf1; rw [h2])
theorem rtA_again (o p : Ts) (bs : List (List UInt8)) (h : (rtA o bs).2.sub p) : rtA p bs = ((rtA o bs).1, p) := by
  rw [rtA_eq] at h
  have hs : (lfA o bs).1.sub p := (Ideal.rootT_sub _ _).trans h
  have h1 : lfA p bs = (p, (lfA o bs).2) := by
    unfold lfA at hs ⊢
    exact lfold_again bs (o, []) p [] hs rfl
  rw [rtA_eq, rtA_eq, h1]
  exact Ideal.rootT_again _ _ p h
end Go.Proofs.YtiimfhacnfdmhaaGreat.Seg
namespace Go.Proofs.YtiimfhacnfdmhaaGreat.Rec
open Go Go.RowKit Kit
set_option maxHeartbeats 1000000 in
set_option maxRecDepth 100000 in
theorem get_nil (A : Option Addr) (c : Nat) (w : World) (hA : A = none → c = 0) :
    Calls Tryz.prog 83 #[.slice A 0 c] w fun e w' => e = .returned (.tuple #[rv zr, .int .i64 4]) ∧ Kp nob w w' := by
  obtain ⟨d, hd1, hd2⟩ := rec_undE
  have HB0 := Lib.hid (Blk.new w 34 (rcells zr))
  have HK0 := Lib.hid ((Kp.refl nob w).alloc (.cells (rcells zr).toArray 34))
  go_enter Tryz.func83, Tryz.ntmps83
  go_wp2_with fail
  refine (rRead2 A 0 c [] _ rfl (by omega) hA (Row.nil _ _)).mono ?_
  rintro e w1 ⟨b, A1, rfl, hr, k1, hf, hf2⟩
  have G1 : Hid (Gw w w1.heap.size b A1 ([], false) w1) := Lib.hid ⟨HB0.out.keep k1 (fun e => e), hr, fun k e => ⟨by have := hf k e; simp at this; omega, hf2 k e⟩, HK0.out.trans k1 (fun _ e => e.elim)⟩
  clear HB0 HK0 hr k1 hf hf2
  have htk := rTake b A1 ([], false) 1 w1 G1.out.i (by simp)
  unfold TakePost at htk
  rw [show sTake ([], false) 1 = (([], false), bust) from sTake_no _ _ (.inl (by simp))] at htk
  have HT := Lib.hid htk; clear htk
  go_wp2_with fail
  refine HT.out.mono ?_
  rintro e w2 ⟨A2, c2, rfl, ho, hfr, hp⟩
  obtain ⟨A3, g3⟩ := G1.out.more hp
  have G3 := Lib.hid g3
  clear g3 hp ho hfr HT
  go_wp2_with (first
    | (refine wpList_store_blk rfl 34 (.tmp 2) (.tmp 17) rfl _ _ (rcells zr) (rcells zr) G3.out.z rfl rfl rfl (rec_size _) (rcells_one _) ?_; intro w3 hB3 k3 z3; have HB3 := Lib.hid hB3; have HK3 := Lib.hid (G3.out.k.since k3 (fun i e => Nat.le_of_eq e.symm)); clear hB3 k3 z3))
  exact bodyPost_ret (results_rec rfl _ _ w.heap.size _ (rcells zr) d rfl HB3.out hd1 hd2 (rec_size _) _ rfl) rfl ⟨rfl, HK3.out⟩
set_option maxHeartbeats 4000000 in
set_option maxRecDepth 100000 in
theorem get_cons (A : Option Addr) (n c : Nat) (x : UInt8) (l : List UInt8) (w : World) (hn : (x :: l).length = n) (hl : n ≤ 1048576) (hA : A = none → c = 0) (hr : Row w A (bvs (x :: l))) :
    Calls Tryz.prog 83 #[.slice A n c] w fun e w' => e = .returned (.tuple #[rv (gotR (x :: l)), .int .i64 (gotE (x :: l))]) ∧ Kp nob w w' := by
  obtain ⟨d, hd1, hd2⟩ := rec_undE
  have HB0 := Lib.hid (Blk.new w 34 (rcells zr))
  have HK0 := Lib.hid ((Kp.refl nob w).alloc (.cells (rcells zr).toArray 34))
  have HR := Lib.hid (hr.keep0 HK0.out)
  have HN := Lib.hid hn
  have HL := Lib.hid (show l.length ≤ 1048576 by have := hn; simp at this; omega)
  clear hr hn
  go_enter Tryz.func83, Tryz.ntmps83
  go_wp2_with fail
  refine (rRead2 A n c (x :: l) _ HN.out (by omega) hA HR.out).mono ?_
  rintro e w1 ⟨b, A1, rfl, hr, k1, hf, hf2⟩
  have G1 : Hid (Gw w w1.heap.size b A1 (x :: l, false) w1) := Lib.hid ⟨HB0.out.keep k1 (fun e => e), hr, fun k e => ⟨by have := hf k e; simp at this; omega, hf2 k e⟩, HK0.out.trans k1 (fun _ e => e.elim)⟩
  clear HB0 HK0 HR hr k1 hf hf2
  have htk := rTake b A1 (x :: l, false) 1 w1 G1.out.i (by have := HL.out; simp; omega)
  unfold TakePost at htk
  rw [show sTake (x :: l, false) 1 = (([x], true), (l, false)) from sTake_app [x] l 1 rfl] at htk
  have HT := Lib.hid htk; clear htk
  go_wp2_with fail
  refine HT.out.mono ?_
  rintro e w2 ⟨A2, c2, rfl, ho, hfr, hp⟩
  obtain ⟨b2, hA2, hb2, hcx, _, _⟩ := ho.at_ (i := 0) (by simp)
  subst hA2
  have hb2b : b2 ≠ b := fun e => by have := hfr b2 rfl; have := G1.out.i.lt; omega
  obtain ⟨A3, g3⟩ := G1.out.more hp
  have G3 := Lib.hid g3
  have HC := Lib.hid (show w2.cell? ⟨b2, 0, none⟩ = some (bv x) from hcx)
  have HNE := Lib.hid hb2b
  have HLT := Lib.hid hb2
  have hcap := ho.cap.1
  have HMN := Lib.hid (show w1.heap.size ≤ w2.heap.size from hp.size)
  clear g3 hp ho hfr HT hcx hb2b hb2
  go_wp2
  have hwx : IntKind.i64.wrap (x.toNat : Int) = (x.toNat : Int) := by rw [IntKind.wrap_i64]; have := x.toNat_lt; omega
  have HS0 : Hid ((fun w' : World => w'.cell? ⟨b2, 0, none⟩ = some (bv x)) w2.drew) := Lib.hid HC.out
  have HT0 : Hid (Tg w w1.heap.size b b2 x (l, false) w2.drew.heap.size 0 w2.drew) := Lib.hid ⟨⟨A3, G3.out.keep (Kp.refl nob w2).drew⟩, HC.out, HLT.out, HNE.out, Nat.le_refl _, G3.out.i.lt, HMN.out⟩
  refine reg_begin (fun w' : World => w'.cell? ⟨b2, 0, none⟩ = some (bv x)) (by kernel_rfl) HS0.out (fun _ => ?_)
  generalize w2.drew = wd at *
  obtain ⟨N, hNe⟩ : ∃ N, N = wd.heap.size := ⟨_, rfl⟩
  rw [← hNe] at HT0
  have HNe := Lib.hid hNe
  clear hNe
  refine reg_take (v := .slice (some ⟨b2, 0, none⟩) 1 c2) 0 (some 18) rfl rfl (by kernel_rfl) (by kernel_rfl) (by kernel_rfl) (by rfl) HS0.out (fun w hw => by go_simp) ?_
  simp only [Act.put, List.setIfInBounds_toArray, List.set_cons_zero, List.set_cons_succ]
  refine reg_take (v := .pointer (some ⟨b2, 0, none⟩)) 1 (some 19) rfl rfl (by kernel_rfl) (by kernel_rfl) (by kernel_rfl) (by rfl) HS0.out (fun w hw => by go_simp) ?_
  simp only [Act.put, List.setIfInBounds_toArray, List.set_cons_zero, List.set_cons_succ]
  refine reg_take (v := .int .u8 (x.toNat : Int)) 2 (some 20) rfl rfl (by kernel_rfl) (by kernel_rfl) (by kernel_rfl) (by rfl) HS0.out (fun w hw => by have hc : w.cell? ⟨b2, 0, none⟩ = some (.int .u8 (x.toNat : Int)) := hw; go_simp; rfl) ?_
  simp only [Act.put, List.setIfInBounds_toArray, List.set_cons_zero, List.set_cons_succ]
  refine reg_take (v := .int .i64 (x.toNat : Int)) 3 (some 21) rfl rfl (by kernel_rfl) (by kernel_rfl) (by kernel_rfl) (by rfl) HS0.out (fun w hw => by go_simp) ?_
  simp only [Act.put, List.setIfInBounds_toArray, List.set_cons_zero, List.set_cons_succ]
  refine reg_take (v := .pointer (some ⟨b, 0, none⟩)) 4 (some 22) rfl rfl (by kernel_rfl) (by kernel_rfl) (by kernel_rfl) (by rfl) HS0.out (fun w hw => by go_simp) ?_
  simp only [Act.put, List.setIfInBounds_toArray, List.set_cons_zero, List.set_cons_succ]
  refine reg_take (v := .pointer (some ⟨b, 0, none⟩)) 6 (some 24) rfl rfl (by kernel_rfl) (by kernel_rfl) (by kernel_rfl) (by rfl) HS0.out (fun w hw => by go_simp) ?_
  simp only [Act.put, List.setIfInBounds_toArray, List.set_cons_zero, List.set_cons_succ]
  refine reg_take (v := .pointer (some ⟨b, 0, none⟩)) 8 (some 26) rfl rfl (by kernel_rfl) (by kernel_rfl) (by kernel_rfl) (by rfl) HS0.out (fun w hw => by go_simp) ?_
  simp only [Act.put, List.setIfInBounds_toArray, List.set_cons_zero, List.set_cons_succ]
  refine reg_take (v := .pointer (some ⟨b, 0, none⟩)) 10 (some 28) rfl rfl (by kernel_rfl) (by kernel_rfl) (by kernel_rfl) (by rfl) HS0.out (fun w hw => by go_simp) ?_
  simp only [Act.put, List.setIfInBounds_toArray, List.set_cons_zero, List.set_cons_succ]
  refine reg_take (v := .pointer (some ⟨b, 0, none⟩)) 12 (some 30) rfl rfl (by kernel_rfl) (by kernel_rfl) (by kernel_rfl) (by rfl) HS0.out (fun w hw => by go_simp) ?_
  simp only [Act.put, List.setIfInBounds_toArray, List.set_cons_zero, List.set_cons_succ]
  obtain ⟨S5, hS5⟩ : ∃ S5 : Nat → Value, S5 = fun p => if p < 5 then vv (l, false) p else .agg (rcells (rd x (l, false))).toArray := ⟨_, rfl⟩
  have HS5 := Lib.hid hS5; clear hS5
  refine reg_chain [5, 7, 9, 11, 13, 14] 15 [(5, some 23), (7, some 25), (9, some 27), (11, some 29), (13, some 31), (14, some 32), (15, some 7)] _ _ _ _ 1 17 (Tg w w1.heap.size b b2 x (l, false) N) S5 N (oneF b) 34 (rcells zr) rfl rfl rfl (by kernel_rfl) (by kernel_rfl) (by kernel_rfl) (by kernel_rfl) (by kernel_rfl) rfl (by kernel_rfl)
    (fun p w' h => h.2.1) (fun p w' h => h.2.2.2.2.1) (fun j e => ?hF) (fun p w' o h => h.alloc o) HT0.out ?hcall ?hnew ?hK
  case hF => have e : j = b := e; have := HT0.out.2.2.2.2.2.1; omega
  case hcall =>
    intro p hp o a w' ho e0 ev hT
    match p, hp, ho, ev, hT with
    | 0, _, ho, ev, hT => obtain rfl := oper_is ho rfl; exact .call _ _ (exec_func 84 _ _ [.pointer (some ⟨b, 0, none⟩)] rfl (by kernel_rfl) (by show [a.eval (.tmp 22)] = _; rw [e0 22 (by kernel_rfl)]; rfl)) ((hT.num (by omega)).mono fun e w2 h => ⟨_, h.1, ⟨by rw [HS5.out]; rfl, h.2.1⟩, h.2.2⟩)
    | 1, _, ho, ev, hT => obtain rfl := oper_is ho rfl; exact .call _ _ (exec_func 84 _ _ [.pointer (some ⟨b, 0, none⟩)] rfl (by kernel_rfl) (by show [a.eval (.tmp 24)] = _; rw [e0 24 (by kernel_rfl)]; rfl)) ((hT.num (by omega)).mono fun e w2 h => ⟨_, h.1, ⟨by rw [HS5.out]; rfl, h.2.1⟩, h.2.2⟩)
    | 2, _, ho, ev, hT => obtain rfl := oper_is ho rfl; exact .call _ _ (exec_func 84 _ _ [.pointer (some ⟨b, 0, none⟩)] rfl (by kernel_rfl) (by show [a.eval (.tmp 26)] = _; rw [e0 26 (by kernel_rfl)]; rfl)) ((hT.num (by omega)).mono fun e w2 h => ⟨_, h.1, ⟨by rw [HS5.out]; rfl, h.2.1⟩, h.2.2⟩)
    | 3, _, ho, ev, hT => obtain rfl := oper_is ho rfl; exact .call _ _ (exec_func 84 _ _ [.pointer (some ⟨b, 0, none⟩)] rfl (by kernel_rfl) (by show [a.eval (.tmp 28)] = _; rw [e0 28 (by kernel_rfl)]; rfl)) ((hT.num (by omega)).mono fun e w2 h => ⟨_, h.1, ⟨by rw [HS5.out]; rfl, h.2.1⟩, h.2.2⟩)
    | 4, _, ho, ev, hT => obtain rfl := oper_is ho rfl; exact .call _ _ (exec_func 77 _ _ [.pointer (some ⟨b, 0, none⟩), .int .i64 512] rfl (by kernel_rfl) (by show [a.eval (.tmp 30), a.eval (.const (.int .i64 512))] = _; rw [e0 30 (by kernel_rfl)]; rfl)) (hT.text.mono fun e w2 h => ⟨_, h.1, ⟨by rw [HS5.out]; rfl, h.2.1⟩, h.2.2⟩)
    | 5, _, ho, ev, hT =>
      obtain rfl := oper_is ho rfl
      have v0 := ev 0 (by omega) 23 rfl
      have v1 := ev 1 (by omega) 25 rfl
      have v2 := ev 2 (by omega) 27 rfl
      have v3 := ev 3 (by omega) 29 rfl
      have v4 := ev 4 (by omega) 31 rfl
      have v5 := e0 21 (by kernel_rfl)
      rw [HS5.out] at v0 v1 v2 v3 v4
      exact .val (.agg (rcells (rd x (l, false))).toArray) (exec_made 34 #[(0, .tmp 21), (1, .tmp 23), (2, .tmp 25), (3, .tmp 27), (4, .tmp 29), (5, .tmp 31)] rfl [(0, .int .i64 (x.toNat : Int)), (1, .int .i64 (sNum (st (l, false) 0)).1), (2, .int .i64 (sNum (st (l, false) 1)).1), (3, .int .i64 (sNum (st (l, false) 2)).1), (4, .int .i64 (sNum (st (l, false) 3)).1), (5, .string (str (sText (st (l, false) 4) 512).1))] _ (by show [(0, a.eval (.tmp 21)), (1, a.eval (.tmp 23)), (2, a.eval (.tmp 25)), (3, a.eval (.tmp 27)), (4, a.eval (.tmp 29)), (5, a.eval (.tmp 31))] = _; rw [v5, v0, v1, v2, v3, v4]; rfl) (build_rec _ _ _ _ _ _ _)) ⟨by rw [HS5.out]; rfl, hT.last⟩ (Kp.refl _ _)
  case hnew =>
    intro o a w' ho
    obtain rfl := oper_is ho rfl
    go_simp
    rfl
  case hK =>
    intro vals g w4 hv hq hT hg hB
    have v0 : vals 5 = .int .i64 (sNum (st (l, false) 0)).1 := (hv 0 (by simp)).trans (by rw [HS5.out]; rfl)
    have v1 : vals 7 = .int .i64 (sNum (st (l, false) 1)).1 := (hv 1 (by simp)).trans (by rw [HS5.out]; rfl)
    have v2 : vals 9 = .int .i64 (sNum (st (l, false) 2)).1 := (hv 2 (by simp)).trans (by rw [HS5.out]; rfl)
    have v3 : vals 11 = .int .i64 (sNum (st (l, false) 3)).1 := (hv 3 (by simp)).trans (by rw [HS5.out]; rfl)
    have v4 : vals 13 = .string (str (sText (st (l, false) 4) 512).1) := (hv 4 (by simp)).trans (by rw [HS5.out]; rfl)
    have v5 : vals 14 = .agg (rcells (rd x (l, false))).toArray := (hv 5 (by simp)).trans (by rw [HS5.out]; rfl)
    generalize (sNum (st (l, false) 0)).1 = q0 at v0
    generalize (sNum (st (l, false) 1)).1 = q1 at v1
    generalize (sNum (st (l, false) 2)).1 = q2 at v2
    generalize (sNum (st (l, false) 3)).1 = q3 at v3
    generalize (sText (st (l, false) 4) 512).1 = q4 at v4
    obtain ⟨R, hR⟩ : ∃ R, R = rd x (l, false) := ⟨_, rfl⟩
    rw [← hR] at v5
    simp only [putZ, v0, v1, v2, v3, v4, v5, hq]
    simp only [Act.put, List.setIfInBounds_toArray, List.set_cons_zero, List.set_cons_succ]
    clear v0 v1 v2 v3 v4 v5 hq hv
    have HT5 := Lib.hid hT
    have HB := Lib.hid hB
    have HR := Lib.hid hR
    clear hT hB hR
    refine reg_store 16 none 34 (.tmp 7) (.tmp 32) rfl rfl rfl (by kernel_rfl) (by rfl) g 34 (rcells zr) (rcells R) HB.out rfl rfl rfl (rec_size _) (rcells_one _) ?_
    intro w5 hB5 k5 z5
    have hcell : w5.cell? ⟨b2, 0, none⟩ = some (bv x) := (k5.cell (p := ⟨b2, 0, none⟩) (by show b2 < _; have := HT5.out.2.2.1; have := HT5.out.2.2.2.2.1; omega) (fun e => by have e : b2 = g := e; have := HT5.out.2.2.1; omega)).trans HT5.out.2.1
    refine ⟨hcell, fun _ => ?_⟩
    obtain ⟨A4, hG4⟩ := HT5.out.1
    have hbN := HT5.out.2.2.2.2.2
    have G5 : Hid (Gw w w1.heap.size b A4 (st (l, false) 5) w5) := Lib.hid (hG4.far k5 (fun j e => by
      have e : j = g := e
      refine ⟨fun e2 => ?_, ?_⟩
      · have := (hG4.f j e2).2; omega
      · have := (hG4.f b (.inl rfl)).1; omega))
    have HB5 := Lib.hid hB5
    have hgw : g ≠ w.heap.size := by have := (hG4.f b (.inl rfl)).1; omega
    have HGW := Lib.hid hgw
    clear hG4 hbN hcell hB5 k5 z5 HB HT5 HT0 HS0 G3 hg HC HNE HLT HMN HNe hgw
    simp only [Act.put, List.setIfInBounds_toArray, List.set_cons_zero, List.set_cons_succ]
    refine reg_end (by kernel_rfl) ?_
    have hend := rEnd b A4 (st (l, false) 5) w5 G5.out.i
    have hget := recGet_cons x l
    rw [← HR.out] at hget
    obtain ⟨eb, heb⟩ : ∃ eb, eb = (!(st (l, false) 5).2 && (st (l, false) 5).1.isEmpty) := ⟨_, rfl⟩
    rw [← heb] at hend hget
    have HE := Lib.hid hend
    have HGT := Lib.hid hget
    clear hend hget heb
    have hgo := cGood R w5 (by have := rd_len x (l, false); rw [← HR.out] at this; omega)
    unfold rv at hgo
    have HGO := Lib.hid hgo
    have c0 : w5.cell? ⟨g, 0, none⟩ = some (.int .i64 R.kind) := HB5.out.cell 0
    have c1 : w5.cell? ⟨g, 1, none⟩ = some (.int .i64 R.queue) := HB5.out.cell 1
    have c2' : w5.cell? ⟨g, 2, none⟩ = some (.int .i64 R.id) := HB5.out.cell 2
    have c3 : w5.cell? ⟨g, 3, none⟩ = some (.int .i64 R.num) := HB5.out.cell 3
    have c4 : w5.cell? ⟨g, 4, none⟩ = some (.int .i64 R.wait) := HB5.out.cell 4
    have c5 : w5.cell? ⟨g, 5, none⟩ = some (.string (str R.body)) := HB5.out.cell 5
    clear hgo HR G1 HL HN
    cases eb with
    | false =>
      go_wp2_with (first
        | (go_at_call 79; refine HE.out.mono ?_; rintro e w' ⟨rfl, rfl⟩)
        | (refine wpList_store_blk rfl 34 (.tmp 2) (.tmp 41) rfl _ _ (rcells zr) (rcells zr) G5.out.z rfl rfl rfl (rec_size _) (rcells_one _) ?_; intro w3 hB3 k3 z3; have HB3 := Lib.hid hB3; have HK3 := Lib.hid (G5.out.k.since k3 (fun i e => Nat.le_of_eq e.symm)); clear hB3 k3 z3))
      refine bodyPost_ret (results_rec rfl _ _ w.heap.size _ (rcells zr) d rfl HB3.out hd1 hd2 (rec_size _) _ rfl) rfl ⟨?_, HK3.out⟩
      rw [gotR, gotE, HGT.out, if_neg (by simp)]; rfl
    | true =>
      cases hgd : good R with
      | false =>
        rw [hgd] at HGO
        go_wp2_with (first
          | (go_at_call 79; refine HE.out.mono ?_; rintro e w' ⟨rfl, rfl⟩)
          | (go_at_call 88; refine HGO.out.mono ?_; rintro e w6 ⟨rfl, k6⟩; have HK6 := Lib.hid k6; clear k6)
          | (refine wpList_store_blk rfl 34 (.tmp 2) (.tmp 41) rfl _ _ (rcells zr) (rcells zr) (G5.out.z.keep HK6.out (fun e => e)) rfl rfl rfl (rec_size _) (rcells_one _) ?_; intro w3 hB3 k3 z3; have HB3 := Lib.hid hB3; have HK3 := Lib.hid ((G5.out.k.trans HK6.out (fun _ e => e.elim)).since k3 (fun i e => Nat.le_of_eq e.symm)); clear hB3 k3 z3))
        refine bodyPost_ret (results_rec rfl _ _ w.heap.size _ (rcells zr) d rfl HB3.out hd1 hd2 (rec_size _) _ rfl) rfl ⟨?_, HK3.out⟩
        rw [gotR, gotE, HGT.out, if_neg (by simp [hgd])]; rfl
      | true =>
        rw [hgd] at HGO
        go_wp2_with (first
          | (go_at_call 79; refine HE.out.mono ?_; rintro e w' ⟨rfl, rfl⟩)
          | (go_at_call 88; refine HGO.out.mono ?_; rintro e w6 ⟨rfl, k6⟩; have HK6 := Lib.hid k6; have HB6 := Lib.hid (HB5.out.keep k6 (fun e => e)); clear k6)
          | (refine wpList_load_blk rfl 34 (.tmp 7) rfl g _ (rcells R) HB6.out rfl d hd1 hd2 (rec_size _) ?_)
          | (refine wpList_store_blk rfl 34 (.tmp 2) (.tmp 42) rfl _ _ (rcells zr) (rcells R) (G5.out.z.keep HK6.out (fun e => e)) rfl rfl rfl (rec_size _) (rcells_one _) ?_; intro w3 hB3 k3 z3; have HB3 := Lib.hid hB3; have HK3 := Lib.hid ((G5.out.k.trans HK6.out (fun _ e => e.elim)).since k3 (fun i e => Nat.le_of_eq e.symm)); clear hB3 k3 z3))
        refine bodyPost_ret (results_rec rfl _ _ w.heap.size _ (rcells R) d rfl HB3.out hd1 hd2 (rec_size _) _ rfl) rfl ⟨?_, HK3.out⟩
        rw [gotR, gotE, HGT.out, if_pos (by simp [hgd])]; rfl
theorem get_any (A : Option Addr) (n c : Nat) (l : List UInt8) (w : World) (hn : l.length = n) (hl : n ≤ 1048576) (hA : A = none → c = 0) (hr : Row w A (bvs l)) :
    Calls Tryz.prog 83 #[.slice A n c] w fun e w' => e = .returned (.tuple #[rv (gotR l), .int .i64 (gotE l)]) ∧ Kp nob w w' := by
  cases l with
  | nil =>
    have e : recGet [] = none := by unfold recGet; rfl
    obtain rfl : n = 0 := by simpa using hn.symm
    have h := get_nil A c w hA
    rw [gotR, gotE, e]; exact h
  | cons x l => exact get_cons A n c x l w hn hl hA hr
end Go.Proofs.YtiimfhacnfdmhaaGreat.Rec
namespace Go.Proofs.YtiimfhacnfdmhaaGreat.Seg
open Go Go.RowKit Kit
open Rec (Rec good ftot recB recB_length good_bounds Rrow Sr SrOk rcells rcells_one rv rec_under rec_size rec_info recs_und exec_recOne get_any gotR gotE recGet_recB)
open Ideal (Ts Thing Ans Arg Args sealT derT hashT leafT rootT)
open Vault
structure OL [Inhabited Sha.ShaTab] [Inhabited Field.SqTab] (w : World) (c : Vc) (x : Vt) (at' : List UInt8) (rs : List Rec) (k : Nat) (wr : World) (x2 : Vt) (L : Option Addr) (cl : Nat) : Prop where
  q : Vq w c x wr x2
  o_ : x2.o = x.o
  own : OwnK 6 34 wr L k cl ((rs.take k).flatMap rcells)
  lf : ∀ i, ab L = some i → w.heap.size < i ∧ ¬ x2.P i
  at_ : Blk wr w.heap.size 32 (bvs at')
  af : ¬ x2.P w.heap.size
theorem OL.more [Inhabited Sha.ShaTab] [Inhabited Field.SqTab] {w wr w3 w4 w5 w6 : World} {c : Vc} {x x2 x4 : Vt} {at' : List UInt8} {rs : List Rec} {k : Nat} {L L2 : Option Addr} {cl cl2 : Nat} (h : OL w c x at' rs k wr x2 L cl) (hv : Vx w c x) (hk : k < rs.length)
    (k3 : Kp nob wr w3) (q4 : Vq w3 c x2 w4 x4) (ho4 : x4.o = x.o) (k5 : Kp nob w4 w5) (ho : OwnK 6 34 w6 L2 (k + 1) cl2 ((rs.take k).flatMap rcells ++ rcells rs[k])) (hg : Kp (rowF L) w5 w6) (hz : ab L2 = ab L ∨ ab L2 = some w5.heap.size) :
    OL w c x at' rs (k + 1) w6 x4 L2 cl2 := by
  have s1 := h.q.kp.size
  have s3 := k3.size
  have s4 := q4.kp.size
  have s5 := k5.size
  have hlP : ∀ i, ab L = some i → ¬ x4.P i := fun i e => q4.old (h.lf i e).2 (by have := h.own.lt i e; omega)
  have hal := h.at_.lt
  refine ⟨(((h.q.over0 k3).trans q4).over0 k5).over hg (fun i _ e => ⟨by have := (h.lf i e).1; omega, hlP i e⟩) hv.sz, ho4, ?_, fun i e => ?_, ?_, q4.old h.af (by omega)⟩
  · rw [List.take_add_one, List.getElem?_eq_getElem hk, List.flatMap_append]
    simpa using ho
  · rcases hz with e2 | e2
    · rw [e2] at e; exact ⟨(h.lf i e).1, hlP i e⟩
    · rw [e2] at e; cases e
      exact ⟨by omega, fun e3 => by have := q4.now.lt _ e3; omega⟩
  · exact ((q4.blk (h.at_.keep k3 (fun e => e)) h.af).keep k5 (fun e => e)).keep hg (fun e => Nat.lt_irrefl _ (h.lf _ e).1)
theorem got_yes (r : Rec) (h : good r = true) : gotR (recB r) = r ∧ gotE (recB r) = 0 := by
  unfold gotR gotE; rw [recGet_recB r h]; exact ⟨rfl, rfl⟩
set_option maxHeartbeats 4000000 in
set_option maxRecDepth 100000 in
theorem opened_c [Inhabited Sha.ShaTab] [Inhabited Field.SqTab] (c : Vc) (x : Vt) (o : Ts) (e s : Int) (at' : List UInt8) (rs : List Rec) (A : Option Addr) (m d : Nat) (gs : List Pt) (w : World) (hx : Vx w c x) (h32 : at'.length = 32) (hp : Parts w x.P A gs) (hm : rs.length = m) (hm2 : m ≤ 1000)
    (htw : gs.map Pt.two = (stA c.ms e s at' rs.length o rs).2) (hsub : (stA c.ms e s at' rs.length o rs).1.sub x.o) (hgd : ∀ r ∈ rs, good r = true) (hef : 0 ≤ e ∧ e < 4294967296) (hsf : 0 ≤ s ∧ s + (m : Nat) ≤ c.lim) (hlim : c.lim ≤ 9223372036854775807) (hf : x.o.few 60000) (hlo : x.o.long) :
    Calls Tryz.prog 55 #[.pointer (some ⟨c.v, 0, none⟩), .int .i64 e, .int .i64 s, .agg (bvs at').toArray, .slice A m d] w fun r w' => ∃ (x2 : Vt) (L : Option Addr) (cl : Nat), r = .returned (.tuple #[.slice L m cl, .int .i64 0]) ∧ OL w c x at' rs m w' x2 L cl := by
  have HB := Lib.hid (Blk.new w 32 (bvs at'))
  have HK := Lib.hid ((Kp.refl nob w).alloc (.cells (bvs at').toArray 32))
  have HX := Lib.hid hx
  have H32 := Lib.hid h32
  have HP := Lib.hid hp
  have HM := Lib.hid (And.intro hm hm2)
  have hgl : gs.length = m := by
    have h1 := congrArg List.length htw
    rw [List.length_map, stA_length, hm] at h1; exact h1
  have HGL := Lib.hid hgl
  have HTW := Lib.hid htw
  have HSB := Lib.hid hsub
  have HGD := Lib.hid hgd
  have HES := Lib.hid (And.intro hef (And.intro hsf hlim))
  have HF := Lib.hid (And.intro hf hlo)
  clear hx h32 hp hm hm2 htw hsub hgd hef hsf hlim hf hlo hgl
  go_enter Tryz.func55, Tryz.ntmps55
  go_wp2
  go_loopw [12, 20] (fun ls i wr => ∃ k : Nat, k ≤ m ∧ i = .int .i64 k ∧ ∃ (x2 : Vt) (L : Option Addr) (cl : Nat), ls = .slice L k cl ∧ OL w c x at' rs k wr x2 L cl)
    (fun _ i _ => m - (intOf i).toNat)
  case atStart =>
    refine ⟨0, Nat.zero_le _, rfl, x, none, 0, rfl, (Vq.refl HX.out).over0 HK.out, rfl, ?_, fun i e => (by cases e), HB.out, fun e => (by have := HX.out.lt _ e; omega)⟩
    rw [List.take_zero]; exact OwnK.nil 6 _ _
  case round =>
    obtain ⟨k, hk, rfl, x2, L, cl, rfl, hol⟩ := hrel
    have HOL := Lib.hid hol
    clear hol
    by_cases hlt : k < m
    · have hkr : k < rs.length := by rw [HM.out.1]; exact hlt
      have hkg : k < gs.length := by rw [HGL.out]; exact hlt
      have hpr := Parts.call HOL.out.q HP.out
      obtain ⟨bb, oo, rfl, hbb, hc0, hc1⟩ := hpr.at_ (i := k) hkg
      have harg := hpr.arg gs[k] (List.getElem_mem hkg)
      obtain ⟨kn1, kn2, kn3⟩ := stA_known c.ms e s at' rs.length o x.o rs k hkr HSB.out
      rw [← HTW.out, List.getElem?_map, List.getElem?_eq_getElem hkg] at kn3
      have hgood := HGD.out rs[k] (List.getElem_mem hkr)
      obtain ⟨r, hre⟩ : ∃ r, r = rs[k]'hkr := ⟨_, rfl⟩
      obtain ⟨g, hge⟩ : ∃ g, g = gs[k]'hkg := ⟨_, rfl⟩
      rw [← hre] at kn1 kn2 kn3 hgood
      rw [← hge] at kn3 hc0 hc1 harg
      have hg2 : g.q = r.queue ∧ g.b = x.o.val (sealT (x.o.val (keyT c.ms r.queue) 32) (nonce e (s + (k : Nat))) (besT at' k rs.length) (recB r)) ((recB r).length + 16) := by
        have := Option.some.inj kn3
        exact ⟨congrArg Prod.fst this, congrArg Prod.snd this⟩
      rw [hg2.1] at hc0
      have HKN := Lib.hid (And.intro kn1 (And.intro kn2 hg2.2))
      have HRE := Lib.hid hre
      have HGO := Lib.hid hgood
      have HAR := Lib.hid harg
      have HBA := Lib.hid (Blk.new wr 128 [.int .i64 r.queue, .slice g.X g.b.length g.c])
      have HKA := Lib.hid ((Kp.refl nob wr).alloc (.cells #[.int .i64 r.queue, .slice g.X g.b.length g.c] 128))
      have HAD : Hid (IntKind.i64.wrap (s + (k : Int)) = s + (k : Int)) := Lib.hid (by have := HES.out; rw [IntWalk.i64_in _ (by omega)])
      have HN1 : Hid (¬ x2.P wr.heap.size) := Lib.hid (fun e => by have := HOL.out.q.now.lt _ e; omega)
      have hrf : refu c.lim e (s + (k : Int)) = 0 := by
        have := HES.out
        unfold refu; rw [if_neg (by omega), if_neg (by omega)]
      have HRF := Lib.hid hrf
      clear kn1 kn2 kn3 hg2 hre hge hgood harg hpr hrf
      go_wp2
      have HKd := Lib.hid (HKA.out.drew)
      refine reg_begin (fun w' => Blk w' wr.heap.size 128 [.int .i64 r.queue, .slice g.X g.b.length g.c] ∧ Blk w' w.heap.size 32 (bvs at')) (by kernel_rfl) ⟨HBA.out.keep (Kp.refl nob _).drew (fun e => e), HOL.out.at_.keep HKd.out (fun e => e)⟩ (fun hS0 => ?_)
      refine reg_take (v := .pointer (some ⟨c.v, 0, none⟩)) 0 (some 26) rfl rfl (by kernel_rfl) (by kernel_rfl) (by kernel_rfl) (by rfl) hS0 (fun w' hw => by go_simp) ?_
      simp only [Act.put, List.setIfInBounds_toArray, List.set_cons_zero, List.set_cons_succ]
      refine reg_take (v := .pointer (some ⟨c.v, 0, none⟩)) 1 (some 27) rfl rfl (by kernel_rfl) (by kernel_rfl) (by kernel_rfl) (by rfl) hS0 (fun w' hw => by go_simp) ?_
      simp only [Act.put, List.setIfInBounds_toArray, List.set_cons_zero, List.set_cons_succ]
      refine reg_take (v := .pointer (some ⟨wr.heap.size, 0, none⟩)) 2 (some 28) rfl rfl (by kernel_rfl) (by kernel_rfl) (by kernel_rfl) (by rfl) hS0 (fun w' hw => by go_simp) ?_
      simp only [Act.put, List.setIfInBounds_toArray, List.set_cons_zero, List.set_cons_succ]
      refine reg_take (v := .int .i64 r.queue) 3 (some 29) rfl rfl (by kernel_rfl) (by kernel_rfl) (by kernel_rfl) (by rfl) hS0 (fun w' hw => by have hc : w'.cell? ⟨wr.heap.size, 0, none⟩ = some (.int .i64 r.queue) := hw.1.cell 0; go_simp) ?_
      simp only [Act.put, List.setIfInBounds_toArray, List.set_cons_zero, List.set_cons_succ]
      refine reg_take (v := .int .i64 e) 5 (some 31) rfl rfl (by kernel_rfl) (by kernel_rfl) (by kernel_rfl) (by rfl) hS0 (fun w' hw => by go_simp) ?_
      simp only [Act.put, List.setIfInBounds_toArray, List.set_cons_zero, List.set_cons_succ]
      refine reg_take (v := .int .i64 s) 6 (some 32) rfl rfl (by kernel_rfl) (by kernel_rfl) (by kernel_rfl) (by rfl) hS0 (fun w' hw => by go_simp) ?_
      simp only [Act.put, List.setIfInBounds_toArray, List.set_cons_zero, List.set_cons_succ]
      refine reg_take (v := .int .i64 (k : Nat)) 7 (some 33) rfl rfl (by kernel_rfl) (by kernel_rfl) (by kernel_rfl) (by rfl) hS0 (fun w' hw => by go_simp) ?_
      simp only [Act.put, List.setIfInBounds_toArray, List.set_cons_zero, List.set_cons_succ]
      refine reg_take (v := .int .i64 (s + (k : Nat))) 8 (some 34) rfl rfl (by kernel_rfl) (by kernel_rfl) (by kernel_rfl) (by rfl) hS0 (fun w' hw => by have hc := HAD.out; go_simp) ?_
      simp only [Act.put, List.setIfInBounds_toArray, List.set_cons_zero, List.set_cons_succ]
      refine reg_take (v := .pointer (some ⟨wr.heap.size, 1, none⟩)) 9 (some 35) rfl rfl (by kernel_rfl) (by kernel_rfl) (by kernel_rfl) (by rfl) hS0 (fun w' hw => by go_simp) ?_
      simp only [Act.put, List.setIfInBounds_toArray, List.set_cons_zero, List.set_cons_succ]
      refine reg_take (v := .slice g.X g.b.length g.c) 10 (some 36) rfl rfl (by kernel_rfl) (by kernel_rfl) (by kernel_rfl) (by rfl) hS0 (fun w' hw => by have hc : w'.cell? ⟨wr.heap.size, 1, none⟩ = some (.slice g.X g.b.length g.c) := hw.1.cell 1; go_simp) ?_
      simp only [Act.put, List.setIfInBounds_toArray, List.set_cons_zero, List.set_cons_succ]
      refine reg_load 11 (some 37) 32 (.tmp 8) rfl rfl rfl (by kernel_rfl) (by kernel_rfl) (by kernel_rfl) (by rfl) hS0 w.heap.size 0 rfl (bvs at') _ (fun w' hw => hw.2.range) rarr_under rfl (rarr_size at' H32.out) ?_
      simp only [Act.put, List.setIfInBounds_toArray, List.set_cons_zero, List.set_cons_succ]
      refine reg_take (v := .int .i64 (k : Nat)) 12 (some 38) rfl rfl (by kernel_rfl) (by kernel_rfl) (by kernel_rfl) (by rfl) hS0 (fun w' hw => by go_simp) ?_
      simp only [Act.put, List.setIfInBounds_toArray, List.set_cons_zero, List.set_cons_succ]
      refine reg_take (v := .slice (some ⟨bb, oo, none⟩) m d) 13 (some 39) rfl rfl (by kernel_rfl) (by kernel_rfl) (by kernel_rfl) (by rfl) hS0 (fun w' hw => by go_simp) ?_
      simp only [Act.put, List.setIfInBounds_toArray, List.set_cons_zero, List.set_cons_succ]
      refine reg_take (v := .int .i64 (m : Nat)) 14 (some 40) rfl rfl (by kernel_rfl) (by kernel_rfl) (by kernel_rfl) (by rfl) hS0 (fun w' hw => by go_simp) ?_
      simp only [Act.put, List.setIfInBounds_toArray, List.set_cons_zero, List.set_cons_succ]
      have HVd : Hid (Vx (wr.alloc (.cells #[.int .i64 r.queue, .slice g.X g.b.length g.c] 128)).drew c x2) := Lib.hid (HOL.out.q.now.keep0 HKd.out)
      have hfew : x2.o.few 60000 := by rw [HOL.out.o_]; exact HF.out.1
      have hlong : x2.o.long := by rw [HOL.out.o_]; exact HF.out.2
      have HFL := Lib.hid (And.intro hfew hlong)
      have HAd := Lib.hid (HAR.out.keep0 HKd.out)
      refine reg_keyBes 4 15 16 30 41 42 _ _ _ _ _ 23 c x2 r.queue at' k m HVd.out (hfew.mono (by omega)) hlong H32.out rfl rfl rfl (by kernel_rfl) (by kernel_rfl) (by kernel_rfl) (by kernel_rfl) rfl (by kernel_rfl) (by kernel_rfl)
        (fun w' hk => ⟨hS0.1.keep hk HN1.out, hS0.2.keep hk HOL.out.af⟩) ?hk ?hb ?hs ?hfin
      case hk =>
        intro op a w' ho e0
        obtain rfl := oper_is ho rfl
        have h1 : a.eval (.tmp 27) = .pointer (some ⟨c.v, 0, none⟩) := e0 27 (by kernel_rfl)
        have h2 : a.eval (.tmp 29) = .int .i64 r.queue := e0 29 (by kernel_rfl)
        exact exec_func 21 _ _ [.pointer (some ⟨c.v, 0, none⟩), .int .i64 r.queue] rfl (by kernel_rfl) (by show [a.eval (.tmp 27), a.eval (.tmp 29)] = _; rw [h1, h2])
      case hb =>
        intro op a w' ho e0
        obtain rfl := oper_is ho rfl
        have h1 : a.eval (.tmp 37) = .agg (bvs at').toArray := e0 37 (by kernel_rfl)
        have h2 : a.eval (.tmp 38) = .int .i64 (k : Nat) := e0 38 (by kernel_rfl)
        have h3 : a.eval (.tmp 40) = .int .i64 (m : Nat) := e0 40 (by kernel_rfl)
        exact exec_func 66 _ _ [.agg (bvs at').toArray, .int .i64 (k : Nat), .int .i64 (m : Nat)] rfl (by kernel_rfl) (by show [a.eval (.tmp 37), a.eval (.tmp 38), a.eval (.tmp 40)] = _; rw [h1, h2, h3])
      case hs => intro op ho; obtain rfl := oper_is ho rfl; rfl
      case hfin =>
        intro F2 P2 w4 A6 c6 ga hq hargs
        simp only [Act.put, List.setIfInBounds_toArray, List.set_cons_zero, List.set_cons_succ]
        have hnx : x2.o.nx (keyT c.ms r.queue) = x.o := by rw [HOL.out.o_]; exact HKN.out.1
        rw [hnx] at hq
        obtain ⟨key, hkey⟩ : ∃ key, key = x2.o.val (keyT c.ms r.queue) 32 := ⟨_, rfl⟩
        have hkl : key.length = 32 := by rw [hkey]; exact HFL.out.2.len _ (.inr (.inr rfl))
        rw [← hkey]
        rw [HOL.out.o_] at hkey
        have hS4 : Blk w4 wr.heap.size 128 [.int .i64 r.queue, .slice g.X g.b.length g.c] ∧ Blk w4 w.heap.size 32 (bvs at') := ⟨hS0.1.keep hq.kp HN1.out, hS0.2.keep hq.kp HOL.out.af⟩
        have hrl := recB_length r (by have := good_bounds r HGO.out; omega)
        have hcat : Sha.catP [⟨A6, 48, c6, besT at' k m⟩] = besT at' k m := by simp [Sha.catP]
        have hop := open_v c ⟨F2, P2, x.o, x2.sl, x2.cl⟩ key hkl e (s + (k : Int)) g.X g.b.length g.c g.b (recB r) (some ⟨ga, 0, none⟩) 1 1 _ w4 hq.now (hq.arg HAd.out) hargs (HF.out.1.mono (by omega)) (by rw [hrl]; have := good_bounds r HGO.out; omega) (by rw [hcat, bes_length _ _ _ H32.out]; omega) HRF.out (by rw [hcat, hkey, ← HM.out.1]; exact HKN.out.2.2) (by rw [hcat, hkey, ← HM.out.1]; exact HKN.out.2.1)
        rw [hrl] at hop
        have HQ4 := Lib.hid hq
        have HRL := Lib.hid hrl
        clear hq hargs hnx hkey hkl hcat hrl
        refine reg_call 17 (some 43) rfl rfl (by kernel_rfl) (by rfl) _ _ (exec_func 82 _ _ [.pointer (some ⟨c.v, 0, none⟩), .agg (bvs key).toArray, .int .i64 e, .int .i64 (s + (k : Nat)), .slice g.X g.b.length g.c, .slice (some ⟨ga, 0, none⟩) 1 1] rfl (by kernel_rfl) rfl) ?_
        refine hop.mono ?_
        rintro rr w5 ⟨X5, c5, rfl, hrow5, k5, hn5⟩
        have hS5 : Blk w5 wr.heap.size 128 [.int .i64 r.queue, .slice g.X g.b.length g.c] ∧ Blk w5 w.heap.size 32 (bvs at') := ⟨hS4.1.keep k5 (fun e => e), hS4.2.keep k5 (fun e => e)⟩
        have HQ5 := Lib.hid (HQ4.out.over0 k5)
        have HR5 := Lib.hid hrow5
        have HK45 := Lib.hid k5
        clear k5 hrow5 hn5 hop
        refine ⟨_, rfl, hS5, fun _ => ?_⟩
        simp only [Act.put, List.setIfInBounds_toArray, List.set_cons_zero, List.set_cons_succ]
        refine reg_take (v := .tuple #[.slice X5 (36 + r.body.length) c5, .int .i64 0]) 18 (some 25) rfl rfl (by kernel_rfl) (by kernel_rfl) (by kernel_rfl) (by rfl) hS5 (fun w' hw => by go_simp) ?_
        simp only [Act.put, List.setIfInBounds_toArray, List.set_cons_zero, List.set_cons_succ]
        refine reg_take (v := .slice X5 (36 + r.body.length) c5) 19 (some 44) rfl rfl (by kernel_rfl) (by kernel_rfl) (by kernel_rfl) (by rfl) hS5 (fun w' hw => by go_simp) ?_
        simp only [Act.put, List.setIfInBounds_toArray, List.set_cons_zero, List.set_cons_succ]
        refine reg_take (v := .int .i64 0) 20 (some 45) rfl rfl (by kernel_rfl) (by kernel_rfl) (by kernel_rfl) (by rfl) hS5 (fun w' hw => by go_simp) ?_
        simp only [Act.put, List.setIfInBounds_toArray, List.set_cons_zero, List.set_cons_succ]
        refine reg_take (v := .slice X5 (36 + r.body.length) c5) 21 (some 15) rfl rfl (by kernel_rfl) (by kernel_rfl) (by kernel_rfl) (by rfl) hS5 (fun w' hw => by go_simp) ?_
        simp only [Act.put, List.setIfInBounds_toArray, List.set_cons_zero, List.set_cons_succ]
        refine reg_take (v := .int .i64 0) 22 (some 16) rfl rfl (by kernel_rfl) (by kernel_rfl) (by kernel_rfl) (by rfl) hS5 (fun w' hw => by go_simp) ?_
        simp only [Act.put, List.setIfInBounds_toArray, List.set_cons_zero, List.set_cons_succ]
        refine reg_end (by kernel_rfl) ?_
        have hb5 : Blk w5 wr.heap.size 128 [.int .i64 r.queue, .slice g.X g.b.length g.c] := hS5.1
        have HB5 := Lib.hid hb5
        have hgt := get_any X5 (36 + r.body.length) c5 (recB r) w5 HRL.out (by have := good_bounds r HGO.out; omega) (fun e0 => by
          exfalso
          rcases HR5.out with e1 | ⟨b1, o1, e1, _⟩
          · have := congrArg List.length e1; rw [bvs_length, HRL.out] at this; simp at this
          · rw [e0] at e1; cases e1) HR5.out
        rw [(got_yes r HGO.out).1, (got_yes r HGO.out).2] at hgt
        unfold rv at hgt
        have HGT := Lib.hid hgt
        clear hb5 hgt hS5 hS4 hS0
        obtain ⟨i0, hi1, hi2, hi3, hi4⟩ := rec_info
        have hown5 : OwnK 6 34 w5 L k cl ((rs.take k).flatMap rcells) := by
          have h1 := HOL.out.own.keep HKd.out (fun j _ e => e)
          have h2 := h1.keep HQ4.out.kp (fun j e => (HOL.out.lf j e).2)
          exact h2.keep HK45.out (fun j _ e => e)
        have HO5 := Lib.hid hown5
        have hk1000 := HM.out.2
        clear hown5
        go_wp2_with (first
          | (go_at_call 83; refine HGT.out.mono ?_; rintro rr w6 ⟨rfl, k6⟩; have HK6 := Lib.hid k6; have hcq : w6.cell? ⟨wr.heap.size, 0, none⟩ = some (.int .i64 r.queue) := (HB5.out.keep k6 (fun e => e)).cell 0; have hl6 : wr.heap.size < w6.heap.size := (HB5.out.keep k6 (fun e => e)).lt; clear k6)
          | (refine wpList_gd (by rfl) (exec_recOne (.tmp 63) r rfl rfl) ?_)
          | (refine wpList_appKO_gd _ (.tmp 62) (.tmp 64) 22 rfl (by rfl) 6 (by decide) 34 i0 _ 56 recs_und hi1 hi2 hi3 hi4 rfl L k cl ((rs.take k).flatMap rcells) rfl (HO5.out.keep (((HK6.out.alloc (.cells (rcells r).toArray 34))).alloc (.cells (rcells r).toArray 34)) (fun j _ e => e)) (some ⟨(w6.alloc (.cells (rcells r).toArray 34)).heap.size, 0, none⟩) 1 1 (rcells r) rfl (fun e => by cases e) rfl (row_new (w6.alloc (.cells (rcells r).toArray 34)) (rcells r) 34) (rcells_one r) (by omega) (by simp [maxLen]; omega) ?_
             intro L2 cl2 w7 ho2 hg2 hz2)
          | fail)
        have hz2' : ab L2 = ab L ∨ ab L2 = some ((w6.alloc (.cells (rcells r).toArray 34)).alloc (.cells (rcells r).toArray 34)).heap.size := hz2
        have HNX := Lib.hid (HOL.out.more (x4 := ⟨F2, P2, x.o, x2.sl, x2.cl⟩) HX.out hkr HKd.out HQ4.out rfl ((HK45.out.trans HK6.out (fun _ e => e.elim)).alloc (.cells (rcells r).toArray 34) |>.alloc (.cells (rcells r).toArray 34)) (by rw [← HRE.out]; exact ho2) ((Kp.refl _ _).grown hg2 (fun j e => .inl e)) hz2')
        clear ho2 hg2 hz2 hz2'
        go_wp2
        go_roundw
        case rel => exact ⟨k + 1, by omega, by go_num, _, L2, cl2, rfl, HNX.out⟩
        case measure => simp [intOf]; omega
    · obtain rfl : k = m := by omega
      go_wp2
      go_ret2
      exact ⟨x2, L, cl, rfl, HOL.out⟩
end Go.Proofs.YtiimfhacnfdmhaaGreat.Seg
namespace Go.Proofs.YtiimfhacnfdmhaaGreat.Seg
open Go Go.RowKit Kit
open Rec (Rec good ftot recB recB_length good_bounds Rrow Sr SrOk)
open Ideal (Ts Thing Ans Arg Args sealT derT hashT leafT rootT zc zc_run zc_length zc_eq z32)
open Vault
theorem fold_q (ms : List UInt8) (e s : Int) (at' : List UInt8) (n : Nat) : ∀ (rs : List Rec) (q : Ts × List (Int × List UInt8)), (∀ r ∈ rs, good r = true) → (∀ p ∈ q.2, 0 ≤ p.1 ∧ p.1 ≤ 16) → ∀ p ∈ (rs.foldl (st1 ms e s at' n) q).2, 0 ≤ p.1 ∧ p.1 ≤ 16
  | [], q, hb, hq => hq
  | r :: rs, q, hb, hq => by
    have hg := good_bounds r (hb r List.mem_cons_self)
    refine fold_q ms e s at' n rs _ (fun x hx => hb x (List.mem_cons_of_mem _ hx)) (fun p hp => ?_)
    unfold st1 at hp
    rcases List.mem_append.1 hp with hp | hp
    · exact hq p hp
    · rw [List.mem_singleton.1 hp]
      exact ⟨hg.2.2.1, hg.2.2.2.1⟩
theorem stA_q (ms : List UInt8) (e s : Int) (at' : List UInt8) (n : Nat) (o : Ts) (rs : List Rec) (hb : ∀ r ∈ rs, good r = true) : ∀ p ∈ (stA ms e s at' n o rs).2, 0 ≤ p.1 ∧ p.1 ≤ 16 := by
  unfold stA
  exact fold_q ms e s at' n rs (o, []) hb (fun p hp => by cases hp)
theorem long_back {o p : Ts} (h : o.sub p) (hp : p.long) : o.long := by
  induction h with
  | refl => exact hp
  | @step p t g ih =>
    refine ih ?_
    cases p with
    | real f => exact hp
    | dream ts => trivial
theorem eq32U (xs ys : List UInt8) (hx : xs.length = 32) (hy : ys.length = 32) (w : World) : (Op.equalIn 10000 32 (.agg (bvs xs).toArray) (.agg (bvs ys).toArray)).run Tryz.prog w = .ok (xs == ys) w :=
  run_equalIn_bytes w 9998 32 5 32 rarr_under (by kernel_rfl) (fun _ => by kernel_rfl) xs ys hx hy
theorem exec_ne32U {a : Act} {o : Oper} {w : World} (i j : Operand) (u : TypeId) (l m : List UInt8) (hl : l.length = 32) (hm : m.length = 32) (ho : o.op = .binOp .neq 32 i j u) (hx : a.eval i = .agg (bvs l).toArray) (hy : a.eval j = .agg (bvs m).toArray) : (execOp a.eval o).run Tryz.prog w = .ok (.value (.bool (!decide (l = m)))) w := by
  have hg : (eqGuard .neq 32 i j (.agg (bvs l).toArray) (.agg (bvs m).toArray)).run Tryz.prog w = .ok () w := by
    unfold eqGuard; kernel_rfl
  have hn : (binOp .neq 32 (.agg (bvs l).toArray) (.agg (bvs m).toArray)).run Tryz.prog w = .ok (.bool (!decide (l = m))) w := by
    have h : (Op.equal 32 (.agg (bvs l).toArray) (.agg (bvs m).toArray)).run Tryz.prog w = .ok (l == m) w := eq32U l m hl hm w
    have hd : (l == m) = decide (l = m) := by rw [Bool.eq_iff_iff]; simp
    simp only [binOp]
    simp [h, hd, Result.andThen]
  unfold execOp
  simp only [ho, hx, hy, Sem.run_bind, hg, hn, Result.andThen_ok, Sem.run_pure]
theorem Parts.mono {w : World} {P Q : Nat → Prop} {A : Option Addr} {gs : List Pt} (h : Parts w P A gs) (hq : ∀ i, Q i → P i) : Parts w Q A gs :=
  ⟨h.row, h.far.imp id (fun e i hi hp => e i hi (hq i hp)), fun g hg => ⟨(h.arg g hg).len, (h.arg g hg).row, (h.arg g hg).far.imp id (fun e i hi hp => e i hi (hq i hp)), (h.arg g hg).cap, (h.arg g hg).mx, (h.arg g hg).nil⟩⟩
set_option maxHeartbeats 4000000 in
set_option maxRecDepth 100000 in
theorem unpack_c [Inhabited Sha.ShaTab] [Inhabited Field.SqTab] : UnpackC pk := by
  intro c x o e s at' A n d b rs w hx h32 hpe hb hsub harg he hs hlim hf hlo
  rw [pk_shape.err] at hpe
  obtain ⟨hne, hgood, hft, he0, hs0, he1, hs1⟩ := perr_ok hpe
  have hE : perrs c.lim e s 0 48 rs = 0 := by rw [perr, if_neg hne] at hpe; exact hpe
  obtain ⟨sA, hsA⟩ : ∃ sA, sA = stA c.ms e s at' rs.length o rs := ⟨_, rfl⟩
  have hpk := pk_yes o c.ms c.lim e s at' rs hne hE
  rw [← hsA] at hpk
  have hb2 : b = frB (ftot rs) sA.2 (rtA sA.1 (sA.2.map (·.2))).1 := by rw [hb, hpk, hdA_b]
  have hss : (rtA sA.1 (sA.2.map (·.2))).2.sub x.o ∧ (rtA sA.1 (sA.2.map (·.2))).2.sub ((rtA sA.1 (sA.2.map (·.2))).2.nx (hashT (at' ++ b))) ∧ ((rtA sA.1 (sA.2.map (·.2))).2.nx (hashT (at' ++ b))).sub x.o := by
    rw [hpk, hdA_o, ← hb2] at hsub
    exact ⟨(Ts.sub_nx _ _).trans hsub, Ts.sub_nx _ _, hsub⟩
  have hsAs : sA.1.sub x.o := (rtA_sub _ _).trans hss.1
  have hlo2 : o.long := by
    refine long_back (?_ : o.sub x.o) hlo
    rw [hsA] at hsAs
    exact (stA_from c.ms e s at' rs.length o rs).trans hsAs
  have hbl : b.length = ftot rs := by
    obtain ⟨rest, h1, h2⟩ := pk_shape.begins o c.ms c.lim e s at' rs hlo2 (by rw [pk_shape.err]; exact hpe)
    rw [hb, h1, List.length_append, num8_length]; omega
  have hpl : sA.2.length = rs.length := by rw [hsA]; exact stA_length ..
  have hf48 : 48 ≤ ftot rs := by unfold ftot; omega
  have hrsn : 1 ≤ rs.length := by
    cases rs with
    | nil => exact absurd rfl hne
    | cons r rs => simp
  have hfew260 := few_of rs hft
  have hlens := stA_lens c.ms e s at' rs.length o rs hlo2 hgood
  have hqs := stA_q c.ms e s at' rs.length o rs hgood
  rw [← hsA] at hlens hqs
  obtain ⟨root, hroot⟩ : ∃ root, root = (rtA sA.1 (sA.2.map (·.2))).1 := ⟨_, rfl⟩
  have hrl : root.length = 32 := by rw [hroot]; exact rtA_length _ _ (long_back hsAs hlo)
  have hfr : Fr sA.2 root b := ⟨by rw [hbl, hroot]; exact hb2, hrl, by omega, by omega, fun p hp => ⟨hqs p hp, hlens p hp⟩⟩
  have hra := rtA_again sA.1 x.o (sA.2.map (·.2)) hss.1
  rw [← hroot] at hra
  obtain ⟨D, hD⟩ : ∃ D, D = (pk o c.ms c.lim e s at' rs).h := ⟨_, rfl⟩
  have hag := Ts.again hss.2.2 32
  have hD2 : D = x.o.val (hashT (at' ++ b)) 32 := by rw [hD, hpk, hdA_h, ← hb2]; exact hag.1.symm
  have hDl : D.length = 32 := by rw [hD2]; exact hlo.len _ (.inl rfl)
  rw [← hD]
  have HFR := Lib.hid hfr
  have HPU := Lib.hid (And.intro hrl (And.intro hra (And.intro hD2 (And.intro hDl (And.intro hag.2 hpl)))))
  have HSA := Lib.hid (And.intro hsA hsAs)
  have HGD := Lib.hid hgood
  have HRG := Lib.hid (And.intro he0 (And.intro he1 (And.intro hs0 (And.intro hs1 (And.intro hrsn hfew260)))))
  have HF := Lib.hid (And.intro hf (And.intro hlo hlim))
  have HX := Lib.hid hx
  have HAR := Lib.hid harg
  have H32 := Lib.hid h32
  have HBL := Lib.hid (And.intro hbl hft)
  clear hpk hb2 hss hsAs hlo2 hbl hpl hf48 hrsn hfew260 hlens hqs hroot hrl hfr hra hD hag hD2 hDl hsA hpe hne hgood hft he0 hs0 he1 hs1 hE hb hsub hf hlo hlim hx harg h32 he hs
  have hz := zc_run
  have k0 : Kp nob w ((w.alloc (.cells (bvs at').toArray 32)).alloc (.cells zc.toArray 32)) := ((Kp.refl nob w).alloc _).alloc _
  have HB1 := Lib.hid ((Blk.new w 32 (bvs at')).alloc (.cells zc.toArray 32))
  have HB2 := Lib.hid (show Blk ((w.alloc (.cells (bvs at').toArray 32)).alloc (.cells zc.toArray 32)) (w.heap.size + 1) 32 zc from Blk.new' (by simp) rfl)
  have HK := Lib.hid k0
  have hsz2 : ((w.alloc (.cells (bvs at').toArray 32)).alloc (.cells zc.toArray 32)).heap.size = w.heap.size + 2 := by simp
  have HS2 := Lib.hid hsz2
  have HRE := Lib.hid (read_c sA.2 root b HFR.out A n d _ HAR.out.len (HAR.out.row.keep0 k0) HAR.out.nil HAR.out.cap HAR.out.mx)
  obtain ⟨N, hN⟩ : ∃ N, N = rs.length := ⟨_, rfl⟩
  rw [← hN]
  have HN := Lib.hid hN
  clear k0 hsz2 hN
  go_enter Tryz.func29, Tryz.ntmps29
  go_wp2_with fail
  refine HRE.out.mono ?_
  rintro r w2 ⟨X, cX, gs, rfl, htw, hpt, k2⟩
  have hgl : gs.length = N := by
    have h1 := congrArg List.length htw
    rw [List.length_map, HPU.out.2.2.2.2.2, ← HN.out] at h1; exact h1
  have hmap : gs.map (·.b) = sA.2.map (·.2) := by rw [← htw, List.map_map]; rfl
  have HPT := Lib.hid (hpt.mono (Q := x.P) (fun i e => by have := HX.out.lt i e; have := HS2.out; omega))
  have HGS := Lib.hid (And.intro htw (And.intro hgl hmap))
  have HK2 := Lib.hid (HK.out.trans k2 (fun _ e => e.elim))
  have HB12 := Lib.hid (HB1.out.keep k2 (fun e => e))
  have HB22 := Lib.hid (HB2.out.keep k2 (fun e => e))
  have HPL := Lib.hid HPU.out.2.2.2.2.2
  have hps : sA.2.length = N := by rw [HPU.out.2.2.2.2.2, HN.out]
  rw [hps]
  have HB5 := Lib.hid (Blk.new w2 32 zc)
  clear htw hpt k2 hgl hmap hps
  go_wp2_with (first
    | (refine wpList_store_blk rfl 32 (.tmp 14) (.tmp 22) rfl _ _ _ (bvs root) HB5.out rfl rfl (by rw [bvs_length, HPU.out.1, zc_length]) (rarr_size root HPU.out.1) (bvs_one _) ?_; intro w3 hB3 k3 z3)
    | fail)
  have hxw2 : Vx w2 c x := HX.out.keep0 HK2.out
  have hv23 : Vq w2 c x w3.drew x := (((Vq.refl hxw2).over0 ((Kp.refl nob w2).alloc (.cells zc.toArray 32))).over k3 (fun i _ e => by
    have e : i = w2.heap.size := e
    exact ⟨by omega, fun e2 => by have := hxw2.lt i e2; omega⟩) hxw2.sz).over0 (Kp.refl nob w3).drew
  have HV3 := Lib.hid (hv23.back HK2.out)
  have HPT3 := Lib.hid (Parts.call hv23 HPT.out)
  have HR3 := Lib.hid (hB3.keep (Kp.refl nob w3).drew (fun e => e))
  have hn0 : ¬ x.P w.heap.size := fun e => by have := HX.out.lt _ e; omega
  have hn1 : ¬ x.P (w.heap.size + 1) := fun e => by have := HX.out.lt _ e; omega
  have HB13 := Lib.hid (hv23.blk HB12.out hn0)
  have HB23 := Lib.hid (hv23.blk HB22.out hn1)
  have hgb : ∀ g ∈ gs, g.b.length ≤ 1048000 := fun g hg => Nat.le_trans (HFR.out.ok g.two (by rw [← HGS.out.1]; exact List.mem_map_of_mem hg)).2 (by omega)
  have hro := rootOf_c c x X N cX gs w3.drew HV3.out.now HPT3.out HGS.out.2.1 (by have := HRG.out; have := HN.out; omega) (HF.out.1.mono (by omega)) HF.out.2.1 hgb
  rw [HGS.out.2.2, HPU.out.2.1] at hro
  have HRO := Lib.hid hro
  have HN01 := Lib.hid (And.intro hn0 hn1)
  clear hro hgb hv23 hxw2 k3 z3 hn0 hn1
  refine reg_begin (fun w' => Blk w' w2.heap.size 32 (bvs root)) (by kernel_rfl) HR3.out (fun hS0 => ?_)
  refine reg_take (v := .bool true) 0 (some 24) rfl rfl (by kernel_rfl) (by kernel_rfl) (by kernel_rfl) (by rfl) hS0 (fun w' hw => by go_simp) ?_
  simp only [Act.put, List.setIfInBounds_toArray, List.set_cons_zero, List.set_cons_succ]
  refine reg_take (v := .bool false) 1 (some 25) rfl rfl (by kernel_rfl) (by kernel_rfl) (by kernel_rfl) (by rfl) hS0 (fun w' hw => by go_simp) ?_
  simp only [Act.put, List.setIfInBounds_toArray, List.set_cons_zero, List.set_cons_succ]
  refine reg_take (v := .bool false) 2 (some 26) rfl rfl (by kernel_rfl) (by kernel_rfl) (by kernel_rfl) (by rfl) hS0 (fun w' hw => by go_simp) ?_
  simp only [Act.put, List.setIfInBounds_toArray, List.set_cons_zero, List.set_cons_succ]
  refine reg_take (v := .pointer (some ⟨c.v, 0, none⟩)) 3 (some 27) rfl rfl (by kernel_rfl) (by kernel_rfl) (by kernel_rfl) (by rfl) hS0 (fun w' hw => by go_simp) ?_
  simp only [Act.put, List.setIfInBounds_toArray, List.set_cons_zero, List.set_cons_succ]
  refine reg_take (v := .slice X N cX) 4 (some 28) rfl rfl (by kernel_rfl) (by kernel_rfl) (by kernel_rfl) (by rfl) hS0 (fun w' hw => by go_simp) ?_
  simp only [Act.put, List.setIfInBounds_toArray, List.set_cons_zero, List.set_cons_succ]
  refine reg_load 6 (some 30) 32 (.tmp 14) rfl rfl rfl (by kernel_rfl) (by kernel_rfl) (by kernel_rfl) (by rfl) hS0 w2.heap.size 0 rfl (bvs root) _ (fun w hw => hw.range) rarr_under rfl (rarr_size root HPU.out.1) ?_
  simp only [Act.put, List.setIfInBounds_toArray, List.set_cons_zero, List.set_cons_succ]
  refine reg_call 5 (some 29) rfl rfl (by kernel_rfl) (by rfl) _ _ (exec_func 54 _ _ [.pointer (some ⟨c.v, 0, none⟩), .slice X N cX] rfl (by kernel_rfl) rfl) ?_
  refine HRO.out.mono ?_
  rintro r w4 ⟨F4, P4, rfl, q4⟩
  have hS4 : Blk w4 w2.heap.size 32 (bvs root) := q4.blk hS0 (fun e => by have := HX.out.lt _ e; have := HK2.out.size; omega)
  have HQ4 := Lib.hid (HV3.out.trans q4)
  have HPT4 := Lib.hid (Parts.call q4 HPT3.out)
  have HB14 := Lib.hid (q4.blk HB13.out HN01.out.1)
  have HB24 := Lib.hid (q4.blk HB23.out HN01.out.2)
  have HN4 := Lib.hid (And.intro (q4.old HN01.out.1 HB13.out.lt) (q4.old HN01.out.2 HB23.out.lt))
  clear q4
  refine ⟨_, rfl, hS4, fun _ => ?_⟩
  simp only [Act.put, List.setIfInBounds_toArray, List.set_cons_zero, List.set_cons_succ]
  refine reg_take (v := .bool false) 7 (some 31) rfl rfl (by kernel_rfl) (by kernel_rfl) (by kernel_rfl) (by rfl) hS4 (fun w' hw => by rw [exec_ne32U (.tmp 29) (.tmp 30) _ root root HPU.out.1 HPU.out.1 rfl rfl rfl, decide_eq_true rfl]; rfl) ?_
  simp only [Act.put, List.setIfInBounds_toArray, List.set_cons_zero, List.set_cons_succ]
  refine reg_take (v := .bool false) 8 (some 32) rfl rfl (by kernel_rfl) (by kernel_rfl) (by kernel_rfl) (by rfl) hS4 (fun w' hw => by go_simp) ?_
  simp only [Act.put, List.setIfInBounds_toArray, List.set_cons_zero, List.set_cons_succ]
  refine reg_end (by kernel_rfl) ?_
  have HOP := Lib.hid (opened_c c ⟨F4, P4, x.o, x.sl, x.cl⟩ o e s at' rs X N cX gs w4 HQ4.out.now H32.out HPT4.out HN.out.symm (by have := HRG.out; have := HN.out; omega) (by rw [HGS.out.1, HSA.out.1]) (by rw [← HSA.out.1]; exact HSA.out.2) HGD.out ⟨HRG.out.1, HRG.out.2.1⟩ ⟨HRG.out.2.2.1, by rw [HN.out]; exact HRG.out.2.2.2.1⟩ HF.out.2.2 (HF.out.1.mono (by omega)) HF.out.2.1)
  clear hS4 hS0 HRO
  go_wp2_with (first
    | (refine wpList_load_blk rfl 32 (.tmp 8) rfl _ _ _ HB14.out rfl _ rarr_under rfl (rarr_size at' H32.out) ?_)
    | (go_at_call 55; refine HOP.out.mono ?_; rintro r w5 ⟨x5, L, cl, rfl, hol⟩; have HOL := Lib.hid hol; have HB15 := Lib.hid (hol.q.blk HB14.out HN4.out.1); have HB25 := Lib.hid (hol.q.blk HB24.out HN4.out.2); have HN5 := Lib.hid (hol.q.old HN4.out.2 HB24.out.lt); clear hol)
    | (refine wpList_load_blk rfl 32 (.tmp 8) rfl _ _ _ HB15.out rfl _ rarr_under rfl (rarr_size at' H32.out) ?_)
    | fail)
  have HQ5 := Lib.hid (HQ4.out.trans HOL.out.q)
  have hbe := behind_c c x5 at' A n d b w5 HOL.out.q.now H32.out (HQ5.out.arg HAR.out) (by rw [HOL.out.o_]; exact HF.out.1.mono (by omega)) (by have := HBL.out; omega) (by rw [HOL.out.o_]; exact HF.out.2.1)
  rw [HOL.out.o_] at hbe
  dsimp only at hbe
  rw [← HPU.out.2.2.1] at hbe
  refine hbe.mono ?_
  rintro r w6 ⟨F6, P6, rfl, q6⟩
  have HQ6 := Lib.hid (HQ5.out.trans q6)
  have HB26 := Lib.hid (q6.blk HB25.out HN5.out)
  have HN6 := Lib.hid (q6.old HN5.out HB25.out.lt)
  have hrow6 : Rrow w6 L rs := by
    have h1 := HOL.out.own.row
    rw [List.take_of_length_le (by rw [← HN.out]; exact Nat.le_refl _)] at h1
    exact Row.keep h1 q6.kp (fun i e => (HOL.out.lf i e).2)
  have HS6 : Hid (w5.heap.size ≤ w6.heap.size) := Lib.hid q6.kp.size
  have HR6 := Lib.hid hrow6
  clear hbe q6 hrow6
  go_wp2_with (first
    | (refine wpList_store_blk rfl 32 (.tmp 11) (.tmp 51) rfl _ _ _ (bvs D) HB26.out rfl rfl (by rw [bvs_length, HPU.out.2.2.2.1, zc_length]) (rarr_size D HPU.out.2.2.2.1) (bvs_one _) ?_; intro w7 hB7 k7 z7)
    | fail)
  have HB7 := Lib.hid hB7
  have HQ7 : Hid (Vq w c x w7 ⟨F6, P6, x.o.nx (hashT (at' ++ b)), x5.sl, x5.cl⟩) := Lib.hid (HQ6.out.over k7 (fun i _ e => by have e : i = w.heap.size + 1 := e; subst e; exact ⟨by omega, HN6.out⟩) HX.out.sz)
  have HSR : Hid (SrOk w7 ⟨L, N, cl, rs⟩) := Lib.hid (by
    have hcap := HOL.out.own.cap
    refine ⟨HN.out.symm, Row.keep HR6.out k7 (fun i e e2 => ?_), hcap.1, hcap.2, OwnZ.none_ HOL.out.own, fun i e => ?_⟩
    · have e2 : i = w.heap.size + 1 := e2
      have h1 := (HOL.out.lf i e).1
      have h2 := HB24.out.lt
      omega
    · have h1 := HOL.out.own.lt i e
      have h2 := k7.size
      have h3 := HS6.out
      omega)
  clear hB7 k7 z7
  go_wp2
  exact bodyPost_ret (results_mid rfl _ _ (w.heap.size + 1) _ _ _ rfl HB7.out rarr_under rfl (rarr_size D HPU.out.2.2.2.1) _ _ rfl rfl) rfl ⟨F6, P6, _, x5.sl, x5.cl, L, cl, rfl, HQ7.out, HSR.out⟩
end Go.Proofs.YtiimfhacnfdmhaaGreat.Seg
namespace Go.Proofs.YtiimfhacnfdmhaaGreat.Seg
open Go Go.RowKit Kit
theorem own : ownKnob Tryz.prog.godebug = none := by kernel_rfl
theorem laidOut : laidOutB Tryz.prog = true := by kernel_rfl
end Go.Proofs.YtiimfhacnfdmhaaGreat.Seg
namespace Go.Proofs.YtiimfhacnfdmhaaGreat.Field
open Go Go.RowKit Kit
theorem byte_of_has {n : Int} (h : IntKind.has .u8 n) : ∃ b : UInt8, Value.int .u8 n = bv b := by
  have h1 : (0 : Int) ≤ n := h.1
  have h2 : n ≤ (255 : Int) := h.2
  refine ⟨UInt8.ofNat n.toNat, ?_⟩
  have e : ((UInt8.ofNat n.toNat).toNat : Int) = n := by
    rw [UInt8.toNat_ofNat']
    omega
  rw [bv, e]
theorem bytes_of_each (l : List Value) (h : ∀ v ∈ l, ∃ b : UInt8, v = bv b) : ∃ bs : List UInt8, bs.length = l.length ∧ l = bvs bs := by
  induction l with
  | nil => exact ⟨[], rfl, rfl⟩
  | cons v l ih =>
    obtain ⟨b, hb⟩ := h v (by simp)
    obtain ⟨bs, h1, h2⟩ := ih (fun x hx => h x (by simp [hx]))
    exact ⟨b :: bs, by simp [h1], by simp [bvs] at h2 ⊢; exact ⟨hb, h2⟩⟩
theorem bytes_of_shapedOpen {P : Program} {w : World} {g n : Nat} {t u : TypeId} {zero : Array Value}
    (h : w.ShapedOpen P) (hg : g < P.globals.size) (h0 : ((begin P (fun _ _ => 0) default).world.heap[g]?).bind Obj.row? = some (zero, t)) (hz : zero.size = n)
    (hb : P.buildable t = true) (hc : P.cellTypes P.depth t = some (List.replicate n u)) (hu : P.underlying u = some (.int .u8)) :
    ∃ l : List UInt8, l.length = n ∧ w.rangeAt g 0 (bvs l) := by
  obtain ⟨cs, hh, hs, hr⟩ := h.1 g zero t hg h0
  obtain ⟨ts, hts, _, hall⟩ := hr hb
  rw [hc] at hts
  cases hts
  have he : ∀ v ∈ cs.toList, ∃ b : UInt8, v = bv b := by
    intro v hv
    obtain ⟨i, hi⟩ := List.mem_iff_getElem?.1 hv
    obtain ⟨x, hx, hok⟩ := hall i v (by simpa using hi)
    have hxu : x = u := by
      have hm := List.mem_of_getElem? hx
      exact (List.mem_replicate.1 hm).2
    subst hxu
    unfold Cell.ok at hok
    rw [hu] at hok
    cases v <;> simp at hok
    obtain ⟨rfl, hk⟩ := hok
    exact byte_of_has hk
  obtain ⟨l, hl, hv⟩ := bytes_of_each cs.toList he
  refine ⟨l, by rw [hl]; simp [hs, hz], ?_⟩
  intro j v hj
  rw [← hv] at hj
  have hj' : cs[j]? = some v := by simpa using hj
  obtain ⟨hlt, _⟩ := Array.getElem?_eq_some_iff.1 hj'
  simp [World.cell?, hh, hj']
theorem sq_of_shaped {w : World} (h : w.ShapedOpen Tryz.prog) : ∃ l : List UInt8, l.length = 8 ∧ w.rangeAt 2 0 (bvs l) :=
  bytes_of_shapedOpen (n := 8) (t := 270) (u := 5) (zero := #[.int .u8 0, .int .u8 0, .int .u8 0, .int .u8 0, .int .u8 0, .int .u8 0, .int .u8 0, .int .u8 0]) h
    (of_decide_eq_true (by kernel_rfl)) (by kernel_rfl) rfl (by kernel_rfl) (by kernel_rfl) (by kernel_rfl)
end Go.Proofs.YtiimfhacnfdmhaaGreat.Field
