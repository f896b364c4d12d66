/- The code's Get, walked. -/
import Derived.Test.YtigdlnfgdjfdoaaGreatZK26
set_option maxHeartbeats 4000000
set_option maxRecDepth 100000
set_option linter.unusedVariables false
set_option linter.unusedSimpArgs false
namespace Go.Proofs.YtigdlnfgdjfdoaaGreat
namespace Rec
open Go Go.RowKit Kit
theorem get_nil (A : Option Addr) (c : Nat) (w : World) (hA : A = none → c = 0) :
    Calls Tryz.prog 111 #[.slice A 0 c] w fun e w' => e = .returned (.tuple #[rv zr, .int .i64 4]) ∧ Kp nob w w' := by
 obtain ⟨d, hd1, hd2⟩ := rec_undE
 have HB0 := Lib.hid (Blk.new w 67 (rcells zr))
 have HK0 := Lib.hid ((Kp.refl nob w).alloc (.cells (rcells zr).toArray 67))
 go_enter Tryz.func111, Tryz.ntmps111
 go_wp2_with fail
 refine (rRead2 A 0 c [] _ rfl (by omega) hA (Row.nil _ _)).mono ?_
 rintro e w1 ⟨b, A1, rfl, hr, k1, hf, hf2⟩
 have G1 : Hid (Gw w w1.heap.size b A1 ([], false) w1) := Lib.hid ⟨HB0.out.keep k1 (fun e => e), hr, fun k e => ⟨by have := hf k e; simp at this; omega, hf2 k e⟩, HK0.out.trans k1 (fun _ e => e.elim)⟩
 clear HB0 HK0 hr k1 hf hf2
 have htk := rTake b A1 ([], false) 1 w1 G1.out.i (by simp)
 unfold TakePost at htk
 rw [show sTake ([], false) 1 = (([], false), bust) from sTake_no _ _ (.inl (by simp))] at htk
 have HT := Lib.hid htk; clear htk
 go_wp2_with fail
 refine HT.out.mono ?_
 rintro e w2 ⟨A2, c2, rfl, ho, hfr, hp⟩
 obtain ⟨A3, g3⟩ := G1.out.more hp
 have G3 := Lib.hid g3
 clear g3 hp ho hfr HT
 go_wp2_with (first
  | (refine wpList_store_blk rfl 67 (.tmp 2) (.tmp 17) rfl _ _ (rcells zr) (rcells zr) G3.out.z rfl rfl rfl (rec_size _) (rcells_one _) ?_; intro w3 hB3 k3 z3; have HB3 := Lib.hid hB3; have HK3 := Lib.hid (G3.out.k.since k3 (fun i e => Nat.le_of_eq e.symm)); clear hB3 k3 z3))
 exact bodyPost_ret (results_rec rfl _ _ w.heap.size _ (rcells zr) d rfl HB3.out hd1 hd2 (rec_size _) _ rfl) rfl ⟨rfl, HK3.out⟩
theorem get_cons (A : Option Addr) (n c : Nat) (x : UInt8) (l : List UInt8) (w : World) (hn : (x :: l).length = n) (hl : n ≤ 1048576) (hA : A = none → c = 0) (hr : Row w A (bvs (x :: l))) :
    Calls Tryz.prog 111 #[.slice A n c] w fun e w' => e = .returned (.tuple #[rv (gotR (x :: l)), .int .i64 (gotE (x :: l))]) ∧ Kp nob w w' := by
 obtain ⟨d, hd1, hd2⟩ := rec_undE
 have HB0 := Lib.hid (Blk.new w 67 (rcells zr))
 have HK0 := Lib.hid ((Kp.refl nob w).alloc (.cells (rcells zr).toArray 67))
 have HR := Lib.hid (hr.keep0 HK0.out)
 have HN := Lib.hid hn
 have HL := Lib.hid (show l.length ≤ 1048576 by have := hn; simp at this; omega)
 clear hr hn
 go_enter Tryz.func111, Tryz.ntmps111
 go_wp2_with fail
 refine (rRead2 A n c (x :: l) _ HN.out (by omega) hA HR.out).mono ?_
 rintro e w1 ⟨b, A1, rfl, hr, k1, hf, hf2⟩
 have G1 : Hid (Gw w w1.heap.size b A1 (x :: l, false) w1) := Lib.hid ⟨HB0.out.keep k1 (fun e => e), hr, fun k e => ⟨by have := hf k e; simp at this; omega, hf2 k e⟩, HK0.out.trans k1 (fun _ e => e.elim)⟩
 clear HB0 HK0 HR hr k1 hf hf2
 have htk := rTake b A1 (x :: l, false) 1 w1 G1.out.i (by have := HL.out; simp; omega)
 unfold TakePost at htk
 rw [show sTake (x :: l, false) 1 = (([x], true), (l, false)) from sTake_app [x] l 1 rfl] at htk
 have HT := Lib.hid htk; clear htk
 go_wp2_with fail
 refine HT.out.mono ?_
 rintro e w2 ⟨A2, c2, rfl, ho, hfr, hp⟩
 obtain ⟨b2, hA2, hb2, hcx, _, _⟩ := ho.at_ (i := 0) (by simp)
 subst hA2
 have hb2b : b2 ≠ b := fun e => by have := hfr b2 rfl; have := G1.out.i.lt; omega
 obtain ⟨A3, g3⟩ := G1.out.more hp
 have G3 := Lib.hid g3
 have HC := Lib.hid (show w2.cell? ⟨b2, 0, none⟩ = some (bv x) from hcx)
 have HNE := Lib.hid hb2b
 have HLT := Lib.hid hb2
 have hcap := ho.cap.1
 have HMN := Lib.hid (show w1.heap.size ≤ w2.heap.size from hp.size)
 clear g3 hp ho hfr HT hcx hb2b hb2
 go_wp2
 have hwx : IntKind.i64.wrap (x.toNat : Int) = (x.toNat : Int) := by rw [IntKind.wrap_i64]; have := x.toNat_lt; omega
 have HS0 : Hid ((fun w' : World => w'.cell? ⟨b2, 0, none⟩ = some (bv x)) w2.drew) := Lib.hid HC.out
 have HT0 : Hid (Tg w w1.heap.size b b2 x (l, false) w2.drew.heap.size 0 w2.drew) := Lib.hid ⟨⟨A3, G3.out.keep (Kp.refl nob w2).drew⟩, HC.out, HLT.out, HNE.out, Nat.le_refl _, G3.out.i.lt, HMN.out⟩
 refine reg_begin (fun w' : World => w'.cell? ⟨b2, 0, none⟩ = some (bv x)) (by kernel_rfl) HS0.out (fun _ => ?_)
 generalize w2.drew = wd at *
 obtain ⟨N, hNe⟩ : ∃ N, N = wd.heap.size := ⟨_, rfl⟩
 rw [← hNe] at HT0
 have HNe := Lib.hid hNe
 clear hNe
 refine reg_tk (v := .slice (some ⟨b2, 0, none⟩) 1 c2) 0 18 rfl rfl (by kernel_rfl) (by rfl) HS0.out (fun w hw => by go_simp) ?_; simp only [Act.put, zp1, zp2, zp3]
 refine reg_tk (v := .pointer (some ⟨b2, 0, none⟩)) 1 19 rfl rfl (by kernel_rfl) (by rfl) HS0.out (fun w hw => by go_simp) ?_; simp only [Act.put, zp1, zp2, zp3]
 refine reg_tk (v := .int .u8 (x.toNat : Int)) 2 20 rfl rfl (by kernel_rfl) (by rfl) HS0.out (fun w hw => by have hc : w.cell? ⟨b2, 0, none⟩ = some (.int .u8 (x.toNat : Int)) := hw; go_simp; rfl) ?_; simp only [Act.put, zp1, zp2, zp3]
 refine reg_tk (v := .int .i64 (x.toNat : Int)) 3 21 rfl rfl (by kernel_rfl) (by rfl) HS0.out (fun w hw => by go_simp) ?_; simp only [Act.put, zp1, zp2, zp3]
 refine reg_tk (v := .pointer (some ⟨b, 0, none⟩)) 4 22 rfl rfl (by kernel_rfl) (by rfl) HS0.out (fun w hw => by go_simp) ?_; simp only [Act.put, zp1, zp2, zp3]
 refine reg_tk (v := .pointer (some ⟨b, 0, none⟩)) 6 24 rfl rfl (by kernel_rfl) (by rfl) HS0.out (fun w hw => by go_simp) ?_; simp only [Act.put, zp1, zp2, zp3]
 refine reg_tk (v := .pointer (some ⟨b, 0, none⟩)) 8 26 rfl rfl (by kernel_rfl) (by rfl) HS0.out (fun w hw => by go_simp) ?_; simp only [Act.put, zp1, zp2, zp3]
 refine reg_tk (v := .pointer (some ⟨b, 0, none⟩)) 10 28 rfl rfl (by kernel_rfl) (by rfl) HS0.out (fun w hw => by go_simp) ?_; simp only [Act.put, zp1, zp2, zp3]
 refine reg_tk (v := .pointer (some ⟨b, 0, none⟩)) 12 30 rfl rfl (by kernel_rfl) (by rfl) HS0.out (fun w hw => by go_simp) ?_; simp only [Act.put, zp1, zp2, zp3]
 obtain ⟨S5, hS5⟩ : ∃ S5 : Nat → Value, S5 = fun p => if p < 5 then vv (l, false) p else .agg (rcells (rd x (l, false))).toArray := ⟨_, rfl⟩
 have HS5 := Lib.hid hS5; clear hS5
 refine reg_chain [5, 7, 9, 11, 13, 14] 15 [(5, some 23), (7, some 25), (9, some 27), (11, some 29), (13, some 31), (14, some 32), (15, some 7)] _ _ _ _ 1 17 (Tg w w1.heap.size b b2 x (l, false) N) S5 N (oneF b) 67 (rcells zr) rfl rfl rfl (by kernel_rfl) (by kernel_rfl) (by kernel_rfl) (by kernel_rfl) (by kernel_rfl) rfl (by kernel_rfl)
  (fun p w' h => h.2.1) (fun p w' h => h.2.2.2.2.1) (fun j e => ?hF) (fun p w' o h => h.alloc o) HT0.out ?hcall ?hnew ?hK
 case hF => have e : j = b := e; have := HT0.out.2.2.2.2.2.1; omega
 case hcall =>
  intro p hp o a w' ho e0 ev hT
  match p, hp, ho, ev, hT with
  | 0, _, ho, ev, hT => obtain rfl := oper_is ho rfl; exact .call _ _ (exec_func 116 _ _ [.pointer (some ⟨b, 0, none⟩)] rfl (by kernel_rfl) (by show [a.eval (.tmp 22)] = _; rw [e0 22 (by kernel_rfl)]; rfl)) ((hT.num (by omega)).mono fun e w2 h => ⟨_, h.1, ⟨by rw [HS5.out]; rfl, h.2.1⟩, h.2.2⟩)
  | 1, _, ho, ev, hT => obtain rfl := oper_is ho rfl; exact .call _ _ (exec_func 116 _ _ [.pointer (some ⟨b, 0, none⟩)] rfl (by kernel_rfl) (by show [a.eval (.tmp 24)] = _; rw [e0 24 (by kernel_rfl)]; rfl)) ((hT.num (by omega)).mono fun e w2 h => ⟨_, h.1, ⟨by rw [HS5.out]; rfl, h.2.1⟩, h.2.2⟩)
  | 2, _, ho, ev, hT => obtain rfl := oper_is ho rfl; exact .call _ _ (exec_func 116 _ _ [.pointer (some ⟨b, 0, none⟩)] rfl (by kernel_rfl) (by show [a.eval (.tmp 26)] = _; rw [e0 26 (by kernel_rfl)]; rfl)) ((hT.num (by omega)).mono fun e w2 h => ⟨_, h.1, ⟨by rw [HS5.out]; rfl, h.2.1⟩, h.2.2⟩)
  | 3, _, ho, ev, hT => obtain rfl := oper_is ho rfl; exact .call _ _ (exec_func 116 _ _ [.pointer (some ⟨b, 0, none⟩)] rfl (by kernel_rfl) (by show [a.eval (.tmp 28)] = _; rw [e0 28 (by kernel_rfl)]; rfl)) ((hT.num (by omega)).mono fun e w2 h => ⟨_, h.1, ⟨by rw [HS5.out]; rfl, h.2.1⟩, h.2.2⟩)
  | 4, _, ho, ev, hT => obtain rfl := oper_is ho rfl; exact .call _ _ (exec_func 103 _ _ [.pointer (some ⟨b, 0, none⟩), .int .i64 512] rfl (by kernel_rfl) (by show [a.eval (.tmp 30), a.eval (.const (.int .i64 512))] = _; rw [e0 30 (by kernel_rfl)]; rfl)) (hT.text.mono fun e w2 h => ⟨_, h.1, ⟨by rw [HS5.out]; rfl, h.2.1⟩, h.2.2⟩)
  | 5, _, ho, ev, hT =>
    obtain rfl := oper_is ho rfl
    have v0 := ev 0 (by omega) 23 rfl
    have v1 := ev 1 (by omega) 25 rfl
    have v2 := ev 2 (by omega) 27 rfl
    have v3 := ev 3 (by omega) 29 rfl
    have v4 := ev 4 (by omega) 31 rfl
    have v5 := e0 21 (by kernel_rfl)
    rw [HS5.out] at v0 v1 v2 v3 v4
    exact .val (.agg (rcells (rd x (l, false))).toArray) (exec_made 67 #[(0, .tmp 21), (1, .tmp 23), (2, .tmp 25), (3, .tmp 27), (4, .tmp 29), (5, .tmp 31)] rfl [(0, .int .i64 (x.toNat : Int)), (1, .int .i64 (sNum (st (l, false) 0)).1), (2, .int .i64 (sNum (st (l, false) 1)).1), (3, .int .i64 (sNum (st (l, false) 2)).1), (4, .int .i64 (sNum (st (l, false) 3)).1), (5, .string (str (sText (st (l, false) 4) 512).1))] _ (by show [(0, a.eval (.tmp 21)), (1, a.eval (.tmp 23)), (2, a.eval (.tmp 25)), (3, a.eval (.tmp 27)), (4, a.eval (.tmp 29)), (5, a.eval (.tmp 31))] = _; rw [v5, v0, v1, v2, v3, v4]; rfl) (build_rec _ _ _ _ _ _ _)) ⟨by rw [HS5.out]; rfl, hT.last⟩ (Kp.refl _ _)
 case hnew =>
  intro o a w' ho
  obtain rfl := oper_is ho rfl
  go_simp
  rfl
 case hK =>
  intro vals g w4 hv hq hT hg hB
  have v0 : vals 5 = .int .i64 (sNum (st (l, false) 0)).1 := (hv 0 (by simp)).trans (by rw [HS5.out]; rfl)
  have v1 : vals 7 = .int .i64 (sNum (st (l, false) 1)).1 := (hv 1 (by simp)).trans (by rw [HS5.out]; rfl)
  have v2 : vals 9 = .int .i64 (sNum (st (l, false) 2)).1 := (hv 2 (by simp)).trans (by rw [HS5.out]; rfl)
  have v3 : vals 11 = .int .i64 (sNum (st (l, false) 3)).1 := (hv 3 (by simp)).trans (by rw [HS5.out]; rfl)
  have v4 : vals 13 = .string (str (sText (st (l, false) 4) 512).1) := (hv 4 (by simp)).trans (by rw [HS5.out]; rfl)
  have v5 : vals 14 = .agg (rcells (rd x (l, false))).toArray := (hv 5 (by simp)).trans (by rw [HS5.out]; rfl)
  generalize (sNum (st (l, false) 0)).1 = q0 at v0
  generalize (sNum (st (l, false) 1)).1 = q1 at v1
  generalize (sNum (st (l, false) 2)).1 = q2 at v2
  generalize (sNum (st (l, false) 3)).1 = q3 at v3
  generalize (sText (st (l, false) 4) 512).1 = q4 at v4
  obtain ⟨R, hR⟩ : ∃ R, R = rd x (l, false) := ⟨_, rfl⟩
  rw [← hR] at v5
  simp only [putZ, v0, v1, v2, v3, v4, v5, hq]
  simp only [Act.put, zp1, zp2, zp3]
  clear v0 v1 v2 v3 v4 v5 hq hv
  have HT5 := Lib.hid hT
  have HB := Lib.hid hB
  have HR := Lib.hid hR
  clear hT hB hR
  refine reg_store 16 none 67 (.tmp 7) (.tmp 32) rfl rfl rfl (by kernel_rfl) (by rfl) g 67 (rcells zr) (rcells R) HB.out rfl rfl rfl (rec_size _) (rcells_one _) ?_
  intro w5 hB5 k5 z5
  have hcell : w5.cell? ⟨b2, 0, none⟩ = some (bv x) := (k5.cell (p := ⟨b2, 0, none⟩) (by show b2 < _; have := HT5.out.2.2.1; have := HT5.out.2.2.2.2.1; omega) (fun e => by have e : b2 = g := e; have := HT5.out.2.2.1; omega)).trans HT5.out.2.1
  refine ⟨hcell, fun _ => ?_⟩
  obtain ⟨A4, hG4⟩ := HT5.out.1
  have hbN := HT5.out.2.2.2.2.2
  have G5 : Hid (Gw w w1.heap.size b A4 (st (l, false) 5) w5) := Lib.hid (hG4.far k5 (fun j e => by
   have e : j = g := e
   refine ⟨fun e2 => ?_, ?_⟩
   · have := (hG4.f j e2).2; omega
   · have := (hG4.f b (.inl rfl)).1; omega))
  have HB5 := Lib.hid hB5
  have hgw : g ≠ w.heap.size := by have := (hG4.f b (.inl rfl)).1; omega
  have HGW := Lib.hid hgw
  clear hG4 hbN hcell hB5 k5 z5 HB HT5 HT0 HS0 G3 hg HC HNE HLT HMN HNe hgw
  simp only [Act.put, zp1, zp2, zp3]
  refine reg_end (by kernel_rfl) ?_
  have hend := rEnd b A4 (st (l, false) 5) w5 G5.out.i
  have hget := recGet_cons x l
  rw [← HR.out] at hget
  obtain ⟨eb, heb⟩ : ∃ eb, eb = (!(st (l, false) 5).2 && (st (l, false) 5).1.isEmpty) := ⟨_, rfl⟩
  rw [← heb] at hend hget
  have HE := Lib.hid hend
  have HGT := Lib.hid hget
  clear hend hget heb
  have hgo := cGood R w5 (by have := rd_len x (l, false); rw [← HR.out] at this; omega)
  unfold rv at hgo
  have HGO := Lib.hid hgo
  have c0 : w5.cell? ⟨g, 0, none⟩ = some (.int .i64 R.kind) := HB5.out.cell 0
  have c1 : w5.cell? ⟨g, 1, none⟩ = some (.int .i64 R.queue) := HB5.out.cell 1
  have c2' : w5.cell? ⟨g, 2, none⟩ = some (.int .i64 R.id) := HB5.out.cell 2
  have c3 : w5.cell? ⟨g, 3, none⟩ = some (.int .i64 R.num) := HB5.out.cell 3
  have c4 : w5.cell? ⟨g, 4, none⟩ = some (.int .i64 R.wait) := HB5.out.cell 4
  have c5 : w5.cell? ⟨g, 5, none⟩ = some (.string (str R.body)) := HB5.out.cell 5
  clear hgo HR G1 HL HN
  cases eb with
  | false =>
    go_wp2_with (first
     | (go_at_call 105; refine HE.out.mono ?_; rintro e w' ⟨rfl, rfl⟩)
     | (refine wpList_store_blk rfl 67 (.tmp 2) (.tmp 41) rfl _ _ (rcells zr) (rcells zr) G5.out.z rfl rfl rfl (rec_size _) (rcells_one _) ?_; intro w3 hB3 k3 z3; have HB3 := Lib.hid hB3; have HK3 := Lib.hid (G5.out.k.since k3 (fun i e => Nat.le_of_eq e.symm)); clear hB3 k3 z3))
    refine bodyPost_ret (results_rec rfl _ _ w.heap.size _ (rcells zr) d rfl HB3.out hd1 hd2 (rec_size _) _ rfl) rfl ⟨?_, HK3.out⟩
    rw [gotR, gotE, HGT.out, if_neg (by simp)]; rfl
  | true =>
    cases hgd : good R with
    | false =>
      rw [hgd] at HGO
      go_wp2_with (first
       | (go_at_call 105; refine HE.out.mono ?_; rintro e w' ⟨rfl, rfl⟩)
       | (go_at_call 63; refine HGO.out.mono ?_; rintro e w6 ⟨rfl, k6⟩; have HK6 := Lib.hid k6; clear k6)
       | (refine wpList_store_blk rfl 67 (.tmp 2) (.tmp 41) rfl _ _ (rcells zr) (rcells zr) (G5.out.z.keep HK6.out (fun e => e)) rfl rfl rfl (rec_size _) (rcells_one _) ?_; intro w3 hB3 k3 z3; have HB3 := Lib.hid hB3; have HK3 := Lib.hid ((G5.out.k.trans HK6.out (fun _ e => e.elim)).since k3 (fun i e => Nat.le_of_eq e.symm)); clear hB3 k3 z3))
      refine bodyPost_ret (results_rec rfl _ _ w.heap.size _ (rcells zr) d rfl HB3.out hd1 hd2 (rec_size _) _ rfl) rfl ⟨?_, HK3.out⟩
      rw [gotR, gotE, HGT.out, if_neg (by simp [hgd])]; rfl
    | true =>
      rw [hgd] at HGO
      go_wp2_with (first
       | (go_at_call 105; refine HE.out.mono ?_; rintro e w' ⟨rfl, rfl⟩)
       | (go_at_call 63; refine HGO.out.mono ?_; rintro e w6 ⟨rfl, k6⟩; have HK6 := Lib.hid k6; have HB6 := Lib.hid (HB5.out.keep k6 (fun e => e)); clear k6)
       | (refine wpList_load_blk rfl 67 (.tmp 7) rfl g _ (rcells R) HB6.out rfl d hd1 hd2 (rec_size _) ?_)
       | (refine wpList_store_blk rfl 67 (.tmp 2) (.tmp 42) rfl _ _ (rcells zr) (rcells R) (G5.out.z.keep HK6.out (fun e => e)) rfl rfl rfl (rec_size _) (rcells_one _) ?_; intro w3 hB3 k3 z3; have HB3 := Lib.hid hB3; have HK3 := Lib.hid ((G5.out.k.trans HK6.out (fun _ e => e.elim)).since k3 (fun i e => Nat.le_of_eq e.symm)); clear hB3 k3 z3))
      refine bodyPost_ret (results_rec rfl _ _ w.heap.size _ (rcells R) d rfl HB3.out hd1 hd2 (rec_size _) _ rfl) rfl ⟨?_, HK3.out⟩
      rw [gotR, gotE, HGT.out, if_pos (by simp [hgd])]; rfl
theorem get_any (A : Option Addr) (n c : Nat) (l : List UInt8) (w : World) (hn : l.length = n) (hl : n ≤ 1048576) (hA : A = none → c = 0) (hr : Row w A (bvs l)) :
    Calls Tryz.prog 111 #[.slice A n c] w fun e w' => e = .returned (.tuple #[rv (gotR l), .int .i64 (gotE l)]) ∧ Kp nob w w' := by
 cases l with
 | nil =>
   have e : recGet [] = none := by unfold recGet; rfl
   obtain rfl : n = 0 := by simpa using hn.symm
   have h := get_nil A c w hA
   rw [gotR, gotE, e]; exact h
 | cons x l => exact get_cons A n c x l w hn hl hA hr
end Rec
end Go.Proofs.YtigdlnfgdjfdoaaGreat
