/- Layer 15 (seg): the code's Unpack: what was packed is unpacked. -/
import Derived.Test.YtigdlnfgdjfdoaaGreatZSegO
import Derived.Test.YtigdlnfgdjfdoaaGreatZSegRd
set_option maxHeartbeats 4000000
set_option maxRecDepth 100000
set_option linter.unusedVariables false
set_option linter.unusedSimpArgs false
namespace Go.Proofs.YtigdlnfgdjfdoaaGreat
namespace Seg
open Go Go.RowKit Kit
open Rec (Rec good ftot recB recB_length good_bounds Rrow Sr SrOk)
open Ideal (Ts Thing Ans Arg Args sealT derT hashT leafT rootT zc zc_run zc_length zc_eq z32)
open Vault
theorem fold_q (ms : List UInt8) (e s : Int) (at' : List UInt8) (n : Nat) : ∀ (rs : List Rec) (q : Ts × List (Int × List UInt8)), (∀ r ∈ rs, good r = true) → (∀ p ∈ q.2, 0 ≤ p.1 ∧ p.1 ≤ 16) → ∀ p ∈ (rs.foldl (st1 ms e s at' n) q).2, 0 ≤ p.1 ∧ p.1 ≤ 16
 | [], q, hb, hq => hq
 | r :: rs, q, hb, hq => by
   have hg := good_bounds r (hb r List.mem_cons_self)
   refine fold_q ms e s at' n rs _ (fun x hx => hb x (List.mem_cons_of_mem _ hx)) (fun p hp => ?_)
   unfold st1 at hp
   rcases List.mem_append.1 hp with hp | hp
   · exact hq p hp
   · rw [List.mem_singleton.1 hp]
     exact ⟨hg.2.2.1, hg.2.2.2.1⟩
theorem stA_q (ms : List UInt8) (e s : Int) (at' : List UInt8) (n : Nat) (o : Ts) (rs : List Rec) (hb : ∀ r ∈ rs, good r = true) : ∀ p ∈ (stA ms e s at' n o rs).2, 0 ≤ p.1 ∧ p.1 ≤ 16 := by
 unfold stA
 exact fold_q ms e s at' n rs (o, []) hb (fun p hp => by cases hp)
theorem long_back {o p : Ts} (h : o.sub p) (hp : p.long) : o.long := by
 induction h with
 | refl => exact hp
 | @step p t g ih =>
   refine ih ?_
   cases p with
   | real f => exact hp
   | dream ts => trivial
theorem eq32U (xs ys : List UInt8) (hx : xs.length = 32) (hy : ys.length = 32) (w : World) : (Op.equalIn 10000 47 (.agg (bvs xs).toArray) (.agg (bvs ys).toArray)).run Tryz.prog w = .ok (xs == ys) w :=
 run_equalIn_bytes w 9998 47 5 32 rarr_under (by kernel_rfl) (fun _ => by kernel_rfl) xs ys hx hy
theorem exec_ne32U {a : Act} {o : Oper} {w : World} (i j : Operand) (u : TypeId) (l m : List UInt8) (hl : l.length = 32) (hm : m.length = 32) (ho : o.op = .binOp .neq 47 i j u) (hx : a.eval i = .agg (bvs l).toArray) (hy : a.eval j = .agg (bvs m).toArray) : (execOp a.eval o).run Tryz.prog w = .ok (.value (.bool (!decide (l = m)))) w := by
 have hg : (eqGuard .neq 47 i j (.agg (bvs l).toArray) (.agg (bvs m).toArray)).run Tryz.prog w = .ok () w := by
  unfold eqGuard; kernel_rfl
 have hn : (binOp .neq 47 (.agg (bvs l).toArray) (.agg (bvs m).toArray)).run Tryz.prog w = .ok (.bool (!decide (l = m))) w := by
  have h : (Op.equal 47 (.agg (bvs l).toArray) (.agg (bvs m).toArray)).run Tryz.prog w = .ok (l == m) w := eq32U l m hl hm w
  have hd : (l == m) = decide (l = m) := by rw [Bool.eq_iff_iff]; simp
  simp only [binOp]
  simp [h, hd, Result.andThen]
 unfold execOp
 simp only [ho, hx, hy, Sem.run_bind, hg, hn, Result.andThen_ok, Sem.run_pure]
theorem Parts.mono {w : World} {P Q : Nat → Prop} {A : Option Addr} {gs : List Pt} (h : Parts w P A gs) (hq : ∀ i, Q i → P i) : Parts w Q A gs :=
 ⟨h.row, h.far.imp id (fun e i hi hp => e i hi (hq i hp)), fun g hg => ⟨(h.arg g hg).len, (h.arg g hg).row, (h.arg g hg).far.imp id (fun e i hi hp => e i hi (hq i hp)), (h.arg g hg).cap, (h.arg g hg).mx, (h.arg g hg).nil⟩⟩
def UnpackN (pk : PackF) : Prop := ∀ (c : Vc) (x : Vt) (o : Ts) (e s : Int) (at' : List UInt8) (A : Option Addr) (n d : Nat) (b : List UInt8) (rs : List Rec) (w : World), Vx w c x → at'.length = 32 → (pk o c.ms c.lim e s at' rs).e = 0 →
 b = (pk o c.ms c.lim e s at' rs).b → (pk o c.ms c.lim e s at' rs).o.sub x.o → Arg w x.P A n d b → (-9223372036854775808 ≤ e ∧ e ≤ 9223372036854775807) → (-9223372036854775808 ≤ s ∧ s ≤ 9223372036854775807) → c.lim ≤ 9223372036854775807 → x.o.few 85000 → x.o.long →
 Calls Tryz.prog 76 #[.pointer (some ⟨c.v, 0, none⟩), .int .i64 e, .int .i64 s, .agg (bvs at').toArray, .slice A n d] w fun r w' => ∃ (F2 P2 : Nat → Prop) (X : Option Addr) (cX : Nat),
  r = .returned (.tuple #[.slice X rs.length cX, .agg (bvs (pk o c.ms c.lim e s at' rs).h).toArray, .int .i64 0]) ∧ Vq w c x w' ⟨F2, P2, x.o, x.sl, x.cl⟩ ∧ SrOk w' ⟨X, rs.length, cX, rs⟩ ∧ ∀ i, ab X = some i → w.heap.size ≤ i
theorem unpack_n : UnpackN pk := by
 intro c x o e s at' A n d b rs w hx h32 hpe hb hsub harg he hs hlim hf hlo
 rw [pk_shape.err] at hpe
 obtain ⟨hne, hgood, hft, he0, hs0, he1, hs1⟩ := perr_ok hpe
 have hE : perrs c.lim e s 0 48 rs = 0 := by rw [perr, if_neg hne] at hpe; exact hpe
 obtain ⟨sA, hsA⟩ : ∃ sA, sA = stA c.ms e s at' rs.length o rs := ⟨_, rfl⟩
 have hpk := pk_yes o c.ms c.lim e s at' rs hne hE
 rw [← hsA] at hpk
 have hb2 : b = frB (ftot rs) sA.2 (rtA sA.1 (sA.2.map (·.2))).1 := by rw [hb, hpk, hdA_b]
 have hss : (rtA sA.1 (sA.2.map (·.2))).2.sub x.o ∧ (rtA sA.1 (sA.2.map (·.2))).2.sub ((rtA sA.1 (sA.2.map (·.2))).2.nx (hashT (at' ++ b))) ∧ ((rtA sA.1 (sA.2.map (·.2))).2.nx (hashT (at' ++ b))).sub x.o := by
  rw [hpk, hdA_o, ← hb2] at hsub
  exact ⟨(Ts.sub_nx _ _).trans hsub, Ts.sub_nx _ _, hsub⟩
 have hsAs : sA.1.sub x.o := (rtA_sub _ _).trans hss.1
 have hlo2 : o.long := by
  refine long_back (?_ : o.sub x.o) hlo
  rw [hsA] at hsAs
  exact (stA_from c.ms e s at' rs.length o rs).trans hsAs
 have hbl : b.length = ftot rs := by
  obtain ⟨rest, h1, h2⟩ := pk_shape.begins o c.ms c.lim e s at' rs hlo2 (by rw [pk_shape.err]; exact hpe)
  rw [hb, h1, List.length_append, num8_length]; omega
 have hpl : sA.2.length = rs.length := by rw [hsA]; exact stA_length ..
 have hf48 : 48 ≤ ftot rs := by unfold ftot; omega
 have hrsn : 1 ≤ rs.length := by
  cases rs with
  | nil => exact absurd rfl hne
  | cons r rs => simp
 have hfew260 := few_of rs hft
 have hlens := stA_lens c.ms e s at' rs.length o rs hlo2 hgood
 have hqs := stA_q c.ms e s at' rs.length o rs hgood
 rw [← hsA] at hlens hqs
 obtain ⟨root, hroot⟩ : ∃ root, root = (rtA sA.1 (sA.2.map (·.2))).1 := ⟨_, rfl⟩
 have hrl : root.length = 32 := by rw [hroot]; exact rtA_length _ _ (long_back hsAs hlo)
 have hfr : Fr sA.2 root b := ⟨by rw [hbl, hroot]; exact hb2, hrl, by omega, by omega, fun p hp => ⟨hqs p hp, hlens p hp⟩⟩
 have hra := rtA_again sA.1 x.o (sA.2.map (·.2)) hss.1
 rw [← hroot] at hra
 obtain ⟨D, hD⟩ : ∃ D, D = (pk o c.ms c.lim e s at' rs).h := ⟨_, rfl⟩
 have hag := Ts.again hss.2.2 32
 have hD2 : D = x.o.val (hashT (at' ++ b)) 32 := by rw [hD, hpk, hdA_h, ← hb2]; exact hag.1.symm
 have hDl : D.length = 32 := by rw [hD2]; exact hlo.len _ (.inl rfl)
 rw [← hD]
 have HFR := Lib.hid hfr
 have HPU := Lib.hid (And.intro hrl (And.intro hra (And.intro hD2 (And.intro hDl (And.intro hag.2 hpl)))))
 have HSA := Lib.hid (And.intro hsA hsAs)
 have HGD := Lib.hid hgood
 have HRG := Lib.hid (And.intro he0 (And.intro he1 (And.intro hs0 (And.intro hs1 (And.intro hrsn hfew260)))))
 have HF := Lib.hid (And.intro hf (And.intro hlo hlim))
 have HX := Lib.hid hx
 have HAR := Lib.hid harg
 have H32 := Lib.hid h32
 have HBL := Lib.hid (And.intro hbl hft)
 clear hpk hb2 hss hsAs hlo2 hbl hpl hf48 hrsn hfew260 hlens hqs hroot hrl hfr hra hD hag hD2 hDl hsA hpe hne hgood hft he0 hs0 he1 hs1 hE hb hsub hf hlo hlim hx harg h32 he hs
 have hz := zc_run
 have k0 : Kp nob w ((w.alloc (.cells (bvs at').toArray 47)).alloc (.cells zc.toArray 47)) := ((Kp.refl nob w).alloc _).alloc _
 have HB1 := Lib.hid ((Blk.new w 47 (bvs at')).alloc (.cells zc.toArray 47))
 have HB2 := Lib.hid (show Blk ((w.alloc (.cells (bvs at').toArray 47)).alloc (.cells zc.toArray 47)) (w.heap.size + 1) 47 zc from Blk.new' (by simp) rfl)
 have HK := Lib.hid k0
 have hsz2 : ((w.alloc (.cells (bvs at').toArray 47)).alloc (.cells zc.toArray 47)).heap.size = w.heap.size + 2 := by simp
 have HS2 := Lib.hid hsz2
 have HRE := Lib.hid (read_c sA.2 root b HFR.out A n d _ HAR.out.len (HAR.out.row.keep0 k0) HAR.out.nil HAR.out.cap HAR.out.mx)
 obtain ⟨N, hN⟩ : ∃ N, N = rs.length := ⟨_, rfl⟩
 rw [← hN]
 have HN := Lib.hid hN
 clear k0 hsz2 hN
 go_enter Tryz.func76, Tryz.ntmps76
 go_wp2_with fail
 refine HRE.out.mono ?_
 rintro r w2 ⟨X, cX, gs, rfl, htw, hpt, k2⟩
 have hgl : gs.length = N := by
  have h1 := congrArg List.length htw
  rw [List.length_map, HPU.out.2.2.2.2.2, ← HN.out] at h1; exact h1
 have hmap : gs.map (·.b) = sA.2.map (·.2) := by rw [← htw, List.map_map]; rfl
 have HPT := Lib.hid (hpt.mono (Q := x.P) (fun i e => by have := HX.out.lt i e; have := HS2.out; omega))
 have HGS := Lib.hid (And.intro htw (And.intro hgl hmap))
 have HK2 := Lib.hid (HK.out.trans k2 (fun _ e => e.elim))
 have HB12 := Lib.hid (HB1.out.keep k2 (fun e => e))
 have HB22 := Lib.hid (HB2.out.keep k2 (fun e => e))
 have HPL := Lib.hid HPU.out.2.2.2.2.2
 have hps : sA.2.length = N := by rw [HPU.out.2.2.2.2.2, HN.out]
 rw [hps]
 have HB5 := Lib.hid (Blk.new w2 47 zc)
 clear htw hpt k2 hgl hmap hps
 go_wp2_with (first
  | (refine wpList_store_blk rfl 47 (.tmp 14) (.tmp 22) rfl _ _ _ (bvs root) HB5.out rfl rfl (by rw [bvs_length, HPU.out.1, zc_length]) (rarr_size root HPU.out.1) (bvs_one _) ?_; intro w3 hB3 k3 z3)
  | fail)
 have hxw2 : Vx w2 c x := HX.out.keep0 HK2.out
 have hv23 : Vq w2 c x w3.drew x := (((Vq.refl hxw2).over0 ((Kp.refl nob w2).alloc (.cells zc.toArray 47))).over k3 (fun i _ e => by
  have e : i = w2.heap.size := e
  exact ⟨by omega, fun e2 => by have := hxw2.lt i e2; omega⟩) hxw2.sz).over0 (Kp.refl nob w3).drew
 have HV3 := Lib.hid (hv23.back HK2.out)
 have HPT3 := Lib.hid (Parts.call hv23 HPT.out)
 have HR3 := Lib.hid (hB3.keep (Kp.refl nob w3).drew (fun e => e))
 have hn0 : ¬ x.P w.heap.size := fun e => by have := HX.out.lt _ e; omega
 have hn1 : ¬ x.P (w.heap.size + 1) := fun e => by have := HX.out.lt _ e; omega
 have HB13 := Lib.hid (hv23.blk HB12.out hn0)
 have HB23 := Lib.hid (hv23.blk HB22.out hn1)
 have hgb : ∀ g ∈ gs, g.b.length ≤ 1048000 := fun g hg => Nat.le_trans (HFR.out.ok g.two (by rw [← HGS.out.1]; exact List.mem_map_of_mem hg)).2 (by omega)
 have hro := rootOf_c c x X N cX gs w3.drew HV3.out.now HPT3.out HGS.out.2.1 (by have := HRG.out; have := HN.out; omega) (HF.out.1.mono (by omega)) HF.out.2.1 hgb
 rw [HGS.out.2.2, HPU.out.2.1] at hro
 have HRO := Lib.hid hro
 have HN01 := Lib.hid (And.intro hn0 hn1)
 clear hro hgb hv23 hxw2 k3 z3 hn0 hn1
 refine reg_begin (fun w' => Blk w' w2.heap.size 47 (bvs root)) (by kernel_rfl) HR3.out (fun hS0 => ?_)
 refine reg_tk (v := .bool true) 0 24 rfl rfl (by kernel_rfl) (by rfl) hS0 (fun w' hw => by go_simp) ?_; simp only [Act.put, zp1, zp2, zp3]
 refine reg_tk (v := .bool false) 1 25 rfl rfl (by kernel_rfl) (by rfl) hS0 (fun w' hw => by go_simp) ?_; simp only [Act.put, zp1, zp2, zp3]
 refine reg_tk (v := .bool false) 2 26 rfl rfl (by kernel_rfl) (by rfl) hS0 (fun w' hw => by go_simp) ?_; simp only [Act.put, zp1, zp2, zp3]
 refine reg_tk (v := .pointer (some ⟨c.v, 0, none⟩)) 3 27 rfl rfl (by kernel_rfl) (by rfl) hS0 (fun w' hw => by go_simp) ?_; simp only [Act.put, zp1, zp2, zp3]
 refine reg_tk (v := .slice X N cX) 4 28 rfl rfl (by kernel_rfl) (by rfl) hS0 (fun w' hw => by go_simp) ?_; simp only [Act.put, zp1, zp2, zp3]
 refine reg_load 6 (some 30) 47 (.tmp 14) rfl rfl rfl (by kernel_rfl) (by kernel_rfl) (by kernel_rfl) (by rfl) hS0 w2.heap.size 0 rfl (bvs root) _ (fun w hw => hw.range) rarr_under rfl (rarr_size root HPU.out.1) ?_; simp only [Act.put, zp1, zp2, zp3]
 refine reg_call 5 (some 29) rfl rfl (by kernel_rfl) (by rfl) _ _ (exec_func 88 _ _ [.pointer (some ⟨c.v, 0, none⟩), .slice X N cX] rfl (by kernel_rfl) rfl) ?_
 refine HRO.out.mono ?_
 rintro r w4 ⟨F4, P4, rfl, q4⟩
 have hS4 : Blk w4 w2.heap.size 47 (bvs root) := q4.blk hS0 (fun e => by have := HX.out.lt _ e; have := HK2.out.size; omega)
 have HQ4 := Lib.hid (HV3.out.trans q4)
 have HPT4 := Lib.hid (Parts.call q4 HPT3.out)
 have HB14 := Lib.hid (q4.blk HB13.out HN01.out.1)
 have HB24 := Lib.hid (q4.blk HB23.out HN01.out.2)
 have HN4 := Lib.hid (And.intro (q4.old HN01.out.1 HB13.out.lt) (q4.old HN01.out.2 HB23.out.lt))
 clear q4
 refine ⟨_, rfl, hS4, fun _ => ?_⟩
 simp only [Act.put, zp1, zp2, zp3]
 refine reg_tk (v := .bool false) 7 31 rfl rfl (by kernel_rfl) (by rfl) hS4 (fun w' hw => by rw [exec_ne32U (.tmp 29) (.tmp 30) _ root root HPU.out.1 HPU.out.1 rfl rfl rfl, decide_eq_true rfl]; rfl) ?_; simp only [Act.put, zp1, zp2, zp3]
 refine reg_tk (v := .bool false) 8 32 rfl rfl (by kernel_rfl) (by rfl) hS4 (fun w' hw => by go_simp) ?_; simp only [Act.put, zp1, zp2, zp3]
 refine reg_end (by kernel_rfl) ?_
 have HOP := Lib.hid (opened_c c ⟨F4, P4, x.o, x.sl, x.cl⟩ o e s at' rs X N cX gs w4 HQ4.out.now H32.out HPT4.out HN.out.symm (by have := HRG.out; have := HN.out; omega) (by rw [HGS.out.1, HSA.out.1]) (by rw [← HSA.out.1]; exact HSA.out.2) HGD.out ⟨HRG.out.1, HRG.out.2.1⟩ ⟨HRG.out.2.2.1, by rw [HN.out]; exact HRG.out.2.2.2.1⟩ HF.out.2.2 (HF.out.1.mono (by omega)) HF.out.2.1)
 clear hS4 hS0 HRO
 go_wp2_with (first
  | (refine wpList_load_blk rfl 47 (.tmp 8) rfl _ _ _ HB14.out rfl _ rarr_under rfl (rarr_size at' H32.out) ?_)
  | (go_at_call 89; refine HOP.out.mono ?_; rintro r w5 ⟨x5, L, cl, rfl, hol⟩; have HOL := Lib.hid hol; have HB15 := Lib.hid (hol.q.blk HB14.out HN4.out.1); have HB25 := Lib.hid (hol.q.blk HB24.out HN4.out.2); have HN5 := Lib.hid (hol.q.old HN4.out.2 HB24.out.lt); clear hol)
  | (refine wpList_load_blk rfl 47 (.tmp 8) rfl _ _ _ HB15.out rfl _ rarr_under rfl (rarr_size at' H32.out) ?_)
  | fail)
 have HQ5 := Lib.hid (HQ4.out.trans HOL.out.q)
 have hbe := behind_c c x5 at' A n d b w5 HOL.out.q.now H32.out (HQ5.out.arg HAR.out) (by rw [HOL.out.o_]; exact HF.out.1.mono (by omega)) (by have := HBL.out; omega) (by rw [HOL.out.o_]; exact HF.out.2.1)
 rw [HOL.out.o_] at hbe
 dsimp only at hbe
 rw [← HPU.out.2.2.1] at hbe
 refine hbe.mono ?_
 rintro r w6 ⟨F6, P6, rfl, q6⟩
 have HQ6 := Lib.hid (HQ5.out.trans q6)
 have HB26 := Lib.hid (q6.blk HB25.out HN5.out)
 have HN6 := Lib.hid (q6.old HN5.out HB25.out.lt)
 have hrow6 : Rrow w6 L rs := by
  have h1 := HOL.out.own.row
  rw [List.take_of_length_le (by rw [← HN.out]; exact Nat.le_refl _)] at h1
  exact Row.keep h1 q6.kp (fun i e => (HOL.out.lf i e).2)
 have HS6 : Hid (w5.heap.size ≤ w6.heap.size) := Lib.hid q6.kp.size
 have HR6 := Lib.hid hrow6
 clear hbe q6 hrow6
 go_wp2_with (first
  | (refine wpList_store_blk rfl 47 (.tmp 11) (.tmp 51) rfl _ _ _ (bvs D) HB26.out rfl rfl (by rw [bvs_length, HPU.out.2.2.2.1, zc_length]) (rarr_size D HPU.out.2.2.2.1) (bvs_one _) ?_; intro w7 hB7 k7 z7)
  | fail)
 have HB7 := Lib.hid hB7
 have HQ7 : Hid (Vq w c x w7 ⟨F6, P6, x.o, x.sl, x.cl⟩) := Lib.hid (Vq.over (x2 := ⟨F6, P6, x.o, x.sl, x.cl⟩) (by have h := HQ6.out; have h1 : x5.sl = x.sl := HOL.out.s_.1; have h2 : x5.cl = x.cl := HOL.out.s_.2; rw [HPU.out.2.2.2.2.1, h1, h2] at h; exact h) k7 (fun i _ e => by have e : i = w.heap.size + 1 := e; subst e; exact ⟨by omega, HN6.out⟩) HX.out.sz)
 have HSR : Hid (SrOk w7 ⟨L, N, cl, rs⟩) := Lib.hid (by
  have hcap := HOL.out.own.cap
  refine ⟨HN.out.symm, Row.keep HR6.out k7 (fun i e e2 => ?_), hcap.1, hcap.2, OwnZ.none_ HOL.out.own, fun i e => ?_⟩
  · have e2 : i = w.heap.size + 1 := e2
    have h1 := (HOL.out.lf i e).1
    have h2 := HB24.out.lt
    omega
  · have h1 := HOL.out.own.lt i e
    have h2 := k7.size
    have h3 := HS6.out
    omega)
 clear hB7 k7 z7
 go_wp2
 exact bodyPost_ret (results_mid rfl _ _ (w.heap.size + 1) _ _ _ rfl HB7.out rarr_under rfl (rarr_size D HPU.out.2.2.2.1) _ _ rfl rfl) rfl ⟨F6, P6, L, cl, rfl, HQ7.out, HSR.out, fun i e => by have h1 := (HOL.out.lf i e).1; have h2 := HQ4.out.kp.size; omega⟩
end Seg
end Go.Proofs.YtigdlnfgdjfdoaaGreat
