/- Layer 15 (seg): the code's opened: the records of what was packed. -/
import Derived.Test.YtigdlnfgdjfdoaaGreatZRecH
set_option maxHeartbeats 4000000
set_option maxRecDepth 100000
set_option linter.unusedVariables false
set_option linter.unusedSimpArgs false
namespace Go.Proofs.YtigdlnfgdjfdoaaGreat
namespace Seg
open Go Go.RowKit Kit
open Rec (Rec good ftot recB recB_length good_bounds Rrow Sr SrOk rcells rcells_one rv rec_under rec_size rec_info recs_und exec_recOne get_any gotR gotE recGet_recB)
open Ideal (Ts Thing Ans Arg Args sealT derT hashT leafT rootT)
open Vault
structure OL (w : World) (c : Vc) (x : Vt) (at' : List UInt8) (rs : List Rec) (k : Nat) (wr : World) (x2 : Vt) (L : Option Addr) (cl : Nat) : Prop where
 q : Vq w c x wr x2
 o_ : x2.o = x.o
 s_ : x2.sl = x.sl ∧ x2.cl = x.cl
 own : OwnK 6 67 wr L k cl ((rs.take k).flatMap rcells)
 lf : ∀ i, ab L = some i → w.heap.size < i ∧ ¬ x2.P i
 at_ : Blk wr w.heap.size 47 (bvs at')
 af : ¬ x2.P w.heap.size
theorem OL.more {w wr w3 w4 w5 w6 : World} {c : Vc} {x x2 x4 : Vt} {at' : List UInt8} {rs : List Rec} {k : Nat} {L L2 : Option Addr} {cl cl2 : Nat} (h : OL w c x at' rs k wr x2 L cl) (hv : Vx w c x) (hk : k < rs.length)
    (k3 : Kp nob wr w3) (q4 : Vq w3 c x2 w4 x4) (ho4 : x4.o = x.o) (hs4 : x4.sl = x.sl ∧ x4.cl = x.cl) (k5 : Kp nob w4 w5) (ho : OwnK 6 67 w6 L2 (k + 1) cl2 ((rs.take k).flatMap rcells ++ rcells rs[k])) (hg : Kp (rowF L) w5 w6) (hz : ab L2 = ab L ∨ ab L2 = some w5.heap.size) :
    OL w c x at' rs (k + 1) w6 x4 L2 cl2 := by
 have s1 := h.q.kp.size
 have s3 := k3.size
 have s4 := q4.kp.size
 have s5 := k5.size
 have hlP : ∀ i, ab L = some i → ¬ x4.P i := fun i e => q4.old (h.lf i e).2 (by have := h.own.lt i e; omega)
 have hal := h.at_.lt
 refine ⟨(((h.q.over0 k3).trans q4).over0 k5).over hg (fun i _ e => ⟨by have := (h.lf i e).1; omega, hlP i e⟩) hv.sz, ho4, hs4, ?_, fun i e => ?_, ?_, q4.old h.af (by omega)⟩
 · rw [List.take_add_one, List.getElem?_eq_getElem hk, List.flatMap_append]
   simpa using ho
 · rcases hz with e2 | e2
   · rw [e2] at e; exact ⟨(h.lf i e).1, hlP i e⟩
   · rw [e2] at e; cases e
     exact ⟨by omega, fun e3 => by have := q4.now.lt _ e3; omega⟩
 · exact ((q4.blk (h.at_.keep k3 (fun e => e)) h.af).keep k5 (fun e => e)).keep hg (fun e => Nat.lt_irrefl _ (h.lf _ e).1)
theorem got_yes (r : Rec) (h : good r = true) : gotR (recB r) = r ∧ gotE (recB r) = 0 := by
 unfold gotR gotE; rw [recGet_recB r h]; exact ⟨rfl, rfl⟩
theorem opened_c (c : Vc) (x : Vt) (o : Ts) (e s : Int) (at' : List UInt8) (rs : List Rec) (A : Option Addr) (m d : Nat) (gs : List Pt) (w : World) (hx : Vx w c x) (h32 : at'.length = 32) (hp : Parts w x.P A gs) (hm : rs.length = m) (hm2 : m ≤ 1000)
    (htw : gs.map Pt.two = (stA c.ms e s at' rs.length o rs).2) (hsub : (stA c.ms e s at' rs.length o rs).1.sub x.o) (hgd : ∀ r ∈ rs, good r = true) (hef : 0 ≤ e ∧ e < 4294967296) (hsf : 0 ≤ s ∧ s + (m : Nat) ≤ c.lim) (hlim : c.lim ≤ 9223372036854775807) (hf : x.o.few 85000) (hlo : x.o.long) :
    Calls Tryz.prog 89 #[.pointer (some ⟨c.v, 0, none⟩), .int .i64 e, .int .i64 s, .agg (bvs at').toArray, .slice A m d] w fun r w' => ∃ (x2 : Vt) (L : Option Addr) (cl : Nat), r = .returned (.tuple #[.slice L m cl, .int .i64 0]) ∧ OL w c x at' rs m w' x2 L cl := by
 have HB := Lib.hid (Blk.new w 47 (bvs at'))
 have HK := Lib.hid ((Kp.refl nob w).alloc (.cells (bvs at').toArray 47))
 have HX := Lib.hid hx
 have H32 := Lib.hid h32
 have HP := Lib.hid hp
 have HM := Lib.hid (And.intro hm hm2)
 have hgl : gs.length = m := by
  have h1 := congrArg List.length htw
  rw [List.length_map, stA_length, hm] at h1; exact h1
 have HGL := Lib.hid hgl
 have HTW := Lib.hid htw
 have HSB := Lib.hid hsub
 have HGD := Lib.hid hgd
 have HES := Lib.hid (And.intro hef (And.intro hsf hlim))
 have HF := Lib.hid (And.intro hf hlo)
 clear hx h32 hp hm hm2 htw hsub hgd hef hsf hlim hf hlo hgl
 go_enter Tryz.func89, Tryz.ntmps89
 go_wp2
 go_loopw [12, 20] (fun ls i wr => ∃ k : Nat, k ≤ m ∧ i = .int .i64 k ∧ ∃ (x2 : Vt) (L : Option Addr) (cl : Nat), ls = .slice L k cl ∧ OL w c x at' rs k wr x2 L cl)
  (fun _ i _ => m - (intOf i).toNat)
 case atStart =>
  refine ⟨0, Nat.zero_le _, rfl, x, none, 0, rfl, (Vq.refl HX.out).over0 HK.out, rfl, ⟨rfl, rfl⟩, ?_, fun i e => (by cases e), HB.out, fun e => (by have := HX.out.lt _ e; omega)⟩
  rw [List.take_zero]; exact OwnK.nil 6 _ _
 case round =>
  obtain ⟨k, hk, rfl, x2, L, cl, rfl, hol⟩ := hrel
  have HOL := Lib.hid hol
  clear hol
  by_cases hlt : k < m
  · have hkr : k < rs.length := by rw [HM.out.1]; exact hlt
    have hkg : k < gs.length := by rw [HGL.out]; exact hlt
    have hpr := Parts.call HOL.out.q HP.out
    obtain ⟨bb, oo, rfl, hbb, hc0, hc1⟩ := hpr.at_ (i := k) hkg
    have harg := hpr.arg gs[k] (List.getElem_mem hkg)
    obtain ⟨kn1, kn2, kn3⟩ := stA_known c.ms e s at' rs.length o x.o rs k hkr HSB.out
    rw [← HTW.out, List.getElem?_map, List.getElem?_eq_getElem hkg] at kn3
    have hgood := HGD.out rs[k] (List.getElem_mem hkr)
    obtain ⟨r, hre⟩ : ∃ r, r = rs[k]'hkr := ⟨_, rfl⟩
    obtain ⟨g, hge⟩ : ∃ g, g = gs[k]'hkg := ⟨_, rfl⟩
    rw [← hre] at kn1 kn2 kn3 hgood
    rw [← hge] at kn3 hc0 hc1 harg
    have hg2 : g.q = r.queue ∧ g.b = x.o.val (sealT (x.o.val (keyT c.ms r.queue) 32) (nonce e (s + (k : Nat))) (besT at' k rs.length) (recB r)) ((recB r).length + 16) := by
     have := Option.some.inj kn3
     exact ⟨congrArg Prod.fst this, congrArg Prod.snd this⟩
    rw [hg2.1] at hc0
    have HKN := Lib.hid (And.intro kn1 (And.intro kn2 hg2.2))
    have HRE := Lib.hid hre
    have HGO := Lib.hid hgood
    have HAR := Lib.hid harg
    have HBA := Lib.hid (Blk.new wr 188 [.int .i64 r.queue, .slice g.X g.b.length g.c])
    have HKA := Lib.hid ((Kp.refl nob wr).alloc (.cells #[.int .i64 r.queue, .slice g.X g.b.length g.c] 188))
    have HAD : Hid (IntKind.i64.wrap (s + (k : Int)) = s + (k : Int)) := Lib.hid (by have := HES.out; rw [IntWalk.i64_in _ (by omega)])
    have HN1 : Hid (¬ x2.P wr.heap.size) := Lib.hid (fun e => by have := HOL.out.q.now.lt _ e; omega)
    have hrf : refu c.lim e (s + (k : Int)) = 0 := by
     have := HES.out
     unfold refu; rw [if_neg (by omega), if_neg (by omega)]
    have HRF := Lib.hid hrf
    clear kn1 kn2 kn3 hg2 hre hge hgood harg hpr hrf
    go_wp2
    have HKd := Lib.hid (HKA.out.drew)
    refine reg_begin (fun w' => Blk w' wr.heap.size 188 [.int .i64 r.queue, .slice g.X g.b.length g.c] ∧ Blk w' w.heap.size 47 (bvs at')) (by kernel_rfl) ⟨HBA.out.keep (Kp.refl nob _).drew (fun e => e), HOL.out.at_.keep HKd.out (fun e => e)⟩ (fun hS0 => ?_)
    refine reg_tk (v := .pointer (some ⟨c.v, 0, none⟩)) 0 26 rfl rfl (by kernel_rfl) (by rfl) hS0 (fun w' hw => by go_simp) ?_; simp only [Act.put, zp1, zp2, zp3]
    refine reg_tk (v := .pointer (some ⟨c.v, 0, none⟩)) 1 27 rfl rfl (by kernel_rfl) (by rfl) hS0 (fun w' hw => by go_simp) ?_; simp only [Act.put, zp1, zp2, zp3]
    refine reg_tk (v := .pointer (some ⟨wr.heap.size, 0, none⟩)) 2 28 rfl rfl (by kernel_rfl) (by rfl) hS0 (fun w' hw => by go_simp) ?_; simp only [Act.put, zp1, zp2, zp3]
    refine reg_tk (v := .int .i64 r.queue) 3 29 rfl rfl (by kernel_rfl) (by rfl) hS0 (fun w' hw => by have hc : w'.cell? ⟨wr.heap.size, 0, none⟩ = some (.int .i64 r.queue) := hw.1.cell 0; go_simp) ?_; simp only [Act.put, zp1, zp2, zp3]
    refine reg_tk (v := .int .i64 e) 5 31 rfl rfl (by kernel_rfl) (by rfl) hS0 (fun w' hw => by go_simp) ?_; simp only [Act.put, zp1, zp2, zp3]
    refine reg_tk (v := .int .i64 s) 6 32 rfl rfl (by kernel_rfl) (by rfl) hS0 (fun w' hw => by go_simp) ?_; simp only [Act.put, zp1, zp2, zp3]
    refine reg_tk (v := .int .i64 (k : Nat)) 7 33 rfl rfl (by kernel_rfl) (by rfl) hS0 (fun w' hw => by go_simp) ?_; simp only [Act.put, zp1, zp2, zp3]
    refine reg_tk (v := .int .i64 (s + (k : Nat))) 8 34 rfl rfl (by kernel_rfl) (by rfl) hS0 (fun w' hw => by have hc := HAD.out; go_simp) ?_; simp only [Act.put, zp1, zp2, zp3]
    refine reg_tk (v := .pointer (some ⟨wr.heap.size, 1, none⟩)) 9 35 rfl rfl (by kernel_rfl) (by rfl) hS0 (fun w' hw => by go_simp) ?_; simp only [Act.put, zp1, zp2, zp3]
    refine reg_tk (v := .slice g.X g.b.length g.c) 10 36 rfl rfl (by kernel_rfl) (by rfl) hS0 (fun w' hw => by have hc : w'.cell? ⟨wr.heap.size, 1, none⟩ = some (.slice g.X g.b.length g.c) := hw.1.cell 1; go_simp) ?_; simp only [Act.put, zp1, zp2, zp3]
    refine reg_load 11 (some 37) 47 (.tmp 8) rfl rfl rfl (by kernel_rfl) (by kernel_rfl) (by kernel_rfl) (by rfl) hS0 w.heap.size 0 rfl (bvs at') _ (fun w' hw => hw.2.range) rarr_under rfl (rarr_size at' H32.out) ?_; simp only [Act.put, zp1, zp2, zp3]
    refine reg_tk (v := .int .i64 (k : Nat)) 12 38 rfl rfl (by kernel_rfl) (by rfl) hS0 (fun w' hw => by go_simp) ?_; simp only [Act.put, zp1, zp2, zp3]
    refine reg_tk (v := .slice (some ⟨bb, oo, none⟩) m d) 13 39 rfl rfl (by kernel_rfl) (by rfl) hS0 (fun w' hw => by go_simp) ?_; simp only [Act.put, zp1, zp2, zp3]
    refine reg_tk (v := .int .i64 (m : Nat)) 14 40 rfl rfl (by kernel_rfl) (by rfl) hS0 (fun w' hw => by go_simp) ?_; simp only [Act.put, zp1, zp2, zp3]
    have HVd : Hid (Vx (wr.alloc (.cells #[.int .i64 r.queue, .slice g.X g.b.length g.c] 188)).drew c x2) := Lib.hid (HOL.out.q.now.keep0 HKd.out)
    have hfew : x2.o.few 85000 := by rw [HOL.out.o_]; exact HF.out.1
    have hlong : x2.o.long := by rw [HOL.out.o_]; exact HF.out.2
    have HFL := Lib.hid (And.intro hfew hlong)
    have HAd := Lib.hid (HAR.out.keep0 HKd.out)
    refine reg_keyBes 4 15 16 30 41 42 _ _ _ _ _ 23 c x2 r.queue at' k m HVd.out (hfew.mono (by omega)) hlong H32.out rfl rfl rfl (by kernel_rfl) (by kernel_rfl) (by kernel_rfl) (by kernel_rfl) rfl (by kernel_rfl) (by kernel_rfl)
     (fun w' hk => ⟨hS0.1.keep hk HN1.out, hS0.2.keep hk HOL.out.af⟩) ?hk ?hb ?hs ?hfin
    case hk =>
     intro op a w' ho e0
     obtain rfl := oper_is ho rfl
     have h1 : a.eval (.tmp 27) = .pointer (some ⟨c.v, 0, none⟩) := e0 27 (by kernel_rfl)
     have h2 : a.eval (.tmp 29) = .int .i64 r.queue := e0 29 (by kernel_rfl)
     exact exec_func 109 _ _ [.pointer (some ⟨c.v, 0, none⟩), .int .i64 r.queue] rfl (by kernel_rfl) (by show [a.eval (.tmp 27), a.eval (.tmp 29)] = _; rw [h1, h2])
    case hb =>
     intro op a w' ho e0
     obtain rfl := oper_is ho rfl
     have h1 : a.eval (.tmp 37) = .agg (bvs at').toArray := e0 37 (by kernel_rfl)
     have h2 : a.eval (.tmp 38) = .int .i64 (k : Nat) := e0 38 (by kernel_rfl)
     have h3 : a.eval (.tmp 40) = .int .i64 (m : Nat) := e0 40 (by kernel_rfl)
     exact exec_func 110 _ _ [.agg (bvs at').toArray, .int .i64 (k : Nat), .int .i64 (m : Nat)] rfl (by kernel_rfl) (by show [a.eval (.tmp 37), a.eval (.tmp 38), a.eval (.tmp 40)] = _; rw [h1, h2, h3])
    case hs => intro op ho; obtain rfl := oper_is ho rfl; rfl
    case hfin =>
     intro F2 P2 w4 A6 c6 ga hq hargs
     simp only [Act.put, zp1, zp2, zp3]
     have hnx : x2.o.nx (keyT c.ms r.queue) = x.o := by rw [HOL.out.o_]; exact HKN.out.1
     rw [hnx] at hq
     obtain ⟨key, hkey⟩ : ∃ key, key = x2.o.val (keyT c.ms r.queue) 32 := ⟨_, rfl⟩
     have hkl : key.length = 32 := by rw [hkey]; exact HFL.out.2.len _ (.inr (.inr rfl))
     rw [← hkey]
     rw [HOL.out.o_] at hkey
     have hS4 : Blk w4 wr.heap.size 188 [.int .i64 r.queue, .slice g.X g.b.length g.c] ∧ Blk w4 w.heap.size 47 (bvs at') := ⟨hS0.1.keep hq.kp HN1.out, hS0.2.keep hq.kp HOL.out.af⟩
     have hrl := recB_length r (by have := good_bounds r HGO.out; omega)
     have hcat : Sha.catP [⟨A6, 48, c6, besT at' k m⟩] = besT at' k m := by simp [Sha.catP]
     have hop := open_v c ⟨F2, P2, x.o, x2.sl, x2.cl⟩ key hkl e (s + (k : Int)) g.X g.b.length g.c g.b (recB r) (some ⟨ga, 0, none⟩) 1 1 _ w4 hq.now (hq.arg HAd.out) hargs (HF.out.1.mono (by omega)) (by rw [hrl]; have := good_bounds r HGO.out; omega) (by rw [hcat, bes_length _ _ _ H32.out]; omega) HRF.out (by rw [hcat, hkey, ← HM.out.1]; exact HKN.out.2.2) (by rw [hcat, hkey, ← HM.out.1]; exact HKN.out.2.1)
     rw [hrl] at hop
     have HQ4 := Lib.hid hq
     have HRL := Lib.hid hrl
     clear hq hargs hnx hkey hkl hcat hrl
     refine reg_call 17 (some 43) rfl rfl (by kernel_rfl) (by rfl) _ _ (exec_func 108 _ _ [.pointer (some ⟨c.v, 0, none⟩), .agg (bvs key).toArray, .int .i64 e, .int .i64 (s + (k : Nat)), .slice g.X g.b.length g.c, .slice (some ⟨ga, 0, none⟩) 1 1] rfl (by kernel_rfl) rfl) ?_
     refine hop.mono ?_
     rintro rr w5 ⟨X5, c5, rfl, hrow5, k5, hn5⟩
     have hS5 : Blk w5 wr.heap.size 188 [.int .i64 r.queue, .slice g.X g.b.length g.c] ∧ Blk w5 w.heap.size 47 (bvs at') := ⟨hS4.1.keep k5 (fun e => e), hS4.2.keep k5 (fun e => e)⟩
     have HQ5 := Lib.hid (HQ4.out.over0 k5)
     have HR5 := Lib.hid hrow5
     have HK45 := Lib.hid k5
     clear k5 hrow5 hn5 hop
     refine ⟨_, rfl, hS5, fun _ => ?_⟩
     simp only [Act.put, zp1, zp2, zp3]
     refine reg_tk (v := .tuple #[.slice X5 (36 + r.body.length) c5, .int .i64 0]) 18 25 rfl rfl (by kernel_rfl) (by rfl) hS5 (fun w' hw => by go_simp) ?_; simp only [Act.put, zp1, zp2, zp3]
     refine reg_tk (v := .slice X5 (36 + r.body.length) c5) 19 44 rfl rfl (by kernel_rfl) (by rfl) hS5 (fun w' hw => by go_simp) ?_; simp only [Act.put, zp1, zp2, zp3]
     refine reg_tk (v := .int .i64 0) 20 45 rfl rfl (by kernel_rfl) (by rfl) hS5 (fun w' hw => by go_simp) ?_; simp only [Act.put, zp1, zp2, zp3]
     refine reg_tk (v := .slice X5 (36 + r.body.length) c5) 21 15 rfl rfl (by kernel_rfl) (by rfl) hS5 (fun w' hw => by go_simp) ?_; simp only [Act.put, zp1, zp2, zp3]
     refine reg_tk (v := .int .i64 0) 22 16 rfl rfl (by kernel_rfl) (by rfl) hS5 (fun w' hw => by go_simp) ?_; simp only [Act.put, zp1, zp2, zp3]
     refine reg_end (by kernel_rfl) ?_
     have hb5 : Blk w5 wr.heap.size 188 [.int .i64 r.queue, .slice g.X g.b.length g.c] := hS5.1
     have HB5 := Lib.hid hb5
     have hgt := get_any X5 (36 + r.body.length) c5 (recB r) w5 HRL.out (by have := good_bounds r HGO.out; omega) (fun e0 => by
      exfalso
      rcases HR5.out with e1 | ⟨b1, o1, e1, _⟩
      · have := congrArg List.length e1; rw [bvs_length, HRL.out] at this; simp at this
      · rw [e0] at e1; cases e1) HR5.out
     rw [(got_yes r HGO.out).1, (got_yes r HGO.out).2] at hgt
     unfold rv at hgt
     have HGT := Lib.hid hgt
     clear hb5 hgt hS5 hS4 hS0
     obtain ⟨i0, hi1, hi2, hi3, hi4⟩ := rec_info
     have hown5 : OwnK 6 67 w5 L k cl ((rs.take k).flatMap rcells) := by
      have h1 := HOL.out.own.keep HKd.out (fun j _ e => e)
      have h2 := h1.keep HQ4.out.kp (fun j e => (HOL.out.lf j e).2)
      exact h2.keep HK45.out (fun j _ e => e)
     have HO5 := Lib.hid hown5
     have hk1000 := HM.out.2
     clear hown5
     go_wp2_with (first
      | (go_at_call 111; refine HGT.out.mono ?_; rintro rr w6 ⟨rfl, k6⟩; have HK6 := Lib.hid k6; have hcq : w6.cell? ⟨wr.heap.size, 0, none⟩ = some (.int .i64 r.queue) := (HB5.out.keep k6 (fun e => e)).cell 0; have hl6 : wr.heap.size < w6.heap.size := (HB5.out.keep k6 (fun e => e)).lt; clear k6)
      | (refine wpList_gd (by rfl) (exec_recOne (.tmp 63) r rfl rfl) ?_)
      | (refine wpList_appKO_gd _ (.tmp 62) (.tmp 64) 29 rfl (by rfl) 6 (by decide) 67 i0 _ 56 recs_und hi1 hi2 hi3 hi4 rfl L k cl ((rs.take k).flatMap rcells) rfl (HO5.out.keep (((HK6.out.alloc (.cells (rcells r).toArray 67))).alloc (.cells (rcells r).toArray 67)) (fun j _ e => e)) (some ⟨(w6.alloc (.cells (rcells r).toArray 67)).heap.size, 0, none⟩) 1 1 (rcells r) rfl (fun e => by cases e) rfl (row_new (w6.alloc (.cells (rcells r).toArray 67)) (rcells r) 67) (rcells_one r) (by omega) (by simp [maxLen]; omega) ?_
         intro L2 cl2 w7 ho2 hg2 hz2)
      | fail)
     have hz2' : ab L2 = ab L ∨ ab L2 = some ((w6.alloc (.cells (rcells r).toArray 67)).alloc (.cells (rcells r).toArray 67)).heap.size := hz2
     have HNX := Lib.hid (HOL.out.more (x4 := ⟨F2, P2, x.o, x2.sl, x2.cl⟩) HX.out hkr HKd.out HQ4.out rfl HOL.out.s_ ((HK45.out.trans HK6.out (fun _ e => e.elim)).alloc (.cells (rcells r).toArray 67) |>.alloc (.cells (rcells r).toArray 67)) (by rw [← HRE.out]; exact ho2) ((Kp.refl _ _).grown hg2 (fun j e => .inl e)) hz2')
     clear ho2 hg2 hz2 hz2'
     go_wp2
     go_roundw
     case rel => exact ⟨k + 1, by omega, by go_num, _, L2, cl2, rfl, HNX.out⟩
     case measure => simp [intOf]; omega
  · obtain rfl : k = m := by omega
    go_wp2
    go_ret2
    exact ⟨x2, L, cl, rfl, HOL.out⟩
end Seg
end Go.Proofs.YtigdlnfgdjfdoaaGreat
