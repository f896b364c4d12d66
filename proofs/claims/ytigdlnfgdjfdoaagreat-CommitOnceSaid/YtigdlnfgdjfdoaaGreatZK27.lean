/- Lemmas: ResM SegM. -/
import Derived.Test.YtigdlnfgdjfdoaaGreatZK26
set_option maxHeartbeats 4000000
set_option maxRecDepth 100000
set_option linter.unusedVariables false
set_option linter.unusedSimpArgs false
namespace Go.Proofs.YtigdlnfgdjfdoaaGreat
namespace Seg
open Go Go.RowKit Kit
theorem results_mid {P : Program} {fn : Func} {a p u : Tmp} {ty : TypeId} (h : fn.results = #[.tmp a, .cell p ty, .tmp u]) (tmps : Array Value) (w : World) (g : Nat) (t : TypeId) (cs : List Value) (d : TypeDesc)
    (hp : tmps.getD p undef = .pointer (some ⟨g, 0, none⟩)) (hg : Blk w g t cs) (hu : P.underlying ty = some d) (hd : d.isRow = true) (hi : (P.info? ty).map (·.size) = some cs.length) (x v : Value) (hx : tmps.getD a undef = x) (hv : tmps.getD u undef = v) :
    (results fn tmps).run P w = .ok (.tuple #[x, .agg cs.toArray, v]) w := by
 have h1 : (results fn tmps).run P w = ((asAddr (tmps.getD p undef)).run P w).andThen fun a₁ w₁ => ((loadVar ty a₁).run P w₁).andThen fun v w₂ => .ok (.tuple #[tmps.getD a undef, v, tmps.getD u undef]) w₂ := by
  simp only [results, h]
  simp [Sem.run_bind, Result.andThen]
 rw [h1, hp, hv, hx]
 simp [asAddr, run_loadVar_mid w g 0 ty cs d hg.range hu hd hi, Result.andThen]
open Rec (Rec good ftot recB recB_length good_bounds Rrow)
open Ideal (Ts Thing Ans Arg Args sealT derT hashT leafT rootT zc zc_run zc_length zc_eq z32)
open Vault
theorem fold_lens (ms : List UInt8) (e s : Int) (at' : List UInt8) (n : Nat) : ∀ (rs : List Rec) (q : Ts × List (Int × List UInt8)), q.1.long → (∀ r ∈ rs, good r = true) → (∀ p ∈ q.2, p.2.length ≤ 16384) → ∀ p ∈ (rs.foldl (st1 ms e s at' n) q).2, p.2.length ≤ 16384
 | [], q, h, hb, hq => hq
 | r :: rs, q, h, hb, hq => by
   have hg := good_bounds r (hb r List.mem_cons_self)
   have h1 : (recB r).length = 36 + r.body.length := recB_length r (by omega)
   have hl := ((h.nx (keyT ms r.queue)).seal_ (q.1.val (keyT ms r.queue) 32) (nonce e (s + (q.2.length : Nat))) (besT at' q.2.length n) (recB r))
   refine fold_lens ms e s at' n rs _ ((h.nx _).nx _) (fun x hx => hb x (List.mem_cons_of_mem _ hx)) (fun p hp => ?_)
   unfold st1 at hp
   rcases List.mem_append.1 hp with hp | hp
   · exact hq p hp
   · rw [List.mem_singleton.1 hp]
     unfold stT
     simp only
     rw [hl, h1]; omega
theorem stA_lens (ms : List UInt8) (e s : Int) (at' : List UInt8) (n : Nat) (o : Ts) (rs : List Rec) (h : o.long) (hb : ∀ r ∈ rs, good r = true) : ∀ p ∈ (stA ms e s at' n o rs).2, p.2.length ≤ 16384 := by
 unfold stA
 exact fold_lens ms e s at' n rs (o, []) h hb (fun p hp => by cases hp)
theorem ans_call {w w1 w2 : World} {c : Vc} {x x2 : Vt} {X : Option Addr} {cX : Nat} {b : List UInt8} (h : Ans w w1 x.P X cX b) (q : Vq w1 c x w2 x2) (hb : b ≠ []) : Ans w w2 x2.P X cX b := by
 have hl := h.row.lt (fun e2 => hb (by have := congrArg List.length e2; rw [bvs_length] at this; exact List.eq_nil_of_length_eq_zero this))
 exact ⟨h.row.keep q.kp (fun i e => (h.far i e).2), fun i e => ⟨(h.far i e).1, q.old (h.far i e).2 (hl i e)⟩, h.cap, h.mx, h.nil⟩
theorem pack_c : PackC pk := by
 intro c x e s at' A m d rs w hx h32 hl hr hfar hm hb hf hlo hcl he hs hlim
 have hz := zc_run
 have k0 : Kp nob w ((w.alloc (.cells (bvs at').toArray 47)).alloc (.cells zc.toArray 47)) := ((Kp.refl nob w).alloc _).alloc _
 have HB1 := Lib.hid ((Blk.new w 47 (bvs at')).alloc (.cells zc.toArray 47))
 have HB2 := Lib.hid (show Blk ((w.alloc (.cells (bvs at').toArray 47)).alloc (.cells zc.toArray 47)) (w.heap.size + 1) 47 zc from Blk.new' (by simp) rfl)
 have HK := Lib.hid k0
 have HX0 := Lib.hid hx
 have HX := Lib.hid (hx.keep0 k0)
 have HSE := Lib.hid (sealed_c c x e s at' A m d rs _ (hx.keep0 k0) h32 hl (hr.keep0 k0) hfar hm hb hf hlo hcl he hs hlim)
 have HSZ := Lib.hid (fun w' (hr' : Rrow w' A rs) => size_c A m d rs w' hl hr' (by have := ftot_le5 rs hb; omega) (by omega))
 have H32 := Lib.hid h32
 have HL := Lib.hid hl
 have HR := Lib.hid (And.intro (hr.keep0 k0) hfar)
 have HF := Lib.hid (And.intro hf (And.intro hlo (And.intro hcl hm)))
 have hsz2 : ((w.alloc (.cells (bvs at').toArray 47)).alloc (.cells zc.toArray 47)).heap.size = w.heap.size + 2 := by simp
 have HS1 := Lib.hid hsz2
 clear hx h32 hl hr hfar hm hb hf hlo hcl he hs hlim k0 hsz2
 by_cases hm0 : m = 0
 · subst hm0
   have hrs : rs = [] := List.eq_nil_of_length_eq_zero HL.out
   rw [hrs, pk_nil]
   clear HSE HSZ
   go_enter Tryz.func79, Tryz.ntmps79
   go_wp2
   refine reg_begin (fun w' => Blk w' w.heap.size 47 (bvs at')) (by kernel_rfl) (HB1.out.keep (Kp.refl nob _).drew (fun e => e)) (fun hS0 => ?_)
   refine reg_load 0 (some 19) 47 (.tmp 8) rfl rfl rfl (by kernel_rfl) (by kernel_rfl) (by kernel_rfl) (by rfl) hS0 w.heap.size 0 rfl (bvs at') _ (fun w hw => hw.range) rarr_under rfl (rarr_size at' H32.out) ?_; simp only [Act.put, zp1, zp2, zp3]
   refine reg_tk (v := .slice none 0 0) 1 10 rfl rfl (by kernel_rfl) (by rfl) hS0 (fun w' hw => by go_simp) ?_; simp only [Act.put, zp1, zp2, zp3]
   refine reg_store 2 none 47 (.tmp 11) (.tmp 19) rfl rfl rfl (by kernel_rfl) (by rfl) (w.heap.size + 1) 47 zc (bvs at') (HB2.out.keep (Kp.refl nob _).drew (fun e => e)) rfl rfl (by rw [bvs_length, H32.out, zc_length]) (rarr_size at' H32.out) (bvs_one _) ?_
   intro w7 hB7 k7 z7
   have hS7 : Blk w7 w.heap.size 47 (bvs at') := hS0.keep k7 (fun e => by have e : w.heap.size = w.heap.size + 1 := e; omega)
   refine ⟨hS7, fun _ => ?_⟩
   simp only [Act.put, zp1, zp2, zp3]
   refine reg_tk (v := .int .i64 1) 3 12 rfl rfl (by kernel_rfl) (by rfl) hS7 (fun w' hw => by go_simp) ?_; simp only [Act.put, zp1, zp2, zp3]
   refine reg_end (by kernel_rfl) ?_
   have HB7 := Lib.hid hB7
   have HQ : Hid (Vq w c x w7 x) := Lib.hid (((Vq.refl HX0.out).over0 HK.out.drew).over k7 (fun i _ e => by have e : i = w.heap.size + 1 := e; subst e; exact ⟨by omega, fun e => by have := HX0.out.lt _ e; omega⟩) HX0.out.sz)
   clear hB7 k7 z7 hS7 hS0
   go_wp2
   exact bodyPost_ret (results_mid rfl _ _ (w.heap.size + 1) _ _ _ rfl HB7.out rarr_under rfl (rarr_size at' H32.out) _ _ rfl rfl) rfl ⟨x.F, x.P, x.sl, x.cl, none, 0, rfl, HQ.out, ⟨by omega, Once.start _ _ _ _ _⟩, Row.nil _ _, fun i e => (by cases e), Nat.le_refl _, (by decide), fun _ => rfl⟩
 have hmp : 0 < m := by omega
 have hm1 : ((m : Int) == 0) = false := by simp; omega
 have hm2 : decide (m = 0) = false := decide_eq_false hm0
 have hne : rs ≠ [] := fun e => hm0 (by rw [← HL.out, e]; rfl)
 by_cases hE : perrs c.lim e s 0 48 rs = 0
 · obtain ⟨R, hRe⟩ : ∃ R, R = pk x.o c.ms c.lim e s at' rs := ⟨_, rfl⟩
   have hpe : perr c.lim e s rs = 0 := by rw [perr, if_neg hne]; exact hE
   obtain ⟨_, hgood, hft, _⟩ := perr_ok hpe
   have hRl : R.b.length = ftot rs := by
    obtain ⟨rest, h1, h2⟩ := pk_shape.begins x.o c.ms c.lim e s at' rs HF.out.2.1 (by rw [pk_shape.err]; exact hpe)
    rw [hRe, h1, List.length_append, num8_length]; omega
   have hlens := stA_lens c.ms e s at' rs.length x.o rs HF.out.2.1 hgood
   rw [← hRe]
   rw [pk_yes _ _ _ _ _ _ _ hne hE] at hRe
   have HRE := Lib.hid (And.intro hRe (And.intro hRl hft))
   have HLN := Lib.hid hlens
   have HRW : Hid (∀ w2 x2, Vq ((w.alloc (.cells (bvs at').toArray 47)).alloc (.cells zc.toArray 47)) c x w2 x2 → Rrow w2 A rs) := Lib.hid (fun w2 x2 hq => HR.out.1.keep hq.kp (HR.out.2.resolve_left hne))
   have HSE2 := Lib.hid HSE.out
   have HE := Lib.hid hE
   clear hRe hRl hft hlens hgood hpe HSE hE hne
   go_enter Tryz.func79, Tryz.ntmps79
   go_wp2_with (first
    | (refine wpList_load_blk rfl 47 (.tmp 8) rfl _ _ _ HB1.out rfl _ rarr_under rfl (rarr_size at' H32.out) ?_)
    | fail)
   refine HSE2.out.mono ?_
   rintro r w2 ⟨x2, hq, hcl, hor⟩
   rcases hor with ⟨_, ho2, X, cX, gs, rfl, htw, hpt, hXn, hXc, hXm⟩ | ⟨h0, _⟩
   case inr => exact absurd HE.out h0
   rw [HL.out] at hcl
   have hgl : gs.length = m := by
    have h1 := congrArg List.length htw
    rw [List.length_map, stA_length, HL.out] at h1; exact h1
   have hmap : gs.map (·.b) = (gs.map Pt.two).map (·.2) := by rw [List.map_map]; rfl
   have hRb : R.b = frB (ftot rs) (gs.map Pt.two) (rtA x2.o (gs.map (·.b))).1 := by rw [HRE.out.1, hdA_b, ho2, hmap, htw]
   have hRo : R.o = (rtA x2.o (gs.map (·.b))).2.nx (hashT (at' ++ R.b)) := by rw [hRb, HRE.out.1, hdA_o, ho2, hmap, htw]
   have hRh : R.h = (rtA x2.o (gs.map (·.b))).2.val (hashT (at' ++ R.b)) 32 := by rw [hRb, HRE.out.1, hdA_h, ho2, hmap, htw]
   have hR0 : R.e = 0 := by rw [HRE.out.1, hdA_e]
   have hgb : ∀ g ∈ gs, g.b.length ≤ 1048000 := fun g hg => Nat.le_trans (HLN.out g.two (by rw [← htw]; exact List.mem_map_of_mem hg)) (by omega)
   have hfew : x2.o.few 82100 := by rw [ho2]; exact (stA_few c.ms e s at' rs.length x.o rs 80000 HF.out.1).mono (by have := HL.out; have := HF.out.2.2.2; omega)
   have hlong : x2.o.long := by rw [ho2]; exact HF.out.2.1.sub (stA_from ..)
   have HRR := Lib.hid (And.intro hRb (And.intro hRo (And.intro hRh hR0)))
   have HQ := Lib.hid hq
   have HPT := Lib.hid (And.intro hpt (And.intro hgl hgb))
   have HFL := Lib.hid (And.intro hfew hlong)
   have HCL := Lib.hid hcl
   have HSZ2 := Lib.hid (HSZ.out w2 (HRW.out w2 x2 hq))
   have hn0 : ¬ x.P w.heap.size := fun e => by have := HX0.out.lt _ e; omega
   have hn1 : ¬ x.P (w.heap.size + 1) := fun e => by have := HX0.out.lt _ e; omega
   have HB1' := Lib.hid (hq.blk HB1.out hn0)
   have HB2' := Lib.hid (hq.blk HB2.out hn1)
   have HN := Lib.hid (And.intro (hq.old hn0 HB1.out.lt) (hq.old hn1 HB2.out.lt))
   have hml := HL.out
   clear hq hcl ho2 htw hpt hXn hXc hXm hgl hmap hRb hRo hRh hR0 hgb hfew hlong hn0 hn1
   rw [hml]
   clear hml
   go_wp2_with fail
   refine HSZ2.out.mono ?_
   rintro r w3 ⟨rfl, k3⟩
   have HK3 := Lib.hid k3
   have hwr := written_c c x2 (ftot rs) X m cX gs w3 (HQ.out.now.keep0 k3) (HPT.out.1.keep0 k3) HPT.out.2.1 HF.out.2.2.2 (HFL.out.1.mono (by omega)) HFL.out.2 HPT.out.2.2
   rw [← HRR.out.1] at hwr
   have HWR := Lib.hid hwr
   clear k3 hwr
   go_wp2_with fail
   refine HWR.out.mono ?_
   rintro r w4 ⟨F4, P4, X4, c4, rfl, q4, a4⟩
   have hb1 := HB1'.out.keep HK3.out (fun e => e)
   have hb2 := HB2'.out.keep HK3.out (fun e => e)
   have HB14 := Lib.hid (q4.blk hb1 HN.out.1)
   have HB24 := Lib.hid (q4.blk hb2 HN.out.2)
   have HN4 := Lib.hid (And.intro (q4.old HN.out.1 hb1.lt) (q4.old HN.out.2 hb2.lt))
   have hbl : R.b.length ≤ 16384 := by rw [HRE.out.2.1]; exact HRE.out.2.2
   have hbn : R.b ≠ [] := fun e0 => by
    have h1 := HRE.out.2.1
    rw [e0] at h1
    have h2 : 48 ≤ ftot rs := by unfold ftot; omega
    simp at h1; omega
   have hfw : (rtA x2.o (gs.map (·.b))).2.few 100000 := (rtA_few _ _ _ HFL.out.1).mono (by rw [List.length_map, HPT.out.2.1]; have := HF.out.2.2.2; omega)
   have hlg : (rtA x2.o (gs.map (·.b))).2.long := HFL.out.2.sub (rtA_sub _ _)
   have hbe := behind_c c ⟨F4, P4, (rtA x2.o (gs.map (·.b))).2, x2.sl, x2.cl⟩ at' X4 R.b.length c4 R.b w4 q4.now H32.out (ans_arg a4) hfw (by omega) hlg
   dsimp only at hbe
   rw [← HRR.out.2.2.1, ← HRR.out.2.1] at hbe
   have hRhl : R.h.length = 32 := by rw [HRR.out.2.2.1]; exact hlg.len _ (.inl rfl)
   have HQ4 := Lib.hid (((HQ.out.over0 HK3.out).trans q4))
   have HA4 := Lib.hid a4
   have HBE := Lib.hid hbe
   have HH := Lib.hid (And.intro hRhl hbn)
   have HSS : Hid (w.heap.size ≤ w3.heap.size) := Lib.hid (Nat.le_trans (Nat.le_trans HK.out.size HQ.out.kp.size) HK3.out.size)
   clear q4 a4 hb1 hb2 hbl hbn hfw hlg hbe hRhl
   go_wp2_with (first
    | (refine wpList_load_blk rfl 47 (.tmp 8) rfl _ _ _ HB14.out rfl _ rarr_under rfl (rarr_size at' H32.out) ?_)
    | fail)
   refine HBE.out.mono ?_
   rintro r w5 ⟨F5, P5, rfl, q5⟩
   have HB25 := Lib.hid (q5.blk HB24.out HN4.out.2)
   have HN5 := Lib.hid (q5.old HN4.out.2 HB24.out.lt)
   have HQ5 := Lib.hid ((HQ4.out.trans q5).back HK.out)
   have HA5 := Lib.hid (ans_call HA4.out q5 HH.out.2)
   clear q5
   go_wp2_with (first
    | (refine wpList_store_blk rfl 47 (.tmp 11) (.tmp 42) rfl _ _ _ (bvs R.h) HB25.out rfl rfl (by rw [bvs_length, HH.out.1, zc_length]) (rarr_size R.h HH.out.1) (bvs_one _) ?_; intro w6 hB6 k6 z6)
    | fail)
   have HB6 := Lib.hid hB6
   have HQ6 : Hid (Vq w c x w6 ⟨F5, P5, R.o, x2.sl, x2.cl⟩) := Lib.hid (HQ5.out.over k6 (fun i _ e => by have e : i = w.heap.size + 1 := e; subst e; exact ⟨by omega, HN5.out⟩) HX0.out.sz)
   have HA6 : Hid (Ans w w6 P5 X4 c4 R.b) := Lib.hid (by
    have h := HA5.out
    refine ⟨h.row.keep k6 (fun i e e2 => ?_), fun i e => ⟨?_, (h.far i e).2⟩, h.cap, h.mx, h.nil⟩
    · have e2 : i = w.heap.size + 1 := e2
      have h1 := (h.far i e).1
      have h2 := HB2'.out.lt
      have h3 := HK3.out.size
      omega
    · have h1 := (h.far i e).1
      have h3 := HSS.out
      omega)
   clear hB6 k6 z6
   go_wp2
   exact bodyPost_ret (results_mid rfl _ _ (w.heap.size + 1) _ _ _ rfl HB6.out rarr_under rfl (rarr_size R.h HH.out.1) _ _ rfl rfl) rfl ⟨F5, P5, x2.sl, x2.cl, X4, c4, by rw [HRR.out.2.2.2]; rfl, HQ6.out, HCL.out, HA6.out⟩
 · rw [pk_no _ _ _ _ _ _ _ hne hE]
   obtain ⟨E, hEE⟩ : ∃ E, E = perrs c.lim e s 0 48 rs := ⟨_, rfl⟩
   have hse := HSE.out
   unfold SealP at hse
   rw [← hEE] at hse hE ⊢
   have HSE2 := Lib.hid hse
   have HE := Lib.hid hE
   have hb0 : (E != 0) = true := by simp; exact hE
   obtain ⟨o, ho⟩ : ∃ o, o = lft c.ms e s at' x.o rs (bad c.lim e s 0 48 rs) := ⟨_, rfl⟩
   rw [← ho] at HSE2 ⊢
   clear hse HSE hE hEE ho hne
   go_enter Tryz.func79, Tryz.ntmps79
   go_wp2_with (first
    | (refine wpList_load_blk rfl 47 (.tmp 8) rfl _ _ _ HB1.out rfl _ rarr_under rfl (rarr_size at' H32.out) ?_)
    | fail)
   refine HSE2.out.mono ?_
   rintro r w2 ⟨x2, hq, hcl, hor⟩
   rcases hor with ⟨h0, _⟩ | ⟨_, ho2, rfl⟩
   · exact absurd h0 HE.out
   have HQ := Lib.hid hq
   have HO := Lib.hid (And.intro ho2 hcl)
   have HB2' := Lib.hid (hq.blk HB2.out (fun e => by have := HX0.out.lt _ e; omega))
   have HNP : Hid (¬ x2.P (w.heap.size + 1)) := Lib.hid (hq.old (fun e => by have := HX0.out.lt _ e; omega) HB2.out.lt)
   clear hq hcl ho2
   have HZO : Hid (∀ u ∈ zc, u.oneCell' = true) := Lib.hid (by rw [zc_eq]; exact bvs_one _)
   have HZI : Hid ((Tryz.prog.info? 47).map (·.size) = some zc.length) := Lib.hid (by rw [zc_length]; kernel_rfl)
   go_wp2_with (first
    | (refine wpList_store_blk rfl 47 (.tmp 11) (.tmp 31) rfl _ _ _ zc HB2'.out rfl rfl rfl HZI.out HZO.out ?_; intro w6 hB6 k6 z6)
    | fail)
   have HB6 := Lib.hid hB6
   have HQ6 : Hid (Vq w c x w6 x2) := Lib.hid ((HQ.out.back HK.out).over k6 (fun i _ e => by have e : i = w.heap.size + 1 := e; subst e; exact ⟨by omega, HNP.out⟩) HX0.out.sz)
   clear hB6 k6 z6
   go_wp2
   exact bodyPost_ret (results_mid rfl _ _ (w.heap.size + 1) _ _ _ rfl HB6.out rarr_under rfl HZI.out _ _ rfl rfl) rfl ⟨x2.F, x2.P, x2.sl, x2.cl, none, 0, by rw [zc_eq]; rfl, by have h := HQ6.out; rw [show x2 = ⟨x2.F, x2.P, x2.o, x2.sl, x2.cl⟩ from rfl, HO.out.1] at h; exact h, ⟨by have := HO.out.2.1; have := HL.out; omega, by have h := HO.out.2.2; rw [HL.out] at h; exact h⟩, Row.nil _ _, fun i e => (by cases e), Nat.le_refl _, (by decide), fun _ => rfl⟩
end Seg
end Go.Proofs.YtigdlnfgdjfdoaaGreat
