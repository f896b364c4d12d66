/- The code's ideal world: texts sealed. -/
import Derived.Test.YtakhanganifpnaaIdealC
namespace Go.Proofs.Ytakhanganifpnaa.Ideal
set_option linter.unusedVariables false
set_option linter.unusedSimpArgs false
open Go Go.RowKit Kit
open Sha (Pc PcsOk catP catP_snoc catP_le)

/-- A seal's entry is stored. -/
theorem seal_store {w : World} {p bn bs : Nat} {cs : List Thing} {U : Thing → Prop} (h : Cx w p bn bs cs U) (i : Nat) (t : Thing) (hi : cs[i]? = some t) (hk : t.kind = 83) :
    ∃ w', (Instr.mapUpdate 54 (.map (some bs)) (.int .i64 ((i : Int) + 1)) (cv t)).run Try.prog w = .ok () w' ∧ Cx w' p bn bs cs (fun u => U u ∨ u = t) ∧ Kp (fun i => i = bs) w w' ∧ w'.heap.size = w.heap.size := by
  obtain ⟨ps, h1, h2⟩ := h.s
  have fin : ∀ (w' : World) (qs : List (Value × Value)), MapB w' bs qs → Sps cs (fun u => U u ∨ u = t) qs → Kp (fun i => i = bs) w w' → Cx w' p bn bs cs (fun u => U u ∨ u = t) := fun w' qs m s k =>
    ⟨h.b.keep k h.ne.2.1, h.n.keep k h.ne.2.2, ⟨qs, m, s⟩, h.ne, h.nd, h.sm⟩
  by_cases hm : ∃ u, (Value.int .i64 ((i : Int) + 1), u) ∈ ps
  · obtain ⟨u, hm⟩ := hm
    have hu := h2.one i t hi u hm
    subst hu
    obtain ⟨w', hr, m, k, z⟩ := h1.store_old (t := 54) int_keys h2.keys smap_under ((i : Int) + 1) (cv t) _ hm (fun u hu => h2.one i t hi u hu)
    refine ⟨w', hr, fin w' ps m ⟨h2.all, fun j x hj hx hU => ?_⟩ k, k, z⟩
    rcases hU with hU | rfl
    · exact h2.has j x hj hx hU
    · have := (List.getElem?_inj (List.getElem?_eq_some_iff.1 hj).1 h.nd).1 (hj.trans hi.symm)
      subst this; exact hm
  · have hn : ∀ q ∈ ps, q.1 ≠ Value.int .i64 ((i : Int) + 1) := fun q hq e => hm ⟨q.2, by rw [← e]; exact hq⟩
    obtain ⟨w', hr, m, k, z⟩ := h1.store_new (t := 54) int_keys h2.keys smap_under ((i : Int) + 1) (cv t) hn
    refine ⟨w', hr, fin w' _ m ⟨fun q hq => ?_, fun j x hj hx hU => ?_⟩ k, k, z⟩
    · rcases List.mem_append.1 hq with hq | hq
      · exact h2.all q hq
      · exact ⟨i, t, hi, hk, List.mem_singleton.1 hq⟩
    · rcases hU with hU | rfl
      · exact List.mem_append_left _ (h2.has j x hj hx hU)
      · have := (List.getElem?_inj (List.getElem?_eq_some_iff.1 hj).1 h.nd).1 (hj.trans hi.symm)
        subst this; exact List.mem_append_right _ (List.mem_singleton.2 rfl)

set_option maxHeartbeats 4000000 in
set_option maxRecDepth 100000 in
theorem seal_i (p : Nat) (F : Nat → Prop) (ts : List Thing) (K : Option Addr) (nk ck : Nat) (key : List UInt8) (N : Option Addr) (nn cn : Nat) (nonce : List UInt8) (T : Option Addr) (nt ct' : Nat) (text : List UInt8) (B : Option Addr) (m d : Nat) (ps : List Pc) (w0 : World)
    (hw : Iw w0 p F ts) (hk : Arg w0 F K nk ck key) (hn : Arg w0 F N nn cn nonce) (ht : Arg w0 F T nt ct' text) (hp : Args w0 F B m ps) (hl : ts.length ≤ 100000) (lk : key.length ≤ 1048576) (ln : nonce.length ≤ 1048576) (lt : text.length ≤ 1048576) (lp : (catP ps).length ≤ 1048576) :
    Calls Try.prog 11 #[.pointer (some ⟨p, 0, none⟩), .slice K nk ck, .slice N nn cn, .slice T nt ct', .slice B m d] w0 fun e w' => ∃ F2 X cX, e = .returned (.tuple #[.slice X (text.length + 16) cX, .int .i64 0]) ∧
      Iq w0 F w' p F2 (mk ts (sealT key nonce (catP ps) text)) ∧ Ans w0 w' F2 X cX (out ts (sealT key nonce (catP ps) text) (text.length + 16)) := by
  obtain ⟨bn, bs, hF, hw, hg⟩ := hw
  have HG := Lib.hid hg
  have HF := Lib.hid hF
  have HW := Lib.hid hw
  have HK := Lib.hid hk; have HN := Lib.hid hn; have HT := Lib.hid ht; have HP := Lib.hid hp
  have hnt : ¬ ((1048576 : Int) < (nt : Int)) := by have := ht.len; omega
  have HLP := Lib.hid lp
  have hlp : ¬ ((1048576 : Int) < ((catP ps).length : Int)) := by omega
  have HLT := Lib.hid lt
  clear hF hw hg hk hn ht hp lk ln lt lp
  go_enter Try.func11, Try.ntmps11
  go_wp2_with (go_at_call 20; refine (size_any B m d ps F _ HP.out (by have := HLP.out; omega)).mono ?_; rintro e w1 ⟨rfl, rfl⟩)
  rename_i KK hK
  have hcont : ∀ (q : Nat) (w9 : World), Kp nob w0 w9 → Blk w9 q 61 (tc (sealT key nonce (catP ps) text)) → w0.heap.size ≤ q → KK { tmps := #[(.pointer (some ⟨p, 0, none⟩) : Value), (.slice K nk ck : Value), (.slice N nn cn : Value), (.slice T nt ct' : Value), (.slice B m d : Value), undef, undef, undef, undef, undef, (.slice none 0 0 : Value), (.int .i64 0 : Value), (.pointer (some ⟨q, 0, none⟩) : Value), undef, (.bool false : Value), (.pointer (some ⟨p, 0, none⟩) : Value), (.bool false : Value), (.bool (decide ((1048576 : Int) < ((catP ps).length : Int))) : Value), (.slice T nt ct' : Value), (.int .i64 (nt : Int) : Value), (.bool false : Value), (.bool false : Value), (.slice B m d : Value), (.int .i64 ((catP ps).length : Int) : Value), (.bool (decide ((1048576 : Int) < ((catP ps).length : Int))) : Value), (.bool (decide ((1048576 : Int) < ((catP ps).length : Int))) : Value), (.slice K nk ck : Value), (.string (str key) : Value), (.slice N nn cn : Value), (.string (str nonce) : Value), (.slice B m d : Value), (.string (str (catP ps)) : Value), (.slice T nt ct' : Value), (.string (str text) : Value), (.agg (tc (sealT key nonce (catP ps) text)).toArray : Value), undef, undef, undef, undef, undef, undef, undef, undef, undef, undef, undef, undef], defers := [] } w9 := by
    intro q w9 k9 hB9 hq
    have HB9 := Lib.hid hB9
    have HK9 := Lib.hid k9
    have HQ := Lib.hid hq
    have HW9 := Lib.hid (HW.out.keep0 k9)
    obtain ⟨cs, hcs⟩ : ∃ cs, cs = ts.map ct := ⟨_, rfl⟩
    rw [← hcs] at HW9
    have HCS := Lib.hid hcs
    have hcl : cs.length ≤ 100000 := by rw [hcs, List.length_map]; exact hl
    obtain ⟨TT, hTT⟩ : ∃ TT, TT = sealT key nonce (catP ps) text := ⟨_, rfl⟩
    rw [← hTT] at HB9
    have HTT := Lib.hid hTT
    rw [← hTT]
    have hd : TT.d.length ≤ 1048576 := by rw [hTT]; exact HLT.out
    have HTK := Lib.hid (show TT.kind = 83 by rw [hTT]; rfl)
    clear k9 hB9 hq hcs hTT
    apply hK
    go_wp2_with (first | (refine wpList_load_blk rfl 61 (.tmp 12) rfl _ _ _ HB9.out rfl _ cthing_under rfl (by kernel_rfl) ?_) | fail)
    refine (number_any p bn bs cs TT _ HW9.out hcl (fun _ => hd)).mono ?_
    rintro e w10 ⟨rfl, hx, k10⟩
    obtain ⟨i, hi⟩ : ∃ i, num (mk cs TT) TT = i + 1 := ⟨num (mk cs TT) TT - 1, by have := num_pos cs TT; omega⟩
    have hit : (mk cs TT)[i]? = some TT := by have := num_at (mk cs TT) TT (num_pos cs TT); rwa [hi, Nat.add_sub_cancel] at this
    have hib : i ≤ 100000 := by have := num_le (mk cs TT) TT; have := mk_length_le cs TT; omega
    rw [hi]
    have HI := Lib.hid hi
    have HNQ : Hid (q ≠ bn ∧ q ≠ bs) := Lib.hid (by have := HW.out.lt bn (.inr (.inl rfl)); have := HW.out.lt bs (.inr (.inr rfl)); have := HQ.out; omega)
    have HB10 := Lib.hid (HB9.out.keep k10 (fun e => HNQ.out.1 e))
    obtain ⟨w11, hs1, hs2, hs3, hs4⟩ := seal_store (hx.keep0 (Kp.refl nob w10).drew) i TT hit HTK.out
    have HS1 := Lib.hid hs1
    have hx11 : Cx w11 p bn bs (mk cs TT) (fun _ => True) := hs2.imp (fun u hu _ _ => by
      rcases (mem_mk _ _ _).1 hu with h | h
      · exact .inr h
      · exact .inl h)
    have HX11 := Lib.hid hx11
    have hc10 : w10.drew.cell? ⟨p, 1, none⟩ = some (.map (some bs)) := by rw [(hx.keep0 (Kp.refl nob w10).drew).b.cell]; rfl
    have HB11 := Lib.hid ((HB10.out.keep (Kp.refl nob w10).drew (fun e => e)).keep hs3 (fun e => HNQ.out.2 e))
    have HK11 := Lib.hid (((HK9.out.nob (Cf p bn bs)).trans (k10.mono (fun j _ e => (.inr (.inl e) : Cf p bn bs j))) (fun j e => .inl e)).drew.trans (hs3.mono (fun j _ e => (.inr (.inr e) : Cf p bn bs j))) (fun j e => .inl e))
    have hsl := sealed_any TT (i + 1) w11 (by omega) hd
    rw [show ((i + 1 : Nat) : Int) = (i : Int) + 1 from rfl] at hsl
    have HSL := Lib.hid hsl
    clear hx k10 hs1 hs2 hs3 hs4 hx11 hsl hi hit
    go_wp2_with fail
    have HSS : Hid ((fun w2 : World => w2.cell? ⟨p, 1, none⟩ = some (.map (some bs)) ∧ Blk w2 q 61 (tc TT)) w10.drew) := Lib.hid ⟨hc10, HB10.out⟩
    refine reg_begin (fun w2 : World => w2.cell? ⟨p, 1, none⟩ = some (.map (some bs)) ∧ Blk w2 q 61 (tc TT)) (by kernel_rfl) HSS.out (fun _ => ?_)
    refine reg_take (v := .pointer (some ⟨p, 0, none⟩)) 0 (some 38) rfl rfl (by kernel_rfl) (by kernel_rfl) (by kernel_rfl) (by rfl) HSS.out (fun w hw => by go_simp) ?_
    simp only [Act.put, List.setIfInBounds_toArray, List.set_cons_zero, List.set_cons_succ]
    refine reg_take (v := .pointer (some ⟨p, 0, none⟩)) 1 (some 39) rfl rfl (by kernel_rfl) (by kernel_rfl) (by kernel_rfl) (by rfl) HSS.out (fun w hw => by go_simp) ?_
    simp only [Act.put, List.setIfInBounds_toArray, List.set_cons_zero, List.set_cons_succ]
    refine reg_take (v := .pointer (some ⟨p, 1, none⟩)) 2 (some 40) rfl rfl (by kernel_rfl) (by kernel_rfl) (by kernel_rfl) (by rfl) HSS.out (fun w hw => by go_simp) ?_
    simp only [Act.put, List.setIfInBounds_toArray, List.set_cons_zero, List.set_cons_succ]
    refine reg_take (v := .map (some bs)) 3 (some 41) rfl rfl (by kernel_rfl) (by kernel_rfl) (by kernel_rfl) (by rfl) HSS.out (fun w hw => by have hw0 := hw.1; go_simp) ?_
    simp only [Act.put, List.setIfInBounds_toArray, List.set_cons_zero, List.set_cons_succ]
    refine reg_take (v := .int .i64 ((i : Int) + 1)) 4 (some 42) rfl rfl (by kernel_rfl) (by kernel_rfl) (by kernel_rfl) (by rfl) HSS.out (fun w hw => by go_simp) ?_
    simp only [Act.put, List.setIfInBounds_toArray, List.set_cons_zero, List.set_cons_succ]
    refine reg_load 5 (some 43) 61 (.tmp 12) rfl rfl rfl (by kernel_rfl) (by kernel_rfl) (by kernel_rfl) (by rfl) HSS.out q 0 rfl (tc TT) _ (fun w hw => hw.2.range) cthing_under rfl (by kernel_rfl) ?_
    simp only [Act.put, List.setIfInBounds_toArray, List.set_cons_zero, List.set_cons_succ]
    refine reg_update 6 none (.tmp 41) (.tmp 42) (.tmp 43) 54 rfl rfl rfl (by kernel_rfl) (by rfl) _ _ _ rfl rfl rfl HS1.out ⟨by rw [HX11.out.b.cell]; rfl, HB11.out⟩ (fun _ => ?_)
    simp only [Act.put, List.setIfInBounds_toArray, List.set_cons_zero, List.set_cons_succ]
    refine reg_end (by kernel_rfl) ?_
    go_wp2_with (first | (refine wpList_load_blk rfl 61 (.tmp 12) rfl _ _ _ HB11.out rfl _ cthing_under rfl (by kernel_rfl) ?_) | fail)
    refine HSL.out.mono ?_
    rintro e w12 ⟨X, cX, rfl, ho, k12, hf, hn12⟩
    have HO := Lib.hid ho
    have HE := Lib.hid (And.intro k12 (And.intro hf hn12))
    clear ho k12 hf hn12
    have hdl : TT.d.length = text.length := by rw [HTT.out]; rfl
    have HDL := Lib.hid hdl
    clear hdl
    go_wp2
    go_ret2
    have e1 : tok TT.kind (i + 1) (TT.d.length + 16) = out ts (sealT key nonce (catP ps) text) (text.length + 16) := by
      rw [← HI.out, HCS.out, HDL.out, HTT.out]
      exact congrArg (fun x => tok 83 x (text.length + 16)) (num_mk_ct HG.out (sealT key nonce (catP ps) text) (sealT_good _ _ _ _))
    have hK12 := HK11.out.trans HE.out.1 (fun _ e => e.elim)
    have hX12 := HX11.out.keep0 HE.out.1
    rw [HCS.out, HTT.out] at hX12
    refine ⟨F, X, cX, by rw [← HDL.out]; rfl, ⟨iw_more HF.out HG.out (sealT key nonce (catP ps) text) (sealT_good _ _ _ _) hX12, fun _ e => .inl e, by rw [HF.out]; exact hK12⟩, ⟨by rw [← e1]; exact HO.out.row, fun k e => ?_, by rw [← e1, tok_length _ _ _ (by omega)]; exact HO.out.cap.1, HO.out.cap.2, HE.out.2.2⟩⟩
    have h1 := HE.out.2.1 k e
    have h2 := HK11.out.size
    exact ⟨by omega, fun hF2 => by rw [HF.out] at hF2; have := HW.out.lt k hF2; omega⟩
  have hz : ∀ w, (zeroValue 61).run Try.prog w = .ok (.agg (tc ⟨0, [], [], [], []⟩).toArray) w := fun w => by kernel_rfl
  have HZ := Lib.hid hz
  have H0 : Hid (Kp nob w0 w0.drew) := Lib.hid (Kp.refl nob w0).drew
  have HCT := Lib.hid hcont
  clear hcont hK
  refine reg_begin (Kp nob w0) (by kernel_rfl) H0.out (fun _ => ?_)
  refine reg_take (v := .slice K nk ck) 0 (some 26) rfl rfl (by kernel_rfl) (by kernel_rfl) (by kernel_rfl) (by rfl) H0.out (fun w hw => by go_simp) ?_
  simp only [Act.put, List.setIfInBounds_toArray, List.set_cons_zero, List.set_cons_succ]
  refine reg_bytesStr 1 (some 27) 34 9 5 (.tmp 26) rfl rfl rfl (by kernel_rfl) (by kernel_rfl) (by kernel_rfl) (by rfl) H0.out u8i_under (by kernel_rfl) (by kernel_rfl) K nk ck key HK.out.len rfl (fun _ x => (HK.out.keep0 x).row) ?_
  simp only [Act.put, List.setIfInBounds_toArray, List.set_cons_zero, List.set_cons_succ]
  refine reg_take (v := .slice N nn cn) 2 (some 28) rfl rfl (by kernel_rfl) (by kernel_rfl) (by kernel_rfl) (by rfl) H0.out (fun w hw => by go_simp) ?_
  simp only [Act.put, List.setIfInBounds_toArray, List.set_cons_zero, List.set_cons_succ]
  refine reg_bytesStr 3 (some 29) 34 9 5 (.tmp 28) rfl rfl rfl (by kernel_rfl) (by kernel_rfl) (by kernel_rfl) (by rfl) H0.out u8i_under (by kernel_rfl) (by kernel_rfl) N nn cn nonce HN.out.len rfl (fun _ x => (HN.out.keep0 x).row) ?_
  simp only [Act.put, List.setIfInBounds_toArray, List.set_cons_zero, List.set_cons_succ]
  refine reg_take (v := .slice B m d) 4 (some 30) rfl rfl (by kernel_rfl) (by kernel_rfl) (by kernel_rfl) (by rfl) H0.out (fun w hw => by go_simp) ?_
  simp only [Act.put, List.setIfInBounds_toArray, List.set_cons_zero, List.set_cons_succ]
  refine reg_take (v := .slice T nt ct') 6 (some 32) rfl rfl (by kernel_rfl) (by kernel_rfl) (by kernel_rfl) (by rfl) H0.out (fun w hw => by go_simp) ?_
  simp only [Act.put, List.setIfInBounds_toArray, List.set_cons_zero, List.set_cons_succ]
  refine reg_bytesStr 7 (some 33) 34 9 5 (.tmp 32) rfl rfl rfl (by kernel_rfl) (by kernel_rfl) (by kernel_rfl) (by rfl) H0.out u8i_under (by kernel_rfl) (by kernel_rfl) T nt ct' text HT.out.len rfl (fun _ x => (HT.out.keep0 x).row) ?_
  simp only [Act.put, List.setIfInBounds_toArray, List.set_cons_zero, List.set_cons_succ]
  generalize w0.drew = wd at *
  refine reg_callOr (w' := wd.alloc (.cells (tc ⟨0, [], [], [], []⟩).toArray 61)) (v := .pointer (some ⟨wd.heap.size, 0, none⟩)) 5 9 (some 31) (some 12) rfl rfl rfl rfl (by kernel_rfl) (by rfl) (by rfl) _ _ (exec_func 21 _ _ [.slice B m d] rfl (by kernel_rfl) rfl) (by go_simp) (H0.out.alloc _) ?wa (fun _ => ?wb)
  case wa =>
    refine (joined_any B m d ps F _ (HP.out.keep0 H0.out) (by have := HLP.out; omega)).mono ?_
    rintro e w1 ⟨rfl, k1⟩
    have H1 := Lib.hid (H0.out.trans k1 (fun _ e => e.elim))
    clear k1
    refine ⟨_, rfl, H1.out, fun _ => ?_⟩
    simp only [Act.put, List.setIfInBounds_toArray, List.set_cons_zero, List.set_cons_succ]
    refine reg_take (v := .agg (tc (sealT key nonce (catP ps) text)).toArray) 8 (some 34) rfl rfl (by kernel_rfl) (by kernel_rfl) (by kernel_rfl) (by rfl) H1.out (fun w hw => by first | (go_simp; done) | kernel_rfl) ?_
    simp only [Act.put, List.setIfInBounds_toArray, List.set_cons_zero, List.set_cons_succ]
    refine reg_step (w' := w1.alloc (.cells (tc ⟨0, [], [], [], []⟩).toArray 61)) (v := .pointer (some ⟨w1.heap.size, 0, none⟩)) 9 (some 12) rfl rfl (by kernel_rfl) (by rfl) (by go_simp) (H1.out.alloc _) (fun _ => ?_)
    simp only [Act.put, List.setIfInBounds_toArray, List.set_cons_zero, List.set_cons_succ]
    have hbk : Blk (w1.alloc (.cells (tc ⟨0, [], [], [], []⟩).toArray 61)) w1.heap.size 61 (tc ⟨0, [], [], [], []⟩) := Blk.new w1 _ _
    have hge := H1.out.size
    refine reg_store 10 none 61 (.tmp 12) (.tmp 34) rfl rfl rfl (by kernel_rfl) (by rfl) w1.heap.size _ _ (tc (sealT key nonce (catP ps) text)) hbk rfl rfl rfl (by kernel_rfl) (tc_one _) ?_
    intro w99 hB99 k99 z99
    have hkk : Kp nob w0 w99 := (H1.out.alloc _).since k99 (fun i e => by unfold oneB at e; omega)
    refine ⟨hkk, fun _ => ?_⟩
    simp only [Act.put, List.setIfInBounds_toArray, List.set_cons_zero, List.set_cons_succ]
    exact reg_end (by kernel_rfl) (HCT.out w1.heap.size w99 hkk hB99 hge)
  case wb =>
    simp only [Act.put, List.setIfInBounds_toArray, List.set_cons_zero, List.set_cons_succ]
    have hbk : Blk (wd.alloc (.cells (tc ⟨0, [], [], [], []⟩).toArray 61)) wd.heap.size 61 (tc ⟨0, [], [], [], []⟩) := Blk.new wd _ _
    have hge := H0.out.size
    have H0a := Lib.hid (H0.out.alloc (.cells (tc ⟨0, [], [], [], []⟩).toArray 61))
    generalize wd.alloc (.cells (tc ⟨0, [], [], [], []⟩).toArray 61) = wda at *
    refine reg_call 5 (some 31) rfl rfl (by kernel_rfl) (by rfl) _ _ (exec_func 21 _ _ [.slice B m d] rfl (by kernel_rfl) rfl) ?_
    refine (joined_any B m d ps F _ (HP.out.keep0 H0a.out) (by have := HLP.out; omega)).mono ?_
    rintro e w1 ⟨rfl, k1⟩
    have H1 := Lib.hid (H0a.out.trans k1 (fun _ e => e.elim))
    have hbk2 := hbk.keep k1 (fun e => e)
    clear k1
    refine ⟨_, rfl, H1.out, fun _ => ?_⟩
    simp only [Act.put, List.setIfInBounds_toArray, List.set_cons_zero, List.set_cons_succ]
    refine reg_take (v := .agg (tc (sealT key nonce (catP ps) text)).toArray) 8 (some 34) rfl rfl (by kernel_rfl) (by kernel_rfl) (by kernel_rfl) (by rfl) H1.out (fun w hw => by first | (go_simp; done) | kernel_rfl) ?_
    simp only [Act.put, List.setIfInBounds_toArray, List.set_cons_zero, List.set_cons_succ]
    refine reg_store 10 none 61 (.tmp 12) (.tmp 34) rfl rfl rfl (by kernel_rfl) (by rfl) wd.heap.size _ _ (tc (sealT key nonce (catP ps) text)) hbk2 rfl rfl rfl (by kernel_rfl) (tc_one _) ?_
    intro w99 hB99 k99 z99
    have hkk : Kp nob w0 w99 := (H1.out).since k99 (fun i e => by unfold oneB at e; omega)
    refine ⟨hkk, fun _ => ?_⟩
    simp only [Act.put, List.setIfInBounds_toArray, List.set_cons_zero, List.set_cons_succ]
    exact reg_end (by kernel_rfl) (HCT.out wd.heap.size w99 hkk hB99 hge)
end Go.Proofs.Ytakhanganifpnaa.Ideal
