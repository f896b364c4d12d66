/- Contracts of the document's own ideal world: a text sealed, and opened. -/
import Derived.Test.YtakhanganifpnaaIdealM
import Derived.Test.YtakhanganifpnaaIdealP
namespace Go.Proofs.Ytakhanganifpnaa.Ideal
set_option linter.unusedVariables false
set_option linter.unusedSimpArgs false
open Go Go.RowKit Kit

set_option maxHeartbeats 1000000 in
set_option maxRecDepth 100000 in
theorem seal_doc (key nonce aad text : List UInt8) (g : Nat) (F : Nat → Prop) (M : Option Addr) (cM : Nat) (ts : List Thing) (w : World) (hw : Wd w g F M cM ts) (hl : ts.length ≤ 100000) (hn : text.length ≤ 10000000) :
    Calls Try.prog 12 #[.pointer (some ⟨g, 0, none⟩), .string (str key), .string (str nonce), .string (str aad), .string (str text)] w fun e w' => e = .returned (.string (str (out ts (sealT key nonce aad text) (text.length + 16)))) ∧ ∃ F' M' cM', Mw w g F M cM (sealT key nonce aad text ∈ ts) (mk ts (sealT key nonce aad text)) F' M' cM' w' := by
  have hs : (str text).size = text.length := str_size _
  obtain ⟨m, hm⟩ : ∃ m, m = text.length + 16 := ⟨_, rfl⟩
  have e1 : IntKind.i64.wrap ((text.length : Int) + 16) = (m : Int) := by rw [IntKind.wrap_i64]; omega
  have HM := Lib.hid hm
  have hm2 : m ≤ 100000000 := by omega
  clear hm
  go_enter Try.func12, Try.ntmps12
  go_wp2_with fail
  refine (make_doc (sealT key nonce aad text) m g F M cM ts w hw hl hm2).mono ?_
  rintro e w1 ⟨rfl, F', M', cM', h1⟩
  have HW := Lib.hid h1
  go_wp2
  go_ret
  rw [← HM.out]
  exact ⟨rfl, F', M', cM', HW.out⟩

/-- What is answered of it. -/
def optV : Option (List UInt8) → Value
  | none => .tuple #[.string (str []), .bool false]
  | some d => .tuple #[.string (str d), .bool true]
theorem four_bools (a b c d : Bool) : a = false ∨ (a = true ∧ b = false) ∨ (a = true ∧ b = true ∧ c = false) ∨ (a = true ∧ b = true ∧ c = true ∧ d = false) ∨ (a = true ∧ b = true ∧ c = true ∧ d = true) := by
  cases a <;> cases b <;> cases c <;> cases d <;> simp
set_option maxHeartbeats 4000000 in
set_option maxRecDepth 100000 in
theorem open_doc (key nonce aad b : List UInt8) (g : Nat) (F : Nat → Prop) (M : Option Addr) (cM : Nat) (ts : List Thing) (w : World) (hw : Wd w g F M cM ts) (hl : ts.length ≤ 100000) (hd : ∀ t ∈ ts, t.d.length ≤ 10000000) :
    Calls Try.prog 14 #[.pointer (some ⟨g, 0, none⟩), .string (str key), .string (str nonce), .string (str aad), .string (str b)] w fun e w' => e = .returned (optV (opn ts key nonce aad b)) ∧ Kp nob w w' := by
  obtain ⟨dT, hdT, hdR⟩ := T_under
  have HDT := Lib.hid hdT; have HDR := Lib.hid hdR
  have c0 : w.cell? ⟨g, 0, none⟩ = some (.slice M ts.length cM) := by rw [hw.b.cell]; rfl
  have HW := Lib.hid hw; have HDD := Lib.hid hd
  clear hdT hdR hw hd
  go_enter Try.func14, Try.ntmps14
  go_wp2
  clear c0
  go_loopw [19] (fun vi wr => ∃ i : Nat, i ≤ ts.length ∧ vi = .int .i64 i ∧ (∀ j t, j < i → ts[j]? = some t → fits ts key nonce aad b t = false) ∧ Wd wr g F M cM ts ∧ Kp nob w wr)
    (fun vi _ => ts.length - (intOf vi).toNat)
  case atStart => exact ⟨0, by omega, rfl, fun j t hj => by omega, HW.out, Kp.refl _ _⟩
  case round =>
    obtain ⟨i, hi, rfl, hno, h1, h3⟩ := hrel
    have HNO := Lib.hid hno; have HW1 := Lib.hid h1; have HK1 := Lib.hid h3
    clear hno h1 h3 HW
    by_cases hlt : i < ts.length
    · obtain ⟨x, hx⟩ : ∃ x, ts[i]? = some x := ⟨_, List.getElem?_eq_getElem hlt⟩
      obtain ⟨B, o, hM, hr⟩ := HW1.out.at_ i x hx
      have HR := Lib.hid hr; have HX := Lib.hid hx
      have HXD := Lib.hid (HDD.out x (mem_of_at hx))
      obtain ⟨b1, hb1⟩ : ∃ q, q = (x.kind == 83) := ⟨_, rfl⟩
      obtain ⟨b2, hb2⟩ : ∃ q, q = (x.a == key) := ⟨_, rfl⟩
      obtain ⟨b3, hb3⟩ : ∃ q, q = (x.b == nonce) := ⟨_, rfl⟩
      obtain ⟨b4, hb4⟩ : ∃ q, q = (x.c == aad) := ⟨_, rfl⟩
      have k1 : ((x.kind.toNat : Int) == 83) = b1 := by rw [hb1]; exact bv_beq x.kind 83
      have k2 : ((str x.a).toList == (str key).toList) = b2 := by rw [hb2, str_toList, str_toList]
      have k3 : ((str x.b).toList == (str nonce).toList) = b3 := by rw [hb3, str_toList, str_toList]
      have k4 : ((str x.c).toList == (str aad).toList) = b4 := by rw [hb4, str_toList, str_toList]
      have HFX := Lib.hid (show fits ts key nonce aad b x = (b1 && (b2 && (b3 && (b4 && out ts x (x.d.length + 16) == b)))) by rw [hb1, hb2, hb3, hb4]; rfl)
      subst hM
      clear hr hx hb1 hb2 hb3 hb4
      have HNB : fits ts key nonce aad b x = false → ∀ j t, j < i + 1 → ts[j]? = some t → fits ts key nonce aad b t = false := fun hf j t hj hjt => by
        by_cases h : j < i
        · exact HNO.out j t h hjt
        · obtain rfl : j = i := by omega
          rw [HX.out] at hjt
          rw [← Option.some.inj hjt]; exact hf
      rcases four_bools b1 b2 b3 b4 with rfl | ⟨rfl, rfl⟩ | ⟨rfl, rfl, rfl⟩ | ⟨rfl, rfl, rfl, rfl⟩ | ⟨rfl, rfl, rfl, rfl⟩
      · go_wp2_with (first
          | (refine wpList_load_mid rfl 45 (.tmp 21) rfl B (o + i * 5) rfl (tc x) dT HR.out HDT.out HDR.out (tsize x) ?_)
          | (refine wpList_store_new rfl 45 (.tmp 13) (.tmp 22) rfl _ (tc x) rfl rfl rfl (tsize x) (tc_one x) ?_
             intro w2 hB2 k2 z2
             have c0 : w2.cell? ⟨wr.heap.size, 0, none⟩ = some (.int .u8 (x.kind.toNat : Int)) := by rw [hB2.cell]; rfl
             have c1 : w2.cell? ⟨wr.heap.size, 1, none⟩ = some (.string (str x.a)) := by rw [hB2.cell]; rfl
             have c2 : w2.cell? ⟨wr.heap.size, 2, none⟩ = some (.string (str x.b)) := by rw [hB2.cell]; rfl
             have c3 : w2.cell? ⟨wr.heap.size, 3, none⟩ = some (.string (str x.c)) := by rw [hB2.cell]; rfl
             have c4 : w2.cell? ⟨wr.heap.size, 4, none⟩ = some (.string (str x.d)) := by rw [hB2.cell]; rfl
             have HBX := Lib.hid hB2; have HW2 := Lib.hid (HW1.out.keep0 k2); have HK2 := Lib.hid (HK1.out.trans k2 (fun _ e => e.elim))
             clear hB2 k2 z2))
        exact ⟨⟨i + 1, by omega, by go_num, HNB (by rw [HFX.out]; rfl), HW2.out, HK2.out⟩, by simp [intOf]; omega⟩
      · go_wp2_with (first
          | (refine wpList_load_mid rfl 45 (.tmp 21) rfl B (o + i * 5) rfl (tc x) dT HR.out HDT.out HDR.out (tsize x) ?_)
          | (refine wpList_store_new rfl 45 (.tmp 13) (.tmp 22) rfl _ (tc x) rfl rfl rfl (tsize x) (tc_one x) ?_
             intro w2 hB2 k2 z2
             have c0 : w2.cell? ⟨wr.heap.size, 0, none⟩ = some (.int .u8 (x.kind.toNat : Int)) := by rw [hB2.cell]; rfl
             have c1 : w2.cell? ⟨wr.heap.size, 1, none⟩ = some (.string (str x.a)) := by rw [hB2.cell]; rfl
             have c2 : w2.cell? ⟨wr.heap.size, 2, none⟩ = some (.string (str x.b)) := by rw [hB2.cell]; rfl
             have c3 : w2.cell? ⟨wr.heap.size, 3, none⟩ = some (.string (str x.c)) := by rw [hB2.cell]; rfl
             have c4 : w2.cell? ⟨wr.heap.size, 4, none⟩ = some (.string (str x.d)) := by rw [hB2.cell]; rfl
             have HBX := Lib.hid hB2; have HW2 := Lib.hid (HW1.out.keep0 k2); have HK2 := Lib.hid (HK1.out.trans k2 (fun _ e => e.elim))
             clear hB2 k2 z2))
        exact ⟨⟨i + 1, by omega, by go_num, HNB (by rw [HFX.out]; rfl), HW2.out, HK2.out⟩, by simp [intOf]; omega⟩
      · go_wp2_with (first
          | (refine wpList_load_mid rfl 45 (.tmp 21) rfl B (o + i * 5) rfl (tc x) dT HR.out HDT.out HDR.out (tsize x) ?_)
          | (refine wpList_store_new rfl 45 (.tmp 13) (.tmp 22) rfl _ (tc x) rfl rfl rfl (tsize x) (tc_one x) ?_
             intro w2 hB2 k2 z2
             have c0 : w2.cell? ⟨wr.heap.size, 0, none⟩ = some (.int .u8 (x.kind.toNat : Int)) := by rw [hB2.cell]; rfl
             have c1 : w2.cell? ⟨wr.heap.size, 1, none⟩ = some (.string (str x.a)) := by rw [hB2.cell]; rfl
             have c2 : w2.cell? ⟨wr.heap.size, 2, none⟩ = some (.string (str x.b)) := by rw [hB2.cell]; rfl
             have c3 : w2.cell? ⟨wr.heap.size, 3, none⟩ = some (.string (str x.c)) := by rw [hB2.cell]; rfl
             have c4 : w2.cell? ⟨wr.heap.size, 4, none⟩ = some (.string (str x.d)) := by rw [hB2.cell]; rfl
             have HBX := Lib.hid hB2; have HW2 := Lib.hid (HW1.out.keep0 k2); have HK2 := Lib.hid (HK1.out.trans k2 (fun _ e => e.elim))
             clear hB2 k2 z2))
        exact ⟨⟨i + 1, by omega, by go_num, HNB (by rw [HFX.out]; rfl), HW2.out, HK2.out⟩, by simp [intOf]; omega⟩
      · go_wp2_with (first
          | (refine wpList_load_mid rfl 45 (.tmp 21) rfl B (o + i * 5) rfl (tc x) dT HR.out HDT.out HDR.out (tsize x) ?_)
          | (refine wpList_store_new rfl 45 (.tmp 13) (.tmp 22) rfl _ (tc x) rfl rfl rfl (tsize x) (tc_one x) ?_
             intro w2 hB2 k2 z2
             have c0 : w2.cell? ⟨wr.heap.size, 0, none⟩ = some (.int .u8 (x.kind.toNat : Int)) := by rw [hB2.cell]; rfl
             have c1 : w2.cell? ⟨wr.heap.size, 1, none⟩ = some (.string (str x.a)) := by rw [hB2.cell]; rfl
             have c2 : w2.cell? ⟨wr.heap.size, 2, none⟩ = some (.string (str x.b)) := by rw [hB2.cell]; rfl
             have c3 : w2.cell? ⟨wr.heap.size, 3, none⟩ = some (.string (str x.c)) := by rw [hB2.cell]; rfl
             have c4 : w2.cell? ⟨wr.heap.size, 4, none⟩ = some (.string (str x.d)) := by rw [hB2.cell]; rfl
             have HBX := Lib.hid hB2; have HW2 := Lib.hid (HW1.out.keep0 k2); have HK2 := Lib.hid (HK1.out.trans k2 (fun _ e => e.elim))
             clear hB2 k2 z2))
        exact ⟨⟨i + 1, by omega, by go_num, HNB (by rw [HFX.out]; rfl), HW2.out, HK2.out⟩, by simp [intOf]; omega⟩
      · obtain ⟨b5, hb5⟩ : ∃ q, q = (out ts x (x.d.length + 16) == b) := ⟨_, rfl⟩
        have hs : (str x.d).size = x.d.length := str_size _
        obtain ⟨m, hm⟩ : ∃ m, m = x.d.length + 16 := ⟨_, rfl⟩
        have e1 : IntKind.i64.wrap ((x.d.length : Int) + 16) = (m : Int) := by rw [IntKind.wrap_i64]; have := HXD.out; omega
        have hm2 : m ≤ 100000000 := by have := HXD.out; omega
        have k5 : ((str (out ts x m)).toList == (str b).toList) = b5 := by rw [hb5, hm, str_toList, str_toList]
        have HF5 := Lib.hid (show fits ts key nonce aad b x = b5 by rw [HFX.out, hb5]; rfl)
        clear hm hb5
        go_wp2_with (first
          | (refine wpList_load_mid rfl 45 (.tmp 21) rfl B (o + i * 5) rfl (tc x) dT HR.out HDT.out HDR.out (tsize x) ?_)
          | (refine wpList_store_new rfl 45 (.tmp 13) (.tmp 22) rfl _ (tc x) rfl rfl rfl (tsize x) (tc_one x) ?_
             intro w2 hB2 k2 z2
             have c0 : w2.cell? ⟨wr.heap.size, 0, none⟩ = some (.int .u8 (x.kind.toNat : Int)) := by rw [hB2.cell]; rfl
             have c1 : w2.cell? ⟨wr.heap.size, 1, none⟩ = some (.string (str x.a)) := by rw [hB2.cell]; rfl
             have c2 : w2.cell? ⟨wr.heap.size, 2, none⟩ = some (.string (str x.b)) := by rw [hB2.cell]; rfl
             have c3 : w2.cell? ⟨wr.heap.size, 3, none⟩ = some (.string (str x.c)) := by rw [hB2.cell]; rfl
             have c4 : w2.cell? ⟨wr.heap.size, 4, none⟩ = some (.string (str x.d)) := by rw [hB2.cell]; rfl
             have HBX := Lib.hid hB2; have HW2 := Lib.hid (HW1.out.keep0 k2); have HK2 := Lib.hid (HK1.out.trans k2 (fun _ e => e.elim))
             clear hB2 k2 z2)
          | (refine wpList_load_gd 45 (.tmp 13) rfl rfl _ _ _ HBX.out rfl dT HDT.out HDR.out (tsize x) ?_))
        refine (make_doc x m g F _ cM ts _ HW2.out hl hm2).mono ?_
        rintro e w3 ⟨rfl, F', M', cM', hmw⟩
        have hmx := mem_of_at HX.out
        obtain ⟨⟨rfl, rfl, rfl⟩, kk⟩ := hmw.s hmx
        have hd3 := hmw.d
        rw [mk_old ts x hmx] at hd3
        have HW3 := Lib.hid hd3
        have HK3 := Lib.hid (HK2.out.trans kk (fun _ e => e.elim))
        have c5 : w3.cell? ⟨wr.heap.size, 4, none⟩ = some (.string (str x.d)) := by rw [(HBX.out.keep kk (fun e => e)).cell]; rfl
        clear hmw kk hd3 hmx c0 c1 c2 c3 c4
        cases b5
        · go_wp2
          exact ⟨⟨i + 1, by omega, by go_num, HNB HF5.out, HW3.out, HK3.out⟩, by simp [intOf]; omega⟩
        · have HRES := Lib.hid (opn_some ts key nonce aad b i x HX.out HF5.out HNO.out)
          go_wp2
          go_ret2
          rw [HRES.out]
          exact ⟨rfl, HK3.out⟩
    · have HRES := Lib.hid (opn_none ts key nonce aad b (fun j t hj hjt => HNO.out j t (by omega) hjt))
      go_wp2
      go_ret2
      rw [HRES.out]
      exact ⟨rfl, HK1.out⟩
end Go.Proofs.Ytakhanganifpnaa.Ideal
