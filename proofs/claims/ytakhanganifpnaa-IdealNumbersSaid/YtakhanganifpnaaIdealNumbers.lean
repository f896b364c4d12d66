/- IdealNumbers: things get their numbers in the order in which they are made first, over all kinds. -/
import Derived.Test.YtakhanganifpnaaIdealL
import Derived.BigQuiet
import Derived.Deep.QuietTactic
namespace Go.Proofs.Ytakhanganifpnaa.Ideal
set_option linter.unusedVariables false
set_option linter.unusedSimpArgs false
open Go Go.RowKit Kit
open Sha (Pc PcsOk catP)

/-- What was made of the texts so far. -/
structure Nb (ss : List (List UInt8)) (i : Nat) (ts : List Thing) : Prop where
  of ::
  h : ∀ s, hashT s ∈ ts ↔ s ∈ ss.take i
  m : ∀ s, macT [107] s ∈ ts ↔ s ∈ ss.take i
  n : ts.length ≤ 2 * i
theorem nb_nil (ss : List (List UInt8)) : Nb ss 0 [] := ⟨fun s => by simp, fun s => by simp, by simp⟩
theorem mem_take_succ (ss : List (List UInt8)) (i : Nat) (x s : List UInt8) (hx : ss[i]? = some x) : s ∈ ss.take (i + 1) ↔ s = x ∨ s ∈ ss.take i := by
  rw [List.take_add_one, hx, List.mem_append]
  simp only [Option.toList_some, List.mem_singleton]
  exact or_comm
theorem Nb.old {ss : List (List UInt8)} {i : Nat} {ts : List Thing} (h : Nb ss i ts) {x : List UInt8} (hx : ss[i]? = some x) (ho : x ∈ ss.take i) : mk ts (hashT x) = ts ∧ Nb ss (i + 1) ts := by
  refine ⟨mk_old _ _ ((h.h x).2 ho), fun s => ?_, fun s => ?_, by have := h.n; omega⟩
  · rw [mem_take_succ ss i x s hx, h.h]
    exact ⟨.inr, fun e => e.elim (fun e => e ▸ ho) id⟩
  · rw [mem_take_succ ss i x s hx, h.m]
    exact ⟨.inr, fun e => e.elim (fun e => e ▸ ho) id⟩
theorem Nb.new {ss : List (List UInt8)} {i : Nat} {ts : List Thing} (h : Nb ss i ts) {x : List UInt8} (hx : ss[i]? = some x) (ho : x ∉ ss.take i) :
    num (mk ts (hashT x)) (hashT x) = ts.length + 1 ∧ (mk ts (hashT x)).length = ts.length + 1 ∧ (mk (mk ts (hashT x)) (macT [107] x)).length = ts.length + 2 ∧ Nb ss (i + 1) (mk (mk ts (hashT x)) (macT [107] x)) := by
  have h1 : hashT x ∉ ts := fun e => ho ((h.h x).1 e)
  have h2 : macT [107] x ∉ mk ts (hashT x) := fun e => by
    rcases (mem_mk _ _ _).1 e with e | e
    · have := congrArg Thing.kind e; simp [macT, hashT] at this
    · exact ho ((h.m x).1 e)
  have l1 : (mk ts (hashT x)).length = ts.length + 1 := by rw [mk_new _ _ h1]; simp
  have l2 : (mk (mk ts (hashT x)) (macT [107] x)).length = ts.length + 2 := by rw [mk_new _ _ h2, List.length_append, l1]; rfl
  refine ⟨num_new _ _ h1, l1, l2, fun s => ?_, fun s => ?_, by rw [l2]; have := h.n; omega⟩
  · rw [mem_take_succ ss i x s hx, mem_mk, mem_mk, h.h]
    constructor
    · rintro (e | e | e)
      · have := congrArg Thing.kind e; simp [macT, hashT] at this
      · exact .inl (by have := congrArg Thing.a e; exact this)
      · exact .inr e
    · rintro (rfl | e)
      · exact .inr (.inl rfl)
      · exact .inr (.inr e)
  · rw [mem_take_succ ss i x s hx, mem_mk, mem_mk, h.m]
    constructor
    · rintro (e | e | e)
      · exact .inl (by have := congrArg Thing.b e; exact this)
      · have := congrArg Thing.kind e; simp [macT, hashT] at this
      · exact .inr e
    · rintro (rfl | e)
      · exact .inl rfl
      · exact .inr (.inr e)
/-- The first among the first i, looked for from behind. -/
def Fst (ss : List (List UInt8)) (x : List UInt8) (i j f : Nat) : Prop := (f = 0 ∧ ∀ m, j ≤ m → m < i → ss[m]? ≠ some x) ∨ (j ≤ f ∧ f < i ∧ ss[f]? = some x)
theorem fst_start (ss : List (List UInt8)) (x : List UInt8) (i : Nat) : Fst ss x i i 0 := .inl ⟨rfl, fun m h1 h2 => by omega⟩
theorem Fst.yes {ss : List (List UInt8)} {x : List UInt8} {i j f : Nat} (h : Fst ss x i (j + 1) f) (hj : j < i) (e : ss[j]? = some x) : Fst ss x i j j := .inr ⟨Nat.le_refl _, hj, e⟩
theorem Fst.no {ss : List (List UInt8)} {x : List UInt8} {i j f : Nat} (h : Fst ss x i (j + 1) f) (e : ss[j]? ≠ some x) : Fst ss x i j f := by
  rcases h with ⟨h1, h2⟩ | ⟨h1, h2, h3⟩
  · refine .inl ⟨h1, fun m hm hi => ?_⟩
    by_cases he : m = j
    · rw [he]; exact e
    · exact h2 m (by omega) hi
  · exact .inr ⟨by omega, h2, h3⟩
theorem Fst.end_ {ss : List (List UInt8)} {x : List UInt8} {i f : Nat} (h : Fst ss x i 0 f) (hi : i ≤ ss.length) : (f = 0 ∧ x ∉ ss.take i) ∨ (f < i ∧ ss[f]? = some x ∧ x ∈ ss.take i) := by
  rcases h with ⟨h1, h2⟩ | ⟨h1, h2, h3⟩
  · refine .inl ⟨h1, fun hm => ?_⟩
    obtain ⟨m, hm1, e⟩ := List.mem_iff_getElem.1 hm
    rw [List.length_take] at hm1
    refine h2 m (by omega) (by omega) ?_
    rw [List.getElem?_eq_getElem (by omega), ← e, List.getElem_take]
  · refine .inr ⟨h2, h3, List.mem_of_getElem? (i := f) ?_⟩
    rw [List.getElem?_take, if_pos h2, h3]
theorem text_at {w : World} {A : Option Addr} {ss : List (List UInt8)} (h : Row w A (ss.map fun s => .string (str s))) (i : Nat) (x : List UInt8) (hx : ss[i]? = some x) : ∃ b o, A = some ⟨b, o, none⟩ ∧ b < w.heap.size ∧ w.cell? ⟨b, o + i, none⟩ = some (.string (str x)) := by
  have hi := (List.getElem?_eq_some_iff.1 hx).1
  obtain ⟨b, o, h1, h2, h3⟩ := h.at_ (i := i) (by rw [List.length_map]; exact hi)
  refine ⟨b, o, h1, h2, ?_⟩
  rw [h3, List.getElem_map, (List.getElem?_eq_some_iff.1 hx).2]
theorem num2 (k : Nat) (h : k < 65536) (ts : List Thing) (t : Thing) (hn : num (mk ts t) t = k) : (bvs (out ts t 32))[0]? = some (.int .u8 ((k % 256 : Nat) : Int)) ∧ (bvs (out ts t 32))[1]? = some (.int .u8 ((k / 256 : Nat) : Int)) := by
  refine ⟨?_, ?_⟩
  · rw [out_at ts t 32 k 0 (UInt8.ofNat k) hn (by simp [tok, le])]
    rw [UInt8.toNat_ofNat']
  · rw [out_at ts t 32 k 1 (UInt8.ofNat (k / 256)) hn (by simp [tok, le])]
    rw [UInt8.toNat_ofNat', Nat.mod_eq_of_lt (by omega)]
set_option maxHeartbeats 4000000 in
set_option maxRecDepth 100000 in
theorem numbers_yes (A : Option Addr) (n c : Nat) (ss : List (List UInt8)) (w : World) (hl : ss.length = n) (hr : Row w A (ss.map fun s => .string (str s))) (hn : n ≤ 60) :
    Calls Try.prog 7 #[.slice A n c] w fun e w' => e = .returned (.bool true) ∧ Kp nob w w' := by
  have d1 : decide ((60 : Int) < (n : Int)) = false := by simp; omega
  have HR := Lib.hid hr; have HL := Lib.hid hl
  clear hr hl
  have kc := fun (w : World) (C : Array Value) (n c : Nat) => Lib.run_convert_bytes_const (P := Try.prog) w 34 5 C n c u8sI u8I
  go_enter Try.func7, Try.ntmps7
  go_wp2_with fail
  refine (alive_yes _).mono ?_
  rintro e w1 ⟨rfl, k1⟩
  have HK1 := Lib.hid k1; clear k1
  go_wp2_with fail
  refine (new_i w1).mono ?_
  rintro e w2 ⟨p, F0, rfl, hq⟩
  have HQ := Lib.hid hq; clear hq
  go_wp2
  go_loopw [4, 19] (fun vn vi wr => ∃ (i : Nat) (ts : List Thing) (F : Nat → Prop), i ≤ n ∧ vi = .int .i64 i ∧ vn = .int .i64 (ts.length : Int) ∧ Nb ss i ts ∧ Iw wr p F ts ∧ (∀ k, F k → w.heap.size ≤ k) ∧ Kp nob w wr)
    (fun _ vi _ => n - (intOf vi).toNat)
  case atStart => exact ⟨0, [], F0, by omega, rfl, rfl, nb_nil ss, HQ.out.i, fun k e => Nat.le_trans HK1.out.size ((HQ.out.f k e).resolve_left (fun e => e)), HK1.out.trans HQ.out.k (fun _ e => e.elim)⟩
  case' round =>
    obtain ⟨i, ts, F, hi, rfl, rfl, hnb, hw, hF, hk⟩ := hrel
    have HNB := Lib.hid hnb; have HW := Lib.hid hw; have HF := Lib.hid hF; have HK := Lib.hid hk
    clear hnb hw hF hk HQ HK1
    by_cases hlt : i < n
    case' neg =>
      obtain rfl : i = n := by omega
      go_wp2
      go_ret
      exact ⟨rfl, HK.out⟩
    case' pos =>
      obtain ⟨x, hx⟩ : ∃ x, ss[i]? = some x := ⟨_, List.getElem?_eq_getElem (by rw [HL.out]; exact hlt)⟩
      have HX := Lib.hid hx
      obtain ⟨B, o, hA, hB, hc⟩ := text_at (HR.out.keep0 HK.out) i x hx
      subst hA
      have e1 : IntKind.i64.wrap ((i : Int) - 1) = (i : Int) - 1 := by rw [IntKind.wrap_i64]; omega
      clear hx hB
      by_cases hbig : 1024 < x.length
      case' pos =>
        have d2 : decide ((1024 : Int) < (x.length : Int)) = true := by simp; omega
        go_wp2
        go_ret
        exact ⟨rfl, HK.out⟩
      case' neg =>
        have d2 : decide ((1024 : Int) < (x.length : Int)) = false := by simp; omega
        go_wp2
        clear hc
        go_loopw [7, 8] (fun vf vk wx => ∃ j f : Nat, j ≤ i ∧ vf = .int .i64 f ∧ vk = .int .i64 ((j : Int) - 1) ∧ Fst ss x i j f ∧ wx = wr)
          (fun _ vk _ => (intOf vk + 1).toNat)
        case atStart => exact ⟨i, 0, by omega, rfl, rfl, fst_start ss x i, rfl⟩
        case round =>
          obtain ⟨j, f, hj, rfl, rfl, hf, rfl⟩ := hrel
          have HFS := Lib.hid hf
          clear hf
          by_cases h0 : j = 0
          case neg =>
            obtain ⟨k, rfl⟩ : ∃ k, j = k + 1 := ⟨j - 1, by omega⟩
            have ek : (((k + 1 : Nat) : Int) - 1) = (k : Int) := by omega
            rw [ek]
            have e2 : IntKind.i64.wrap ((k : Int) - 1) = (k : Int) - 1 := by rw [IntKind.wrap_i64]; omega
            obtain ⟨y, hy⟩ : ∃ y, ss[k]? = some y := ⟨_, List.getElem?_eq_getElem (by rw [HL.out]; omega)⟩
            have HY := Lib.hid hy
            obtain ⟨B', o', hA', hB', hc'⟩ := text_at (HR.out.keep0 HK.out) k y hy
            cases hA'
            obtain ⟨b, hb⟩ : ∃ b, b = (y == x) := ⟨_, rfl⟩
            have kb : ((str y).toList == (str x).toList) = b := by rw [hb, str_toList, str_toList]
            have HBX := Lib.hid hb
            clear hy hB' hb h0
            cases b
            · go_wp2
              exact ⟨⟨k, f, by omega, rfl, rfl, HFS.out.no (by rw [HY.out]; intro e; have := HBX.out; rw [Option.some.inj e] at this; simp at this), trivial⟩, by simp [intOf]⟩
            · go_wp2
              exact ⟨⟨k, k, by omega, rfl, rfl, HFS.out.yes (by omega) (by rw [HY.out]; have := HBX.out; rw [eq_comm, beq_iff_eq] at this; rw [this]), trivial⟩, by simp [intOf]⟩
          case pos =>
            subst h0
            have HEN := Lib.hid (HFS.out.end_ (by rw [HL.out]; omega))
            have H9 : Hid (num (mk ts (hashT x)) (hashT x) = ts.length + 1 → True) := Lib.hid (fun _ => trivial)
            have em : (((0 : Nat) : Int) - 1) = -1 := by omega
            have HHA : Hid (∀ F : Nat → Prop, True) := Lib.hid (fun _ => trivial)
            clear H9 HHA HFS
            have hts := HNB.out.n
            rcases HEN.out with ⟨rfl, ho⟩ | ⟨hfi, hfe, ho⟩
            case inr =>
              have HO := Lib.hid (HNB.out.old HX.out ho)
              obtain ⟨B', o', hA', hB', hc'⟩ := text_at (HR.out.keep0 HK.out) f x hfe
              cases hA'
              have d3 : ((i : Int) == 0) = false := by rw [beq_eq_false_iff_ne]; omega
              clear hfe hB' ho HEN
              go_wp2_with (first
                | (refine wpList_str_arg rfl 9 34 5 (.tmp 51) rfl strI u8sI u8I x (by unfold maxLen; omega) rfl ?_
                   intro c3 w3 k3 z3 ha3
                   have HA3 := Lib.hid (ha3 F HW.out.lt); have HK3 := Lib.hid k3
                   clear k3 z3 ha3 hc' d3)
                | fail)
              refine (hash_one p F ts _ _ _ x 34 w3 (HW.out.keep HK3.out (fun _ _ e => e)) HA3.out (by omega) (by omega)).mono ?_
              rintro e w4 ⟨F4, rfl, hq4⟩
              rw [HO.out.1] at hq4
              have HQ4 := Lib.hid hq4
              have HK4 := Lib.hid ((HK.out.trans HK3.out (fun _ e => e.elim)).since hq4.k HF.out)
              have HF4 : Hid (∀ k, F4 k → w.heap.size ≤ k) := Lib.hid (fun k e => (hq4.f k e).elim (HF.out k) (fun e => Nat.le_trans (HK.out.trans HK3.out (fun _ e => e.elim)).size e))
              have HDL := Lib.hid (bvs_len32 ts (hashT x))
              clear hq4
              go_wp2_with (first
                | (refine wpList_store_new rfl 41 (.tmp 10) (.tmp 54) rfl _ (bvs (out ts (hashT x) 32)) rfl rfl (by rw [HDL.out]; rfl) (by rw [HDL.out]; kernel_rfl) (bvs_one _) ?_
                   intro w5 hB5 k5 z5
                   have HW5 := Lib.hid (HQ4.out.i.keep k5 (fun _ _ e => e)); have HK5 := Lib.hid (HK4.out.trans k5 (fun _ e => e.elim))
                   clear hB5 k5 z5)
                | fail)
              refine (size_i p F4 ts w5 HW5.out).mono ?_
              rintro e w6 ⟨rfl, rfl⟩
              have d4 : ((ts.length : Int) == ts.length) = true := by simp
              go_wp2
              exact ⟨⟨i + 1, ts, F4, by omega, by go_num, rfl, HO.out.2, HW5.out, HF4.out, HK5.out⟩, by simp [intOf]; omega⟩
            case inl =>
              have HN := Lib.hid (HNB.out.new HX.out ho)
              obtain ⟨y, hy⟩ : ∃ y, ss[0]? = some y := ⟨_, List.getElem?_eq_getElem (by rw [HL.out]; omega)⟩
              obtain ⟨B', o', hA', hB', hc'⟩ := text_at (HR.out.keep0 HK.out) 0 y hy
              cases hA'
              rw [Nat.add_zero] at hc'
              by_cases hi0 : i = 0
              case' pos =>
                have d3 : ((i : Int) == 0) = true := by rw [beq_iff_eq]; omega
              case' neg =>
                have d3 : ((i : Int) == 0) = false := by rw [beq_eq_false_iff_ne]; omega
                have kb : ((str y).toList == (str x).toList) = false := by
                  rw [str_toList, str_toList, beq_eq_false_iff_ne]
                  intro e
                  refine ho (List.mem_of_getElem? (i := 0) ?_)
                  rw [List.getElem?_take, if_pos (by omega), hy, e]
              all_goals
                obtain ⟨k, hkk⟩ : ∃ k, k = ts.length + 1 := ⟨_, rfl⟩
                have HNK := Lib.hid (num2 k (by omega) ts (hashT x) (by rw [HN.out.1, hkk]))
                obtain ⟨q, hq⟩ : ∃ q, q = k / 256 := ⟨_, rfl⟩
                obtain ⟨r, hr⟩ : ∃ r, r = k % 256 := ⟨_, rfl⟩
                have e6 : IntKind.i64.wrap (256 * (q : Int)) = 256 * (q : Int) := by rw [IntKind.wrap_i64]; omega
                have e7 : IntKind.i64.wrap ((r : Int) + 256 * (q : Int)) = (k : Int) := by rw [IntKind.wrap_i64]; omega
                have e8 : IntKind.i64.wrap (r : Int) = (r : Int) := by rw [IntKind.wrap_i64]; omega
                have e9 : IntKind.i64.wrap (q : Int) = (q : Int) := by rw [IntKind.wrap_i64]; omega
                have e10 : IntKind.i64.wrap ((ts.length : Int) + 1) = (k : Int) := by rw [IntKind.wrap_i64]; omega
                have e11 : IntKind.i64.wrap ((k : Int) + 1) = ((k + 1 : Nat) : Int) := by rw [IntKind.wrap_i64]; omega
                rw [← hq, ← hr] at HNK
                have HKL : Hid ((mk ts (hashT x)).length = k ∧ (mk (mk ts (hashT x)) (macT [107] x)).length = k + 1) := Lib.hid ⟨by rw [HN.out.2.1, hkk], by rw [HN.out.2.2.1, hkk]⟩
                have HKB : Hid (k ≤ 200) := Lib.hid (by omega)
                have HI := Lib.hid hi0
                clear hy hB' ho HEN hq hr hkk hi0
                go_wp2_with (first
                  | (refine wpList_str_arg rfl 9 34 5 (.tmp 51) rfl strI u8sI u8I x (by unfold maxLen; omega) rfl ?_
                     intro c3 w3 k3 z3 ha3
                     have HA3 := Lib.hid (ha3 F HW.out.lt); have HK3 := Lib.hid k3
                     clear k3 z3 ha3 hc' d3)
                  | fail)
                refine (hash_one p F ts _ _ _ x 34 w3 (HW.out.keep HK3.out (fun _ _ e => e)) HA3.out (by omega) (by omega)).mono ?_
                rintro e w4 ⟨F4, rfl, hq4⟩
                have HQ4 := Lib.hid hq4
                have HK4 := Lib.hid ((HK.out.trans HK3.out (fun _ e => e.elim)).since hq4.k HF.out)
                have HF4 : Hid (∀ k, F4 k → w.heap.size ≤ k) := Lib.hid (fun k e => (hq4.f k e).elim (HF.out k) (fun e => Nat.le_trans (HK.out.trans HK3.out (fun _ e => e.elim)).size e))
                have HDL := Lib.hid (bvs_len32 ts (hashT x))
                clear hq4
                go_wp2_with (first
                  | (refine wpList_store_new rfl 41 (.tmp 10) (.tmp 54) rfl _ (bvs (out ts (hashT x) 32)) rfl rfl (by rw [HDL.out]; rfl) (by rw [HDL.out]; kernel_rfl) (bvs_one _) ?_
                     intro w5 hB5 k5 z5
                     have HW5 := Lib.hid (HQ4.out.i.keep k5 (fun _ _ e => e)); have HK5 := Lib.hid (HK4.out.trans k5 (fun _ e => e.elim))
                     have c0 : w5.cell? ⟨w4.heap.size, 0, none⟩ = some (.int .u8 (r : Int)) := by rw [hB5.cell, HNK.out.1]
                     have c1 : w5.cell? ⟨w4.heap.size, 1, none⟩ = some (.int .u8 (q : Int)) := by rw [hB5.cell, HNK.out.2]
                     clear hB5 k5 z5)
                  | fail)
                go_quiet ((go_at_call 19; exact quiet_left ((size_i p F4 _ _ (HW5.out.keep ((Kp.refl nob w5).drewN _) (fun _ _ e => e))).mono fun e w' h => ⟨by rw [h.1, HKL.out.1], h.2⟩)))
                generalize hwq : w5.drewN nq = wq
                have KQ : Hid (Kp nob w5 wq) := Lib.hid (by rw [← hwq]; exact (Kp.refl nob w5).drewN _)
                have HWQ := Lib.hid (HW5.out.keep KQ.out (fun _ _ e => e))
                have HKQ := Lib.hid (HK5.out.trans KQ.out (fun _ e => e.elim))
                have HLT := Lib.hid HWQ.out.lt
                clear hwq c0 c1 e6 e7 e8 e9 HW5 HK5 KQ HK3 HA3 HQ4 HK4
                go_wp2_with (first
                  | (refine wpList_str_arg rfl 9 34 5 (.tmp 72) rfl strI u8sI u8I x (by unfold maxLen; omega) rfl ?_
                     intro c6 w6 k6 z6 ha6
                     have ka := (Kp.refl nob wq).alloc (.cells (bvs [107]).toArray 5 (1, 2))
                     have hkey := (lit_arg wq [107] 5 (1, 2) (by decide) F4 HLT.out).keep0 k6
                     have htx := ha6 F4 (fun k e => Nat.lt_of_lt_of_le (HLT.out k e) ka.size)
                     rw [show (wq.alloc (.cells #[.int .u8 107] 5 (1, 2))).heap.size = wq.heap.size + 1 by simp] at htx
                     have HKEY := Lib.hid hkey; have HTX := Lib.hid htx
                     have HW6 := Lib.hid ((HWQ.out.keep ka (fun _ _ e => e)).keep k6 (fun _ _ e => e)); have HK6 := Lib.hid (HKQ.out.trans (ka.trans k6 (fun _ e => e.elim)) (fun _ e => e.elim))
                     clear k6 z6 ha6 ka hkey htx)
                  | fail)
                refine (mac_one p F4 _ _ 1 1 [107] _ x.length c6 x 34 w6 HW6.out HKEY.out HTX.out (by rw [HKL.out.1]; have := HKB.out; omega) (by decide) (by omega)).mono ?_
                rintro e w7 ⟨F7, rfl, hq7⟩
                have HW7 := Lib.hid hq7.i
                have HK7 := Lib.hid (HK6.out.since hq7.k HF4.out)
                have HF7 : Hid (∀ k, F7 k → w.heap.size ≤ k) := Lib.hid (fun k e => (hq7.f k e).elim (HF4.out k) (fun e => Nat.le_trans HK6.out.size e))
                clear hq7 HKEY HTX HW6 HK6 HWQ HKQ HLT kc
                go_wp2_with fail
                refine (size_i p F7 _ w7 HW7.out).mono ?_
                rintro e w8 ⟨rfl, rfl⟩
                rw [HKL.out.2]
                go_wp2
                exact ⟨⟨i + 1, _, F7, by omega, by go_num, by rw [HKL.out.2]; rfl, HN.out.2.2.2, HW7.out, HF7.out, HK7.out⟩, by simp [intOf]; omega⟩
theorem numbers_walk (A : Option Addr) (n c : Nat) (ss : List (List UInt8)) (w : World) (hl : ss.length = n) (hn : A = none → c = 0) (hr : Row w A (ss.map fun s => .string (str s))) (hc : n ≤ c) (hm : c ≤ maxLen) (hw : ∀ s ∈ ss, s.length ≤ 140737488355328) :
    Calls Try.prog 7 #[.slice A n c] w fun e w' => e = .returned (.bool true) ∧ Kp nob w w' := by
  by_cases h : n ≤ 60
  · exact numbers_yes A n c ss w hl hr h
  · have d1 : decide ((60 : Int) < (n : Int)) = true := by simp; omega
    go_enter Try.func7, Try.ntmps7
    go_wp2_with fail
    refine (alive_yes _).mono ?_
    rintro e w1 ⟨rfl, k1⟩
    go_wp2
    go_ret
    exact ⟨rfl, k1⟩
end Go.Proofs.Ytakhanganifpnaa.Ideal
