/- What the statements of layer 2 play: the document's example, pieces in one, equal digests, the pieces that come in. -/
import Derived.Test.YtccdlchbfanmdaaDoorShaH
import Derived.Stop.BytesEq
import Derived.Deep.Matrix
import Derived.Lib.SlBytesConst
namespace Go.Proofs.YtccdlchbfanmdaaDoor.Sha
open Go Go.RowKit Kit

theorem eq32 (xs ys : List UInt8) (hx : xs.length = 32) (hy : ys.length = 32) (w : World) : (Op.equalIn 10000 27 (.agg (bvs xs).toArray) (.agg (bvs ys).toArray)).run Tryd.prog w = .ok (xs == ys) w :=
  run_equalIn_bytes w 9998 27 5 32 arr32b (by kernel_rfl) (fun _ => by kernel_rfl) xs ys hx hy
theorem eq_same (l : List UInt8) (w : World) : (Op.equalIn 10000 27 (.agg (bvs (of l)).toArray) (.agg (bvs (of l)).toArray)).run Tryd.prog w = .ok true w := by
  rw [eq32 _ _ (of_length l) (of_length l)]; simp

theorem row_marked (w : World) (xs : List Value) (t : TypeId) (fr : Nat × Nat) : Row (w.alloc (.cells xs.toArray t fr)) (some ⟨w.heap.size, 0, none⟩) xs := by
  refine .inr ⟨w.heap.size, 0, rfl, by simp, fun i u hu => ?_⟩
  have h : (w.alloc (.cells xs.toArray t fr)).heap[w.heap.size]? = some (.cells xs.toArray t fr) := heap_alloc_new w _
  simp only [World.cell?, h, Nat.zero_add]
  simpa using hu
theorem pcs_one {w : World} {F : Nat → Prop} {p : Pc} (h1 : p.l.length = p.n) (h2 : Row w p.A (bvs p.l)) (h3 : p.l = [] ∨ ∀ k, ab p.A = some k → ¬ F k) (h4 : p.n ≤ p.c) (h5 : p.c ≤ maxLen) : PcsOk w F [p] := by
  intro q hq
  obtain rfl := List.mem_singleton.1 hq
  exact ⟨h1, h2, h3, h4, h5⟩
theorem of_one (p : Pc) (w : World) (t : TypeId) (g : Nat) (hg : g = w.heap.size) (ht : Tabs w) (hp : PcsOk w nob [p]) (hl : p.l.length ≤ 1099511627776) :
    Calls Tryd.prog 11 #[.slice (some ⟨g, 0, none⟩) 1 1] (w.alloc (.cells #[.slice p.A p.n p.c] t)) fun e w' => e = .returned (.agg (bvs (of p.l)).toArray) ∧ Kp nob w w' := by
  subst hg
  have K := (Kp.refl nob w).alloc (.cells #[.slice p.A p.n p.c] t)
  have e : catP [p] = p.l := by simp [catP]
  refine (of_any (some ⟨w.heap.size, 0, none⟩) 1 1 [p] _ (ht.keep0 K) rfl (row_one w _ t) (hp.keep0 K) (by omega) (by rw [e]; exact hl)).mono ?_
  rintro e' w' ⟨rfl, k⟩
  exact ⟨by rw [e], K.trans k (fun _ e => e.elim)⟩
theorem write_one (b : Nat) (l : List UInt8) (p : Pc) (w : World) (t : TypeId) (g : Nat) (hg : g = w.heap.size) (h : Has w b l) (ht : Tabs w) (hb : Far b) (hp : PcsOk w (oneB b) [p]) (hl : l.length + p.l.length ≤ 1099511627776) :
    Calls Tryd.prog 14 #[.pointer (some ⟨b, 0, none⟩), .slice (some ⟨g, 0, none⟩) 1 1] (w.alloc (.cells #[.slice p.A p.n p.c] t)) fun e w' => e = .returned (.tuple #[]) ∧ Has w' b (l ++ p.l) ∧ Kp (oneB b) w w' := by
  subst hg
  have K := (Kp.refl nob w).alloc (.cells #[.slice p.A p.n p.c] t)
  have hlt := h.lt
  have e : catP [p] = p.l := by simp [catP]
  have hne : ∀ k, ab (some (⟨w.heap.size, 0, none⟩ : Addr)) = some k → k ≠ b := by
    intro k e
    have : w.heap.size = k := by simpa [ab] using e
    omega
  refine (write_any b l (some ⟨w.heap.size, 0, none⟩) 1 1 [p] _ (h.keep K (fun e => e)) (ht.keep0 K) hb rfl (row_one w _ t) (.inr hne) (hp.keep K (fun _ e => e.elim)) (by omega) (by rw [e]; exact hl)).mono ?_
  rintro e' w' ⟨rfl, h2, k⟩
  exact ⟨rfl, by rw [e] at h2; exact h2, (K.nob (oneB b)).trans k (fun _ e => .inl e)⟩

def abc : List UInt8 := [97, 98, 99]
theorem of_abc : (of abc).take 4 = [186, 120, 22, 191] := by decide +kernel

set_option maxHeartbeats 1000000 in
set_option maxRecDepth 100000 in
theorem alive_yes (w : World) (ht : Tabs w) : Calls Tryd.prog 9 #[] w fun e w' => e = .returned (.bool true) ∧ Kp nob w w' := by
  obtain ⟨D, hD⟩ : ∃ D, D = of abc := ⟨_, rfl⟩
  have hl : D.length = 32 := by rw [hD]; exact of_length _
  have h4 : D.take 4 = [186, 120, 22, 191] := by rw [hD]; exact of_abc
  have g : ∀ i (h : i < 4), D[i]? = ([186, 120, 22, 191] : List UInt8)[i]? := fun i h => by rw [← h4, List.getElem?_take, if_pos h]
  have g0 := g 0 (by omega); have g1 := g 1 (by omega); have g2 := g 2 (by omega); have g3 := g 3 (by omega)
  have HD := Lib.hid hD; have HL := Lib.hid hl
  have G0 := Lib.hid g0; have G1 := Lib.hid g1; have G2 := Lib.hid g2; have G3 := Lib.hid g3
  have kc := fun (w : World) (C : Array Value) (n c : Nat) => Lib.run_convert_bytes_const (P := Tryd.prog) w 24 5 C n c u8s_under (by kernel_rfl)
  clear hD hl h4 g g0 g1 g2 g3
  go_enter Tryd.func9, Tryd.ntmps9
  go_wp2_with fail
  have K1 : ∀ o : Obj, Kp nob w (w.alloc o) := fun o => (Kp.refl nob w).alloc o
  have hr := row_marked w (bvs abc) 5 (3, 4)
  refine (of_one ⟨some ⟨w.heap.size, 0, none⟩, 3, 3, abc⟩ _ _ _ (by simp) (ht.keep0 (K1 _)) (pcs_one rfl hr (.inr (fun _ _ e => e)) (Nat.le_refl _) (by simp [maxLen])) (by show abc.length ≤ _; decide)).mono ?_
  rintro e w2 ⟨rfl, k2⟩
  have K2 := (K1 _).trans k2 (fun _ e => e.elim)
  rw [show of (Pc.l ⟨some ⟨w.heap.size, 0, none⟩, 3, 3, abc⟩) = D from HD.out.symm]
  clear hr k2 K1 kc
  go_wp2_with (refine wpList_store_new rfl 27 (.tmp 1) (.tmp 5) rfl _ (bvs D) rfl rfl (by rw [bvs_length, HL.out]; rfl) (by rw [bvs_length, HL.out]; kernel_rfl) (bvs_one _) ?_
               intro w3 hB3 k3 z3
               have c0 : w3.cell? ⟨w2.heap.size, 0, none⟩ = some (.int .u8 186) := by rw [hB3.cell, bvs, List.getElem?_map, G0.out]; rfl
               have c1 : w3.cell? ⟨w2.heap.size, 1, none⟩ = some (.int .u8 120) := by rw [hB3.cell, bvs, List.getElem?_map, G1.out]; rfl
               have c2 : w3.cell? ⟨w2.heap.size, 2, none⟩ = some (.int .u8 22) := by rw [hB3.cell, bvs, List.getElem?_map, G2.out]; rfl
               have c3 : w3.cell? ⟨w2.heap.size, 3, none⟩ = some (.int .u8 191) := by rw [hB3.cell, bvs, List.getElem?_map, G3.out]; rfl
               clear hB3 z3)
  go_ret
  exact ⟨rfl, K2.trans k3 (fun _ e => e.elim)⟩

/-- ok: they are as few as is played. -/
def few (ps : List Pc) (m : Nat) : Bool := decide (m ≤ 200 ∧ (catP ps).length ≤ 8192)
set_option maxHeartbeats 1000000 in
theorem joined_yes (A : Option Addr) (m c : Nat) (ps : List Pc) (w : World) (hm : ps.length = m) (hr : Row w A (ps.map Pc.v)) (hp : PcsOk w nob ps) (hA : ∀ p ∈ ps, p.A = none → p.c = 0) (hm2 : m ≤ 200) (hl : (catP ps).length ≤ 8192) :
    Calls Tryd.prog 10 #[.slice A m c] w fun e w' => ∃ A' c', e = .returned (.tuple #[.slice A' (catP ps).length c', .bool true]) ∧ Own 5 w' A' (catP ps).length c' (bvs (catP ps)) ∧ Kp nob w w' ∧ (∀ k, ab A' = some k → w.heap.size ≤ k) := by
  obtain ⟨i0, hi, hz0, hz1, hz2⟩ := info_parts u8s_info
  go_enter Tryd.func10, Tryd.ntmps10
  go_wp2
  go_loopw [4, 12] (fun va vi wr => ∃ (k : Nat) (B : Option Addr) (cB : Nat), k ≤ m ∧ vi = .int .i64 k ∧ va = .slice B (catP (ps.take k)).length cB ∧ Own 5 wr B (catP (ps.take k)).length cB (bvs (catP (ps.take k))) ∧ Kp nob w wr ∧ ∀ j, ab B = some j → w.heap.size ≤ j)
    (fun _ vi _ => m - (intOf vi).toNat)
  case atStart => exact ⟨0, none, 0, by omega, rfl, by simp [catP], by simpa [catP, bvs] using Own.nil _ _, Kp.refl _ _, fun _ e => by cases e⟩
  case round =>
    obtain ⟨k, B, cB, hk, rfl, rfl, ho, hkp, hB⟩ := hrel
    have HO := Lib.hid ho; clear ho
    by_cases hlt : k < m
    · obtain ⟨p, hpk⟩ : ∃ p, p = ps[k]'(by omega) := ⟨_, rfl⟩
      obtain ⟨bb, oo, rfl, hbb, hcell⟩ := hr.at_ (i := k) (by simp [hm]; exact hlt)
      have hce : wr.cell? ⟨bb, oo + k, none⟩ = some (.slice p.A p.n p.c) := by rw [hkp.cell (p := ⟨bb, oo + k, none⟩) hbb (fun e => e), hcell, hpk]; simp [Pc.v]
      obtain ⟨q1, q2, q3, q4, q5⟩ := hp p (by rw [hpk]; exact List.getElem_mem _)
      have qA := hA p (by rw [hpk]; exact List.getElem_mem _)
      have q2' : Row wr p.A (bvs p.l) := q2.keep0 hkp
      have hsn := catP_snoc ps k (by omega)
      have hle := catP_le ps (k + 1)
      rw [hsn, List.length_append, ← hpk, q1] at hle
      rw [← hpk] at hsn
      have hln : (catP (ps.take (k + 1))).length = (catP (ps.take k)).length + p.n := by rw [hsn, List.length_append, q1]
      obtain ⟨L, hL⟩ : ∃ L, L = (catP (ps.take k)).length := ⟨_, rfl⟩
      rw [← hL] at HO hle hln ⊢
      have HS := Lib.hid hsn; have HQ := Lib.hid q1; have HLN := Lib.hid hln; have HLL := Lib.hid hL
      have hb2 : L + p.n ≤ 8192 := by omega
      clear hsn hpk hcell hle hln q1 hL
      go_wp2_with (at_builtin
                   refine wpList_appR _ rfl (.tmp 22) (.tmp 23) 24 rfl 5 i0 (.int .u8 0) 1 u8s_under hi hz0 hz1 hz2 rfl B L cB _ rfl HO.out p.A p.n p.c (bvs p.l) rfl qA (by rw [bvs_length, HQ.out]) q2' (bvs_one _) (by omega) (by omega) ?_
                   intro B2 c2 w2 hown2 hg2 hab2
                   have K2 : Kp nob w w2 := hkp.grown hg2 (fun k e => .inr (hB k e))
                   have g2 : ∀ k, ab B2 = some k → w.heap.size ≤ k := fun k e => by
                     rcases hab2 with h | h <;> rw [h] at e
                     · exact hB k e
                     · cases e; exact hkp.size
                   have o2 : Hid (Own 5 w2 B2 (L + p.n) c2 (bvs (catP (ps.take (k + 1))))) := Lib.hid (by rw [HS.out, bvs_append]; exact hown2)
                   clear hg2 hab2 hown2)
      refine ⟨?rel, by simp [intOf]; omega⟩
      case rel => exact ⟨k + 1, B2, c2, by omega, by go_num, by rw [HLN.out], by rw [HLN.out]; exact o2.out, K2, g2⟩
    · go_wp2
      go_ret2
      have e : ps.take k = ps := List.take_of_length_le (by omega)
      have := HO.out
      rw [e] at this ⊢
      exact ⟨B, cB, rfl, this, hkp, hB⟩

set_option maxHeartbeats 1000000 in
theorem joined_many (A : Option Addr) (m c : Nat) (w : World) (hm2 : 200 < m) (hmm : m ≤ maxLen) :
    Calls Tryd.prog 10 #[.slice A m c] w fun e w' => e = .returned (.tuple #[.slice none 0 0, .bool false]) ∧ Kp nob w w' := by
  unfold maxLen at hmm
  go_enter Tryd.func10, Tryd.ntmps10
  go_wp2
  go_ret2
  exact ⟨rfl, Kp.refl _ _⟩
set_option maxHeartbeats 1000000 in
theorem joined_long (A : Option Addr) (m c : Nat) (ps : List Pc) (w : World) (hm : ps.length = m) (hr : Row w A (ps.map Pc.v)) (hp : PcsOk w nob ps) (hA : ∀ p ∈ ps, p.A = none → p.c = 0) (hn : ∀ p ∈ ps, p.n ≤ 140737488355328) (hm2 : m ≤ 200) (hl : 8192 < (catP ps).length) :
    Calls Tryd.prog 10 #[.slice A m c] w fun e w' => e = .returned (.tuple #[.slice none 0 0, .bool false]) ∧ Kp nob w w' := by
  obtain ⟨i0, hi, hz0, hz1, hz2⟩ := info_parts u8s_info
  go_enter Tryd.func10, Tryd.ntmps10
  go_wp2
  go_loopw [4, 12] (fun va vi wr => ∃ (k : Nat) (B : Option Addr) (cB : Nat), k ≤ m ∧ vi = .int .i64 k ∧ va = .slice B (catP (ps.take k)).length cB ∧ (catP (ps.take k)).length ≤ 8192 ∧ Own 5 wr B (catP (ps.take k)).length cB (bvs (catP (ps.take k))) ∧ Kp nob w wr ∧ ∀ j, ab B = some j → w.heap.size ≤ j)
    (fun _ vi _ => m - (intOf vi).toNat)
  case atStart => exact ⟨0, none, 0, by omega, rfl, by simp [catP], by simp [catP], by simpa [catP, bvs] using Own.nil _ _, Kp.refl _ _, fun _ e => by cases e⟩
  case round =>
    obtain ⟨k, B, cB, hk, rfl, rfl, h81, ho, hkp, hB⟩ := hrel
    have HO := Lib.hid ho; clear ho
    by_cases hlt : k < m
    · obtain ⟨p, hpk⟩ : ∃ p, p = ps[k]'(by omega) := ⟨_, rfl⟩
      obtain ⟨bb, oo, rfl, hbb, hcell⟩ := hr.at_ (i := k) (by simp [hm]; exact hlt)
      have hce : wr.cell? ⟨bb, oo + k, none⟩ = some (.slice p.A p.n p.c) := by rw [hkp.cell (p := ⟨bb, oo + k, none⟩) hbb (fun e => e), hcell, hpk]; simp [Pc.v]
      obtain ⟨q1, q2, q3, q4, q5⟩ := hp p (by rw [hpk]; exact List.getElem_mem _)
      have qA := hA p (by rw [hpk]; exact List.getElem_mem _)
      have qn := hn p (by rw [hpk]; exact List.getElem_mem _)
      have q2' : Row wr p.A (bvs p.l) := q2.keep0 hkp
      have hsn := catP_snoc ps k (by omega)
      rw [← hpk] at hsn
      have hln : (catP (ps.take (k + 1))).length = (catP (ps.take k)).length + p.n := by rw [hsn, List.length_append, q1]
      obtain ⟨L, hL⟩ : ∃ L, L = (catP (ps.take k)).length := ⟨_, rfl⟩
      rw [← hL] at HO h81 hln ⊢
      have HS := Lib.hid hsn; have HQ := Lib.hid q1; have HLN := Lib.hid hln; have HLL := Lib.hid hL
      clear hsn hpk hcell hln q1 hL
      by_cases hb2 : L + p.n ≤ 8192
      · go_wp2_with (at_builtin
                     refine wpList_appR _ rfl (.tmp 22) (.tmp 23) 24 rfl 5 i0 (.int .u8 0) 1 u8s_under hi hz0 hz1 hz2 rfl B L cB _ rfl HO.out p.A p.n p.c (bvs p.l) rfl qA (by rw [bvs_length, HQ.out]) q2' (bvs_one _) (by omega) (by omega) ?_
                     intro B2 c2 w2 hown2 hg2 hab2
                     have K2 : Kp nob w w2 := hkp.grown hg2 (fun k e => .inr (hB k e))
                     have g2 : ∀ k, ab B2 = some k → w.heap.size ≤ k := fun k e => by
                       rcases hab2 with h | h <;> rw [h] at e
                       · exact hB k e
                       · cases e; exact hkp.size
                     have o2 : Hid (Own 5 w2 B2 (L + p.n) c2 (bvs (catP (ps.take (k + 1))))) := Lib.hid (by rw [HS.out, bvs_append]; exact hown2)
                     clear hg2 hab2 hown2)
        refine ⟨?rel, by simp [intOf]; omega⟩
        case rel => exact ⟨k + 1, B2, c2, by omega, by go_num, by rw [HLN.out], by rw [HLN.out]; exact hb2, by rw [HLN.out]; exact o2.out, K2, g2⟩
      · go_wp2
        go_ret2
        exact ⟨rfl, hkp⟩
    · exfalso
      rw [List.take_of_length_le (by omega)] at h81
      omega

/-- The argument of pieces, opened. -/
theorem pcs_of {H : Type} {enc : TypeId × Value → H} {W : World} {base : Nat} {held : Bool} {fuel : Nat} {A : Option Addr} {len cap : Nat} {x : DataW H × List MemPlace}
    (h : DataW.trod enc Tryd.prog W base (fun _ => true) held fuel 22 [.slice A len cap] = some x) :
    ∃ ps : List Pc, ps.length = len ∧ Row W A (ps.map Pc.v) ∧ len ≤ maxLen ∧ PcsOk W nob ps ∧ (∀ p ∈ ps, p.A = none → p.c = 0) ∧ ∀ p ∈ ps, p.n = 0 ∨ ∃ n ∈ x.1.weights Tryd.prog 22, p.n ≤ n := by
  rcases Go.Deep.open_int_rows (k := .u8) Tryd.underlying22 Tryd.underlying24 Tryd.underlying5 (by kernel_rfl) (by kernel_rfl) h with ⟨hcs, _⟩ | ⟨a, l, c, B, L, C, Z, hcs, _, hl, hm, hx, hi⟩
  · simp only [List.cons.injEq, Value.slice.injEq, and_true] at hcs
    obtain ⟨rfl, rfl, rfl⟩ := hcs
    exact ⟨[], rfl, Row.nil _ _, by simp [maxLen], fun p hp => by simp at hp, by simp, by simp⟩
  · simp only [List.cons.injEq, Value.slice.injEq, and_true] at hcs
    obtain ⟨rfl, rfl, rfl⟩ := hcs
    have each : ∀ r, r < len → ∃ p : Pc, p.v = .slice (B r) (L r) (C r) ∧ p.A = B r ∧ p.n = L r ∧ p.c = C r ∧ p.l.length = p.n ∧ Row W p.A (bvs p.l) := by
      intro r hr
      obtain ⟨_, h1, h2, h3, h4, h5, h6⟩ := hi r (by omega)
      cases hB : B r with
      | none =>
        have := h5 hB
        have hL : L r = 0 := by omega
        exact ⟨⟨none, L r, C r, []⟩, rfl, rfl, rfl, rfl, hL.symm, Row.nil _ _⟩
      | some a' =>
        obtain ⟨lb, g1, g2⟩ := row_of_ints (W := W) (x := a') h1 h3 (fun i hi' => (h6 a' hB).2 i (by omega)) h4
        exact ⟨⟨some a', L r, C r, lb⟩, rfl, rfl, rfl, rfl, g1, g2⟩
    have : Inhabited Pc := ⟨⟨none, 0, 0, []⟩⟩
    obtain ⟨y, hy⟩ := Go.Deep.choose_lt each
    have mem : ∀ p ∈ (List.range len).map y, ∃ r, r < len ∧ p = y r := fun p hp => by
      obtain ⟨r, hr, rfl⟩ := List.mem_map.1 hp
      exact ⟨r, List.mem_range.1 hr, rfl⟩
    refine ⟨(List.range len).map y, by simp, ?_, Nat.le_trans hl hm, ?_, ?_, ?_⟩
    · by_cases h0 : len = 0
      · subst h0; exact Row.nil _ _
      · obtain ⟨hc0, _⟩ := hi 0 (by omega)
        obtain ⟨b, o, sp⟩ := a
        cases sp with
        | some j => simp [Addr.add, World.cell?] at hc0; split at hc0 <;> simp at hc0
        | none =>
          refine .inr ⟨b, o, rfl, World.block_lt_of_cell? W _ hc0, fun i u hu => ?_⟩
          simp only [List.map_map, List.getElem?_map] at hu
          have hil : i < len := by
            rcases Nat.lt_or_ge i len with h | h
            · exact h
            · rw [List.getElem?_eq_none (by simpa using h)] at hu; cases hu
          rw [List.getElem?_eq_getElem (by simpa using hil)] at hu
          simp at hu
          obtain ⟨hci, _⟩ := hi i (by omega)
          rw [Addr.add_mid] at hci
          rw [hci, ← hu, (hy i hil).1]
    · intro p hp
      obtain ⟨r, hr, rfl⟩ := mem p hp
      obtain ⟨_, h1, h2, _⟩ := hi r (by omega)
      obtain ⟨_, _, e2, e3, e4, e5⟩ := hy r hr
      exact ⟨e4, e5, .inr (fun _ _ e => e), by rw [e2, e3]; exact h1, by rw [e3]; exact h2⟩
    · intro p hp e
      obtain ⟨r, hr, rfl⟩ := mem p hp
      obtain ⟨_, _, _, _, _, h5, _⟩ := hi r (by omega)
      obtain ⟨_, e1, e2, e3, _⟩ := hy r hr
      rw [e3]; exact h5 (by rw [← e1]; exact e)
    · intro p hp
      obtain ⟨r, hr, rfl⟩ := mem p hp
      obtain ⟨_, h1, h2, h3, h4, h5, h6⟩ := hi r (by omega)
      obtain ⟨_, e1, e2, e3, _⟩ := hy r hr
      cases hB : B r with
      | none => left; rw [e2]; have := h5 hB; omega
      | some a' =>
        right
        refine ⟨C r, ?_, by rw [e2]; exact h1⟩
        rw [hx]
        refine weights_slice Tryd.underlying22 (d := Go.Deep.intRow .u8 (B r) (L r) (Z r)) (List.mem_map.2 ⟨r, List.mem_range.2 hr, rfl⟩) _ ?_
        have hb : Tryd.prog.bytesOf 5 = 1 := by kernel_rfl
        rw [hB]
        simp only [Go.Deep.intRow, DataW.weights, Tryd.underlying24, hb]
        refine List.mem_cons.2 (.inl ?_)
        simp [ChangeShapes.lits]
        omega
end Go.Proofs.YtccdlchbfanmdaaDoor.Sha
