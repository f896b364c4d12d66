/- Lemmas: VauS CodeW0 CodeWB VauB VauC VauD. -/
import Derived.Test.YtigdlnfgdjfdoaaGreatZK05
import Derived.Test.YtigdlnfgdjfdoaaGreatZK09
import Derived.Stop.BytesEq
import Derived.Handy
set_option maxHeartbeats 4000000
set_option maxRecDepth 100000
set_option linter.unusedVariables false
set_option linter.unusedSimpArgs false
namespace Go.Proofs.YtigdlnfgdjfdoaaGreat
namespace Vault
open Go Go.RowKit Kit
def nonce (e s : Int) : List UInt8 := (num8 e).take 4 ++ num8 s
theorem nonce_eq (e s : Int) : nonce e s = (num8 e).take 4 ++ num8 s := rfl
theorem nonce_length (e s : Int) : (nonce e s).length = 12 := by simp [nonce]
attribute [irreducible] nonce
end Vault
open Go Go.RowKit Kit
theorem appendLow_any (A : Option Addr) (n c : Nat) (l : List UInt8) (x sz : Nat) (w : World) (hown : Kit.Own 5 w A n c (bvs l)) (_hx : x < 18446744073709551616) (hsz : sz ≤ 8) (hl : n ≤ 1099511627776) :
    Calls Tryz.prog 83 #[.slice A n c, .int .u64 x, .int .i64 sz] w fun e w' => ∃ A' c', e = .returned (.slice A' (n + sz) c') ∧ Kit.Own 5 w' A' (n + sz) c' (bvs (l ++ le sz x)) ∧ Kp (rowF A) w w' ∧ Grew A A' w.heap.size := by
 obtain ⟨i0, hi, hz0, hz1, hz2⟩ := info_parts u8_info
 go_enter Tryz.func83, Tryz.ntmps83
 go_wp2
 go_loopw [0, 1, 8] (fun b y i wr => ∃ (k : Nat) (A' : Option Addr) (c' : Nat), k ≤ sz ∧ i = .int .i64 k ∧ b = .slice A' (n + k) c' ∧ y = .int .u64 (x / 256 ^ k : Nat) ∧ Kit.Own 5 wr A' (n + k) c' (bvs (l ++ le k x)) ∧ Kp (rowF A) w wr ∧ Grew A A' w.heap.size)
  (fun _ _ i _ => sz - (intOf i).toNat)
 case atStart => exact ⟨0, A, c, Nat.zero_le _, rfl, rfl, by simp, by simpa [le] using hown, Kp.refl _ _, Grew.refl _ _⟩
 case round =>
  obtain ⟨k, A', c', hk, rfl, rfl, rfl, ho, hkp, hgr⟩ := hrel
  by_cases hlt : k < sz
  · go_wp2_with (at_builtin; refine wpList_appR _ rfl (.tmp 10) (.tmp 13) 58 rfl 5 i0 (.int .u8 0) 1 u8_under hi hz0 hz1 hz2 rfl A' (n + k) c' (bvs (l ++ le k x)) rfl ?c0 (some ⟨wr.heap.size, 0, none⟩) 1 1 [bv (UInt8.ofNat (x / 256 ^ k))] rfl (fun h => by cases h) rfl ?c1 ?c2 (by omega) (by omega) ?_)
    case c0 => exact ho.keep ((Kp.refl nob _).alloc _) (fun _ _ e => e)
    case c1 => rw [bv_ofNat]; simpa using row_one wr _ _
    case c2 => intro u hu; simp at hu; subst hu; rfl
    intro A'' c'' w' ho2 hg2 hab2
    go_wp2
    go_roundw
    case rel =>
     refine ⟨k + 1, A'', c'', by omega, by go_num, rfl, ?_, ?_, ?_, ?_⟩
     · rw [Nat.pow_succ, ← Nat.div_div_eq_div_mul]; simp
     · rw [le_snoc, ← List.append_assoc, bvs_append]; exact ho2
     · exact (hkp.alloc _).grown hg2 (fun i hi => hgr.sub i hi)
     · exact hgr.trans (.of hab2 (by have := hkp.size; omega)) (Nat.le_refl _)
    case measure => simp [intOf]; omega
  · go_wp2
    go_ret
    obtain rfl : k = sz := by omega
    exact ⟨A', c', rfl, ho, hkp, hgr⟩
theorem appendLow_int (A : Option Addr) (n c : Nat) (l : List UInt8) (x : Int) (sz : Nat) (w : World) (hown : Kit.Own 5 w A n c (bvs l)) (hx0 : 0 ≤ x) (_hx : x < 18446744073709551616) (hsz : sz ≤ 8) (hl : n ≤ 1099511627776) :
    Calls Tryz.prog 83 #[.slice A n c, .int .u64 x, .int .i64 sz] w fun e w' => ∃ A' c', e = .returned (.slice A' (n + sz) c') ∧ Kit.Own 5 w' A' (n + sz) c' (bvs (l ++ le sz x.toNat)) ∧ Kp (rowF A) w w' ∧ Grew A A' w.heap.size := by
 obtain ⟨y, rfl⟩ := Int.eq_ofNat_of_zero_le hx0
 exact appendLow_any A n c l y sz w hown (by omega) hsz hl
def IsW (w : World) (b : Nat) (A : Option Addr) (l : List UInt8) : Prop :=
 ∃ c, w.heap[b]? = some (.cells #[.slice A l.length c] 137 (0, 0)) ∧ Kit.Own 5 w A l.length c (bvs l) ∧ ab A ≠ some b
theorem IsW.lt {w : World} {b : Nat} {A : Option Addr} {l : List UInt8} (h : IsW w b A l) : b < w.heap.size := by
 obtain ⟨c, h, _⟩ := h
 rcases Nat.lt_or_ge b w.heap.size with hlt | hge
 · exact hlt
 · rw [Array.getElem?_eq_none hge] at h; cases h
theorem IsW.keep {F : Nat → Prop} {w w' : World} {b : Nat} {A : Option Addr} {l : List UInt8} (h : IsW w b A l) (hk : Kp F w w') (hf : ∀ k, WF b A k → ¬ F k) : IsW w' b A l := by
 have hb := h.lt
 obtain ⟨c, h1, h2, h3⟩ := h
 exact ⟨c, by rw [hk.block b hb (hf b (.inl rfl))]; exact h1, h2.keep hk (fun k e => hf k (.inr e)), h3⟩
theorem IsW.fLt {w : World} {b : Nat} {A : Option Addr} {l : List UInt8} (h : IsW w b A l) : ∀ k, WF b A k → k < w.heap.size := by
 intro k hk
 rcases hk with rfl | hk
 · exact h.lt
 · obtain ⟨c, _, h2, _⟩ := h; exact h2.lt k hk
theorem IsW.put {w w1 : World} {b : Nat} {A A' : Option Addr} {l l' : List UInt8} {n c' : Nat} (h : IsW w b A l) (hk : Kp (rowF A) w w1) (ho : Kit.Own 5 w1 A' n c' (bvs l')) (hg : Grew A A' w.heap.size) :
    IsW (w1.setCell ⟨b, 0, none⟩ (.slice A' n c')) b A' l' ∧ Kp (WF b A) w (w1.setCell ⟨b, 0, none⟩ (.slice A' n c')) ∧ Kit.Own 5 (w1.setCell ⟨b, 0, none⟩ (.slice A' n c')) A' n c' (bvs l') := by
 have hb := h.lt
 obtain ⟨c, h1, h2, h3⟩ := h
 obtain rfl : l'.length = n := by simpa using ho.len
 have hne : ab A' ≠ some b := by
  rcases hg with hg | ⟨k, hg, hk⟩
  · rw [hg]; exact h3
  · rw [hg]; intro e; cases e; omega
 have ho' := ho.keep (F := fun k => k = b) ((Kp.refl (fun k => k = b) w1).setCell (p := ⟨b, 0, none⟩) (.inl rfl) (.slice A' l'.length c')) (fun k e e' => hne (by rw [e, e']))
 refine ⟨⟨c', ?_, ho', hne⟩, (hk.mono (fun _ _ e => .inr e)).setCell (.inl (.inl rfl)) _, ho'⟩
 have := heap_setCell (hk.block b hb (by unfold rowF; exact h3) ▸ h1) 0 (.slice A' l'.length c')
 simpa using this
def WPost (w : World) (b : Nat) (A : Option Addr) (l' : List UInt8) (w' : World) : Prop := ∃ A', IsW w' b A' l' ∧ Kp (WF b A) w w' ∧ Grew A A' w.heap.size
theorem wByte (b : Nat) (A : Option Addr) (l : List UInt8) (B : Option Addr) (m d : Nat) (ml : List UInt8) (w : World) (h : IsW w b A l) (hB : B = none → d = 0) (hm : ml.length = m) (hr : Row w B (bvs ml)) (hl : l.length + m ≤ 1099511627776) :
    Calls Tryz.prog 114 #[.pointer (some ⟨b, 0, none⟩), .slice B m d] w fun e w' => e = .returned (.tuple #[]) ∧ WPost w b A (l ++ ml) w' := by
 obtain ⟨i0, hi, hz0, hz1, hz2⟩ := info_parts u8_info
 have H := h
 have hb := h.lt
 obtain ⟨c, h1, h2, h3⟩ := h
 have hc : w.cell? ⟨b, 0, none⟩ = some (.slice A l.length c) := by rw [cell_of_heap h1]; rfl
 have H1 := Lib.hid h1; clear h1
 go_enter Tryz.func114, Tryz.ntmps114
 go_wp2_with (at_builtin; refine wpList_appR _ rfl (.tmp 10) (.tmp 11) 58 rfl 5 i0 (.int .u8 0) 1 u8_under hi hz0 hz1 hz2 rfl A l.length c (bvs l) rfl h2 B m d (bvs ml) rfl hB (by simp [hm]) hr (bvs_one _) (by omega) (by omega) ?_)
 intro A' c' w1 ho hg hab
 have hk : Kp (rowF A) w w1 := (Kp.refl _ _).grown hg (fun k e => .inl e)
 have hc1 : w1.cell? ⟨b, 0, none⟩ = some (.slice A l.length c) := (hk.cell (p := ⟨b, 0, none⟩) hb h3).trans hc
 have hf1 : w1.frozen? ⟨b, 0, none⟩ = false := (hk.frozen (p := ⟨b, 0, none⟩) hb h3).trans (frozen_of_heap H1.out 0)
 go_wp2
 go_end0
 have := H.put hk (l' := l ++ ml) (by rw [bvs_append]; exact ho) (.of hab (Nat.le_refl _))
 exact ⟨rfl, A', this.1, this.2.1, .of hab (Nat.le_refl _)⟩
theorem flat_snoc {α : Type} (f : α → List UInt8) (ns : List α) (k : Nat) (h : k < ns.length) : (ns.take (k + 1)).flatMap f = (ns.take k).flatMap f ++ f ns[k] := by
 rw [List.take_add_one, List.getElem?_eq_getElem h, List.flatMap_append]; simp only [Option.toList_some, List.flatMap_cons, List.flatMap_nil, List.append_nil]
theorem nums_length (ns : List Int) : (ns.flatMap num8).length = 8 * ns.length := by
 induction ns with
 | nil => rfl
 | cons n ns ih => simp [ih]; omega
def ivs (ns : List Int) : List Value := ns.map (.int .i64)
@[simp] theorem ivs_length (ns : List Int) : (ivs ns).length = ns.length := by simp [ivs]
theorem wNum (b : Nat) (A : Option Addr) (l : List UInt8) (B : Option Addr) (m d : Nat) (ns : List Int) (w : World) (h : IsW w b A l) (hm : ns.length = m) (hr : Row w B (ivs ns)) (hB : ∀ k, ab B = some k → ¬ WF b A k) (hmm : m ≤ 1099511627776) (hl : l.length + 8 * m ≤ 1099511627776) :
    Calls Tryz.prog 69 #[.pointer (some ⟨b, 0, none⟩), .slice B m d] w fun e w' => e = .returned (.tuple #[]) ∧ WPost w b A (l ++ ns.flatMap num8) w' := by
 go_enter Tryz.func69, Tryz.ntmps69
 go_wp2
 go_loopw [10] (fun i wr => ∃ (k : Nat) (A' : Option Addr), k ≤ m ∧ i = .int .i64 k ∧ IsW wr b A' (l ++ (ns.take k).flatMap num8) ∧ Kp (WF b A) w wr ∧ Grew A A' w.heap.size)
  (fun i _ => m - (intOf i).toNat)
 case atStart => exact ⟨0, A, Nat.zero_le _, rfl, by simpa using h, Kp.refl _ _, Grew.refl _ _⟩
 case round =>
  obtain ⟨k, A', hk, rfl, ho, hkp, hgr⟩ := hrel
  by_cases hlt : k < m
  · obtain ⟨x, hx⟩ : ∃ x, x = ns[k]'(by omega) := ⟨_, rfl⟩
    obtain ⟨bb, oo, rfl, hbb, hcell⟩ := hr.at_ (i := k) (by simp [hm]; exact hlt)
    have hce : wr.cell? ⟨bb, oo + k, none⟩ = some (.int .i64 x) := by rw [hkp.cell (p := ⟨bb, oo + k, none⟩) hbb (hB bb rfl), hcell, hx]; simp [ivs]
    have HX := Lib.hid hx; clear hx hcell
    have H := ho
    have hb := ho.lt
    obtain ⟨c, h1, h2, h3⟩ := ho
    have hc : wr.cell? ⟨b, 0, none⟩ = some (.slice A' (l ++ (ns.take k).flatMap num8).length c) := by rw [cell_of_heap h1]; rfl
    have hlen : (l ++ (ns.take k).flatMap num8).length = l.length + 8 * k := by rw [List.length_append, nums_length, List.length_take, hm, Nat.min_eq_left hk]
    rw [hlen] at hc h2
    have H1 := Lib.hid h1; clear h1
    have HL := Lib.hid hlen; clear hlen
    have hx0 : 0 ≤ x % 18446744073709551616 := by omega
    have hx1 : x % 18446744073709551616 < 18446744073709551616 := by omega
    go_wp2_with fail
    refine (appendLow_int A' (l.length + 8 * k) c _ _ 8 _ h2 hx0 hx1 (by omega) (by omega)).mono ?_
    rintro e w1 ⟨A'', c'', rfl, ho1, hk1, hg1⟩
    have hb1 : w1.heap[b]? = wr.heap[b]? := hk1.block b hb h3
    have hc1 : w1.cell? ⟨b, 0, none⟩ = some (.slice A' (l.length + 8 * k) c) := (hk1.cell (p := ⟨b, 0, none⟩) hb h3).trans hc
    have hf1 : w1.frozen? ⟨b, 0, none⟩ = false := (hk1.frozen (p := ⟨b, 0, none⟩) hb h3).trans (frozen_of_heap H1.out 0)
    have HB := Lib.hid hb1; clear hb1
    have R := H.put hk1 ho1 hg1
    go_wp2
    go_roundw
    case rel =>
     refine ⟨k + 1, A'', by omega, by go_num, ?_, hkp.trans R.2.1 (fun i hi => ?_), hgr.trans hg1 hkp.size⟩
     · have := R.1
       rwa [flat_snoc num8 ns k (by omega), ← List.append_assoc, ← HX.out]
     · rcases hi with rfl | hi
       · exact .inl (.inl rfl)
       · exact (hgr.sub i hi).imp_left .inr
    case measure => simp [intOf]; omega
  · go_wp2
    go_end0
    obtain rfl : k = m := by omega
    rw [List.take_of_length_le (by omega)] at ho
    exact ⟨rfl, A', ho, hkp, hgr⟩
theorem wBytes (b : Nat) (A : Option Addr) (l : List UInt8) (w : World) (h : IsW w b A l) (hl : l.length ≤ 1099511627776) :
    Calls Tryz.prog 71 #[.pointer (some ⟨b, 0, none⟩)] w (NewBytes w l) := by
 obtain ⟨c, h1, h2, h3⟩ := h
 have hc : w.cell? ⟨b, 0, none⟩ = some (.slice A l.length c) := by rw [cell_of_heap h1]; rfl
 clear h1
 go_enter Tryz.func71, Tryz.ntmps71
 go_wp2_with fail
 refine (clone_any A l.length c l _ rfl hl (own_none h2) h2.row).mono ?_
 rintro e w' ⟨A', c', rfl, ho, hk, hf, hn⟩
 go_wp2
 go_ret
 exact ⟨A', c', rfl, ho, hk, hf, hn⟩
theorem IsW.alloc {w : World} {b : Nat} {A : Option Addr} {l : List UInt8} (h : IsW w b A l) (o : Obj) : IsW (w.alloc o) b A l := h.keep ((Kp.refl nob _).alloc o) (fun _ _ e => e)
theorem IsW.apart {w : World} {b : Nat} {A : Option Addr} {l : List UInt8} (h : IsW w b A l) : ∀ k, ab (some (⟨w.heap.size, 0, none⟩ : Addr)) = some k → ¬ WF b A k := by
 intro k hk e; cases hk; exact absurd (h.fLt _ e) (Nat.lt_irrefl _)
theorem isW_new (w : World) : IsW (w.alloc (.cells #[.slice none 0 0] 137)) w.heap.size none [] :=
 ⟨0, heap_alloc_new w _, Own.nil _ _, by simp [ab]⟩
theorem WPost.later {w : World} {b : Nat} {A : Option Addr} {l : List UInt8} {o : Obj} {w' : World} (h : WPost (w.alloc o) b A l w') : WPost w b A l w' := by
 obtain ⟨A', h1, h2, h3⟩ := h
 exact ⟨A', h1, ((Kp.refl nob w).alloc o |>.nob (WF b A)).trans h2 (fun _ e => .inl e), (Grew.refl A w.heap.size).trans h3 (by simp)⟩
theorem WF.ge {b N : Nat} {A : Option Addr} (hb : N ≤ b) (hA : ∀ k, ab A = some k → N ≤ k) : ∀ k, WF b A k → N ≤ k := by
 rintro k (rfl | h)
 · exact hb
 · exact hA k h
theorem wNum1 (b : Nat) (A : Option Addr) (l : List UInt8) (x : Int) (w : World) (t : TypeId) (H : Nat) (hH : w.heap.size = H) (h : IsW w b A l) (hl : l.length + 8 ≤ 1099511627776) :
    Calls Tryz.prog 69 #[.pointer (some ⟨b, 0, none⟩), .slice (some ⟨H, 0, none⟩) 1 1] (w.alloc (.cells #[.int .i64 x] t)) fun e w' => e = .returned (.tuple #[]) ∧ WPost w b A (l ++ num8 x) w' := by
 subst hH
 refine (wNum b A l (some ⟨w.heap.size, 0, none⟩) 1 1 [x] _ (h.alloc _) rfl (row_one _ _ _) h.apart (by omega) (by omega)).mono ?_
 rintro e w' ⟨rfl, hp⟩
 exact ⟨rfl, by simpa using hp.later⟩
namespace Vault
open Go Go.RowKit Kit
theorem arrN : Tryz.prog.underlying 210 = some (.array 12 5) := by kernel_rfl
theorem u8n_under : Tryz.prog.underlying 58 = some (.slice 5) := by kernel_rfl
theorem cutH (g : Nat) (w : World) : (Instr.sliceAt 210 (.pointer (some ⟨g, 0, none⟩)) none (some (.int .i64 4)) none).run Tryz.prog w = .ok (.slice (some ⟨g, 0, none⟩) 4 12) w := by
 have ha : Tryz.prog.underlying 210 = some (.array (Tryz.prog.arrayLen 210) (Tryz.prog.elem 210)) := by kernel_rfl
 have hl : Tryz.prog.arrayLen 210 = 12 := by kernel_rfl
 have he : Tryz.prog.elem 210 = 5 := by kernel_rfl
 have hz : (sizeOf 5).run Tryz.prog w = .ok 1 w := by kernel_rfl
 rw [run_sliceAt_array_h w _ _ ha _ _ (by omega) (by rw [hl]; omega), hl, he, hz]
 simp [Result.andThen, slicedAt, Addr.add]
theorem cutL (g : Nat) (w : World) : (Instr.sliceAt 210 (.pointer (some ⟨g, 0, none⟩)) (some (.int .i64 4)) none none).run Tryz.prog w = .ok (.slice (some ⟨g, 4, none⟩) 8 8) w := by
 have ha : Tryz.prog.underlying 210 = some (.array (Tryz.prog.arrayLen 210) (Tryz.prog.elem 210)) := by kernel_rfl
 have hl : Tryz.prog.arrayLen 210 = 12 := by kernel_rfl
 have he : Tryz.prog.elem 210 = 5 := by kernel_rfl
 have hz : (sizeOf 5).run Tryz.prog w = .ok 1 w := by kernel_rfl
 rw [run_sliceAt_array_l w _ _ ha _ _ (by omega) (by rw [hl]; omega), hl, he, hz]
 simp [Result.andThen, slicedAt, Addr.add]
def z12 : List UInt8 := List.replicate 12 0
theorem splice_a (a : List UInt8) (ha : a.length = 4) : splice (bvs z12) 0 (bvs a) = bvs (a ++ List.replicate 8 0) := by
 rw [splice, bvs_length, ha, bvs_append]; rfl
theorem splice_b (a b : List UInt8) (ha : a.length = 4) (hb : b.length = 8) : splice (bvs (a ++ List.replicate 8 0)) 4 (bvs b) = bvs (a ++ b) := by
 rw [splice, bvs_append, bvs_append, bvs_length, hb, List.take_append_of_le_length (by rw [bvs_length, ha]; omega), List.take_of_length_le (by rw [bvs_length, ha]; omega), List.drop_eq_nil_of_le (by simp [bvs, ha]), List.append_nil]
structure Nw (w : World) (A : Option Addr) (l : List UInt8) (w2 : World) : Prop where
 z : Blk w2 w.heap.size 210 (bvs z12)
 i : IsW w2 (w.heap.size + 1) A l
 f : ∀ k, WF (w.heap.size + 1) A k → w.heap.size < k
 k : Kp nob w w2
theorem Nw.keep {w w2 w3 : World} {A : Option Addr} {l : List UInt8} (h : Nw w A l w2) (k : Kp nob w2 w3) : Nw w A l w3 := ⟨h.z.keep k (fun e => e), h.i.keep k (fun _ _ e => e), h.f, h.k.trans k (fun _ e => e.elim)⟩
theorem nonceOf_any (e s : Int) (w : World) :
    Calls Tryz.prog 125 #[.int .i64 e, .int .i64 s] w fun x w' => x = .returned (.agg (bvs (nonce e s)).toArray) ∧ Kp nob w w' := by
 have H0 : Hid (IsW (((w.alloc (.cells (bvs z12).toArray 210)).alloc (.cells #[.slice none 0 0] 137)).alloc (.cells #[.int .i64 e, .int .i64 s] 3)) (w.heap.size + 1) none []) := Lib.hid (by
  have := isW_new (w.alloc (.cells (bvs z12).toArray 210))
  rw [show (w.alloc (.cells (bvs z12).toArray 210)).heap.size = w.heap.size + 1 by simp] at this
  exact this.alloc _)
 have HB0 : Hid (Blk (((w.alloc (.cells (bvs z12).toArray 210)).alloc (.cells #[.slice none 0 0] 137)).alloc (.cells #[.int .i64 e, .int .i64 s] 3)) w.heap.size 210 (bvs z12)) := Lib.hid (((Blk.new' rfl rfl).alloc _).alloc _)
 have HK0 : Hid (Kp nob w (((w.alloc (.cells (bvs z12).toArray 210)).alloc (.cells #[.slice none 0 0] 137)).alloc (.cells #[.int .i64 e, .int .i64 s] 3))) := Lib.hid ((((Kp.refl _ _).alloc _).alloc _).alloc _)
 have HR0 : Hid (Row (((w.alloc (.cells (bvs z12).toArray 210)).alloc (.cells #[.slice none 0 0] 137)).alloc (.cells #[.int .i64 e, .int .i64 s] 3)) (some ⟨w.heap.size + 1 + 1, 0, none⟩) (ivs [e, s])) := Lib.hid (by
  have := row_new ((w.alloc (.cells (bvs z12).toArray 210)).alloc (.cells #[.slice none 0 0] 137)) (ivs [e, s]) 3
  rw [show ((w.alloc (.cells (bvs z12).toArray 210)).alloc (.cells #[.slice none 0 0] 137)).heap.size = w.heap.size + 1 + 1 by simp] at this
  exact this)
 go_enter Tryz.func125, Tryz.ntmps125
 go_wp2_with fail
 refine (wNum (w.heap.size + 1) none [] (some ⟨w.heap.size + 1 + 1, 0, none⟩) 2 2 [e, s] _ ?own rfl ?row (fun k hk => ?far) (by omega) (by simp)).mono ?_
 case own => exact H0.out
 case row => exact HR0.out
 case far =>
  simp only [ab, Option.map_some, Option.some.injEq] at hk
  rintro (h | h)
  · omega
  · cases h
 rintro x w2 ⟨rfl, A2, hw2, k2, g2⟩
 have HW2 : Hid (Nw w A2 ([] ++ [e, s].flatMap num8) w2) := Lib.hid ⟨HB0.out.keep k2 (fun h => h.elim (fun h => by omega) (fun h => by cases h)), hw2, fun k hk => by
     rcases hk with rfl | hk
     · omega
     · rcases g2 with g | ⟨j, g, hj⟩
       · rw [g] at hk; cases hk
       · rw [g] at hk; cases hk; simp at hj; omega, HK0.out.since k2 (fun i h => h.elim (fun h => by omega) (fun h => by cases h))⟩
 clear hw2 k2 g2 H0 HB0 HK0 HR0
 rw [show [] ++ [e, s].flatMap num8 = num8 e ++ num8 s by simp] at HW2
 obtain ⟨l, hl⟩ : ∃ l, l = num8 e ++ num8 s := ⟨_, rfl⟩
 rw [← hl] at HW2
 have HL16 := Lib.hid (show l.length = 16 by rw [hl]; simp)
 have HNE := Lib.hid (show l.take 4 ++ l.drop 8 = nonce e s by rw [hl, nonce_eq, List.take_append_of_le_length (by simp), List.drop_left' (by simp)])
 clear hl
 go_wp2
 obtain ⟨g, hg⟩ : ∃ g, g = w2.heap.size := ⟨_, rfl⟩
 have HG := Lib.hid (show w.heap.size + 1 < g ∧ ∀ k, WF (w.heap.size + 1) A2 k → k ≠ g by rw [hg]; exact ⟨HW2.out.i.lt, fun k hk => Nat.ne_of_lt (HW2.out.i.fLt k hk)⟩)
 have HS0 : Hid (Nw w A2 l (w2.alloc (.cells (bvs z12).toArray 210)).drew) := Lib.hid (HW2.out.keep ((Kp.refl nob w2).alloc _).drew)
 have HB0 : Hid (Blk (w2.alloc (.cells (bvs z12).toArray 210)).drew g 210 (bvs z12)) := Lib.hid ((Blk.new' hg rfl : Blk (w2.alloc (.cells (bvs z12).toArray 210)) g _ _).keep (Kp.refl nob _).drew (fun e => e))
 rw [← hg]
 refine reg_begin (fun w3 => Nw w A2 l w3) (by kernel_rfl) HS0.out (fun _ => ?_)
 clear hg HW2
 refine reg_tk (v := .slice (some ⟨g, 0, none⟩) 4 12) 0 11 rfl rfl (by kernel_rfl) (by rfl) HS0.out (fun w hw => by have hc := cutH g w; go_simp) ?_; simp only [Act.put, zp1, zp2, zp3]
 refine reg_call 1 (some 12) rfl rfl (by kernel_rfl) (by rfl) _ _ (exec_func 71 _ _ [.pointer (some ⟨w.heap.size + 1, 0, none⟩)] rfl (by kernel_rfl) rfl) ?_
 refine (wBytes (w.heap.size + 1) A2 l _ HS0.out.i (by rw [HL16.out]; omega)).mono ?_
 rintro x w4 ⟨Z, cZ, rfl, hZ, k4, fZ, _⟩
 have HS1 : Hid (Nw w A2 l w4) := Lib.hid (HS0.out.keep k4)
 have HB1 := Lib.hid (HB0.out.keep k4 (fun e => e))
 have HZ := Lib.hid hZ.row
 clear hZ fZ k4 HB0
 refine ⟨_, rfl, HS1.out, fun _ => ?_⟩
 simp only [Act.put, zp1, zp2, zp3]
 refine reg_copy 2 (some 13) (.tmp 11) (.tmp 12) 58 58 rfl rfl rfl (by kernel_rfl) rfl 5 u8n_under (by kernel_rfl) g 0 (some ⟨g, 0, none⟩) Z 4 12 l.length cZ rfl rfl (bvs z12) 210 HB1.out (bvs (l.take 4)) (by rw [bvs_length, List.length_take, HL16.out]; rfl) (fun _ => rfl)
  (by have := HZ.out.take 4; rwa [bvs, ← List.map_take, ← bvs] at this) (by rw [bvs_length, List.length_take, HL16.out]; decide) (bvs_one _) ?_
 intro w5 hB5 k5 z5
 rw [splice_a _ (by rw [List.length_take, HL16.out]; rfl)] at hB5
 have HS2 : Hid (Nw w A2 l w5) := Lib.hid ⟨HS1.out.z.keep k5 (fun e => by have := HG.out.1; have e : w.heap.size = g := e; omega), HS1.out.i.keep k5 (fun k hk e => HG.out.2 k hk e), HS1.out.f, HS1.out.k.since k5 (fun i e => by have := HG.out.1; have e : i = g := e; omega)⟩
 have HB2 := Lib.hid hB5
 clear hB5 k5 z5 HB1 HZ HS0
 refine ⟨HS2.out, fun _ => ?_⟩
 simp only [Act.put, zp1, zp2, zp3]
 refine reg_end (by kernel_rfl) ?_
 go_wp2
 have HS3 : Hid (Nw w A2 l w5.drew) := Lib.hid (HS2.out.keep (Kp.refl nob w5).drew)
 have HB3 := Lib.hid (HB2.out.keep (Kp.refl nob w5).drew (fun e => e))
 refine reg_begin (fun w3 => Nw w A2 l w3) (by kernel_rfl) HS3.out (fun _ => ?_)
 refine reg_tk (v := .slice (some ⟨g, 4, none⟩) 8 8) 0 14 rfl rfl (by kernel_rfl) (by rfl) HS3.out (fun w hw => by have hc := cutL g w; go_simp) ?_; simp only [Act.put, zp1, zp2, zp3]
 refine reg_call 1 (some 15) rfl rfl (by kernel_rfl) (by rfl) _ _ (exec_func 71 _ _ [.pointer (some ⟨w.heap.size + 1, 0, none⟩)] rfl (by kernel_rfl) rfl) ?_
 refine (wBytes (w.heap.size + 1) A2 l _ HS3.out.i (by rw [HL16.out]; omega)).mono ?_
 rintro x w6 ⟨Z, cZ, rfl, hZ, k6, fZ, _⟩
 have HS4 : Hid (Nw w A2 l w6) := Lib.hid (HS3.out.keep k6)
 have HB4 := Lib.hid (HB3.out.keep k6 (fun e => e))
 have hcap := hZ.cap
 have HZ := Lib.hid (hZ.row.cut (c := cZ) (k := 8) (by rw [bvs_length]; exact hcap.1))
 rw [HL16.out]
 clear hZ fZ k6 HB3 HS3 HS2 HB2
 refine ⟨_, rfl, HS4.out, fun _ => ?_⟩
 simp only [Act.put, zp1, zp2, zp3]
 refine reg_tk (v := .slice (cutA Z cZ 8) 8 (cZ - 8)) 2 16 rfl rfl (by kernel_rfl) (by rfl) HS4.out (fun w hw => by have hc := run_slice_from 58 5 u8n_under (fun _ => by kernel_rfl) Z 16 cZ 8 (by omega) w; go_simp; rfl) ?_; simp only [Act.put, zp1, zp2, zp3]
 refine reg_copy 3 (some 17) (.tmp 14) (.tmp 16) 58 58 rfl rfl rfl (by kernel_rfl) rfl 5 u8n_under (by kernel_rfl) g 4 (some ⟨g, 4, none⟩) (cutA Z cZ 8) 8 8 8 (cZ - 8) rfl rfl (bvs (l.take 4 ++ List.replicate 8 0)) 210 HB4.out (bvs (l.drop 8)) (by rw [bvs_length, List.length_drop, HL16.out]; rfl) (fun _ => rfl)
  (by have := HZ.out; rwa [bvs, ← List.map_drop, ← bvs] at this) (by rw [bvs_length, bvs_length, List.length_append, List.length_drop, List.length_take, HL16.out]; decide) (bvs_one _) ?_
 intro w7 hB7 k7 z7
 rw [splice_b _ _ (by rw [List.length_take, HL16.out]; rfl) (by rw [List.length_drop, HL16.out]), HNE.out] at hB7
 have HS5 : Hid (Nw w A2 l w7) := Lib.hid ⟨HS4.out.z.keep k7 (fun e => by have := HG.out.1; have e : w.heap.size = g := e; omega), HS4.out.i.keep k7 (fun k hk e => HG.out.2 k hk e), HS4.out.f, HS4.out.k.since k7 (fun i e => by have := HG.out.1; have e : i = g := e; omega)⟩
 have HB5 := Lib.hid hB7
 have HNL := Lib.hid (show (bvs (nonce e s)).length = 12 by rw [bvs_length, nonce_length])
 have HZL := Lib.hid (show (bvs z12).length = 12 from rfl)
 clear hB7 k7 z7 HB4 HZ HS4
 refine ⟨HS5.out, fun _ => ?_⟩
 simp only [Act.put, zp1, zp2, zp3]
 refine reg_end (by kernel_rfl) ?_
 have HZ0 := Lib.hid HS5.out.z
 go_wp2_with (first
  | (refine wpList_load_blk rfl 210 (.tmp 6) rfl _ _ _ HB5.out rfl _ arrN rfl (by rw [HNL.out]; kernel_rfl) ?_)
  | (refine wpList_store_blk rfl 210 (.tmp 4) (.tmp 18) rfl _ _ _ (bvs (nonce e s)) HZ0.out rfl rfl (by rw [HZL.out, HNL.out]) (by rw [HNL.out]; kernel_rfl) (bvs_one _) ?_; intro w8 hB8 k8 z8))
 have hsz : (Tryz.prog.info? 210).map (·.size) = some (bvs (nonce e s)).toArray.size := by rw [List.size_toArray, HNL.out]; kernel_rfl
 exact bodyPost_ret (results_cell_row rfl _ _ w.heap.size _ _ _ _ rfl hB8 arrN rfl hsz) rfl ⟨rfl, HS5.out.k.since k8 (fun i e => by cases e; omega)⟩
theorem list_fn (n : Nat) (l : List UInt8) (h : l.length = n) : ∃ f : Fin n → UInt8, l = List.ofFn f := by
 refine ⟨fun i => l[i.1]'(by rw [h]; exact i.2), ?_⟩
 apply List.ext_getElem
 · simp [h]
 · intro i h1 h2; simp
theorem build_vault0 (f : Fin 32 → UInt8) (T : TypeId) (u : Value) (lim : Int) (m : Nat) (w : World) : (Instr.build 101 #[(0, .iface T u), (1, .agg (bvs (List.ofFn f)).toArray), (2, .int .i64 lim), (3, .map (some m))]).run Tryz.prog w = .ok (.agg (.iface T u :: (bvs (List.ofFn f) ++ [.int .i64 lim, .map (some m), .int .i64 0])).toArray) w := by kernel_rfl
theorem build_vault (ms : List UInt8) (h : ms.length = 32) (T : TypeId) (u : Value) (lim m : Nat) (w : World) : (Instr.build 101 #[(0, .iface T u), (1, .agg (bvs ms).toArray), (2, .int .i64 (lim : Nat)), (3, .map (some m))]).run Tryz.prog w = .ok (.agg (vcells (.iface T u) ms lim m 0).toArray) w := by
 obtain ⟨f, rfl⟩ := list_fn 32 ms h
 exact build_vault0 f T u _ m w
theorem build_place0 (f : Fin 32 → UInt8) (g : Fin 12 → UInt8) (w : World) : (Instr.build 213 #[(0, .agg (bvs (List.ofFn f)).toArray), (1, .agg (bvs (List.ofFn g)).toArray)]).run Tryz.prog w = .ok (.agg (bvs (List.ofFn f) ++ bvs (List.ofFn g)).toArray) w := by kernel_rfl
theorem build_place (k n : List UInt8) (hk : k.length = 32) (hn : n.length = 12) (w : World) : (Instr.build 213 #[(0, .agg (bvs k).toArray), (1, .agg (bvs n).toArray)]).run Tryz.prog w = .ok (pv (pl k n hk hn)) w := by
 obtain ⟨f, rfl⟩ := list_fn 32 k hk
 obtain ⟨g, rfl⟩ := list_fn 12 n hn
 rw [build_place0]
 unfold pv pl
 rw [← bvs_append]
theorem place_under : Tryz.prog.underlying 213 = some (.struct (Tryz.prog.fieldsOf 213)) := by kernel_rfl
theorem key_under : Tryz.prog.underlying 77 = some (.array 32 5) := by kernel_rfl
theorem eqKey (xs ys : List UInt8) (hx : xs.length = 32) (hy : ys.length = 32) (w : World) : (Op.equalIn 9999 77 (.agg (bvs xs).toArray) (.agg (bvs ys).toArray)).run Tryz.prog w = .ok (xs == ys) w :=
 run_equalIn_bytes w 9997 77 5 32 key_under (by kernel_rfl) (fun _ => by kernel_rfl) xs ys hx hy
theorem eqNonce (xs ys : List UInt8) (hx : xs.length = 12) (hy : ys.length = 12) (w : World) : (Op.equalIn 9999 210 (.agg (bvs xs).toArray) (.agg (bvs ys).toArray)).run Tryz.prog w = .ok (xs == ys) w :=
 run_equalIn_bytes w 9997 210 5 12 arrN (by kernel_rfl) (fun _ => by kernel_rfl) xs ys hx hy
theorem pl_split (p : Pl) : ∃ k n, ∃ hk : k.length = 32, ∃ hn : n.length = 12, p = pl k n hk hn := by
 obtain ⟨l, hl⟩ := p
 exact ⟨l.take 32, l.drop 32, by simp [hl], by simp [hl], by simp [pl]⟩
theorem pv_inj (a b : Pl) (h : pv a = pv b) : a = b := by
 have h1 : bvs a.1 = bvs b.1 := by
  have := congrArg (fun v => match v with | Value.agg cs => cs.toList | _ => []) h
  simpa [pv] using this
 refine Pl.same (List.ext_getElem (by rw [a.2, b.2]) fun i h2 h3 => ?_)
 have h4 := congrArg (fun l => l[i]?) h1
 simp only [bvs_get h2, bvs_get h3, Option.some.injEq, bv, Value.int.injEq, true_and] at h4
 exact UInt8.toNat_inj.1 (by omega)
theorem eqP (a b : Pl) (w : World) : (Op.equalIn 10000 213 (pv a) (pv b)).run Tryz.prog w = .ok (decide (a = b)) w := by
 obtain ⟨k, n, hk, hn, rfl⟩ := pl_split a
 obtain ⟨k2, n2, hk2, hn2, rfl⟩ := pl_split b
 have e1 : ∀ (k n : List UInt8) (hk : k.length = 32) (hn : n.length = 12), (bvs (pl k n hk hn).val).take 32 = bvs k ∧ ((bvs (pl k n hk hn).val).drop 32).take 12 = bvs n := by
  intro k n hk hn
  show (bvs (k ++ n)).take 32 = bvs k ∧ ((bvs (k ++ n)).drop 32).take 12 = bvs n
  rw [bvs_append]
  exact ⟨List.take_left' (by rw [bvs_length, hk]), by rw [List.drop_left' (by rw [bvs_length, hk]), List.take_of_length_le (by rw [bvs_length, hn]; exact Nat.le_refl _)]⟩
 unfold pv
 rw [run_equalIn_struct w 9999 213 _ _ (by kernel_rfl) (by kernel_rfl)]
 go_simp
 rw [eqKey k k2 hk hk2]
 simp only [Result.andThen_ok, eqNonce n n2 hn hn2]
 have e2 : (pl k n hk hn = pl k2 n2 hk2 hn2) = (k = k2 ∧ n = n2) := by
  refine propext ⟨fun h => ?_, fun ⟨h, h'⟩ => by subst h; subst h'; rfl⟩
  have := congrArg Pl.val h
  exact List.append_inj this (by rw [hk, hk2])
 have e3 : decide (pl k n hk hn = pl k2 n2 hk2 hn2) = (decide (k = k2) && decide (n = n2)) := by
  rw [Bool.eq_iff_iff, Bool.and_eq_true, decide_eq_true_iff, decide_eq_true_iff, decide_eq_true_iff, e2]
 rw [e3]
 clear e1 e2 e3
 by_cases h1 : k = k2
 · by_cases h2 : n = n2
   · subst h1; subst h2; simp
   · subst h1; simp [h2]
 · simp [h1]
theorem bits_u8 (b : UInt8) : Instr.sameBits 9999 (bv b) (bv b) = true := by simp [bv, Instr.sameBits]
theorem check_place (f : Fin 44 → UInt8) (w : World) (em : Bool) : (Instr.checkKey em 10000 213 (.agg (bvs (List.ofFn f)).toArray)).run Tryz.prog w = .ok () w := by cases em <;> kernel_rfl
theorem place_keys : KeyL Tryz.prog 213 pv :=
 keyL_of_equal place_under (fun w a b => eqP a b w) pv_inj (fun w em a => by
  obtain ⟨l, hl⟩ := a
  obtain ⟨f, rfl⟩ := list_fn 44 l hl
  exact check_place f w em) (fun a => by
  simp only [pv, Instr.sameBits, List.size_toArray, BEq.rfl, Bool.true_and]
  rw [List.all_eq_true]
  rintro ⟨x, y⟩ hxy
  obtain ⟨i, hi, he⟩ := List.mem_iff_getElem.1 hxy
  simp only [List.getElem_zip, Prod.mk.injEq] at he
  obtain ⟨rfl, rfl⟩ := he
  simp only [bvs, List.getElem_map]
  exact bits_u8 _)
theorem key_size (l : List UInt8) (h : l.length = 32) : (Tryz.prog.info? 77).map (·.size) = some (bvs l).length := by rw [bvs_length, h]; kernel_rfl
theorem exec_build {P : Program} {a : Act} {o : Oper} {w w' : World} (t : TypeId) (fs : Array (Nat × Operand)) (ho : o.op = .build t fs) (ps : List (Nat × Value)) (r : Value) (hp : fs.toList.map (fun p => (p.1, a.eval p.2)) = ps) (h : (Instr.build t ps.toArray).run P w = .ok r w') : (execOp a.eval o).run P w = .ok (.value r) w' := by
 subst hp
 have e : (fs.map fun p => (p.1, a.eval p.2)) = (fs.toList.map (fun p => (p.1, a.eval p.2))).toArray := by rw [← Array.toList_map, Array.toArray_toList]
 rw [← e] at h
 simp [execOp, ho, h, Result.andThen]
def imk (p : Nat) : Value := .iface 117 (.agg #[.pointer (some ⟨p, 0, none⟩)])
theorem vb_new (w : World) (v m : Nat) (T : TypeId) (u : Value) (ms : List UInt8) (lim : Nat) (h : ms.length = 32) (hm : m = w.heap.size + 1) (hv : v = w.heap.size + 1 + 1) :
    Vb ((((w.alloc (.cells (bvs ms).toArray 77)).alloc (.map #[] 0)).alloc (.cells (vcells (.iface T u) ms lim m 0).toArray 101))) v m (.iface T u) ms lim [] 0 := by
 subst hm; subst hv
 refine ⟨Blk.new' (by simp) rfl, h, ?_, by omega⟩
 have := mapB_new (w.alloc (.cells (bvs ms).toArray 77))
 rw [show (w.alloc (.cells (bvs ms).toArray 77)).heap.size = w.heap.size + 1 by simp] at this
 exact this.keep ((Kp.refl nob _).alloc _) (fun e => e)
theorem newVault_any (T : TypeId) (u : Value) (ms : List UInt8) (lim : Int) (w : World) (h : ms.length = 32) :
    Calls Tryz.prog 53 #[.iface T u, .agg (bvs ms).toArray, .int .i64 lim] w fun e w' => ∃ v m, e = .returned (.pointer (some ⟨v, 0, none⟩)) ∧ Vb w' v m (.iface T u) ms lim.toNat [] 0 ∧ Kp nob w w' ∧ w.heap.size ≤ v ∧ w.heap.size ≤ m := by
 have HM := Lib.hid h
 have HB := Lib.hid (Blk.new w 77 (bvs ms))
 have hm := @run_makeMap Tryz.prog
 clear h
 by_cases hn : lim < 0
 · obtain ⟨L, hL⟩ : ∃ L, L = lim.toNat := ⟨_, rfl⟩
   obtain rfl : L = 0 := by omega
   rw [← hL]
   have HV := Lib.hid (vb_new w _ _ T u ms 0 HM.out rfl rfl)
   clear hL
   go_enter Tryz.func53, Tryz.ntmps53
   go_wp2_with (first
    | (refine wpList_load_blk rfl 77 (.tmp 4) rfl _ _ _ HB.out rfl _ key_under rfl (key_size ms HM.out) ?_)
    | (refine wpList_built rfl 101 _ rfl (.agg (vcells (.iface T u) ms 0 (w.heap.size + 1) 0).toArray) (by exact exec_build _ _ rfl [(0, .iface T u), (1, .agg (bvs ms).toArray), (2, .int .i64 ((0 : Nat) : Int)), (3, .map (some (w.heap.size + 1)))] _ rfl (build_vault ms HM.out T u 0 (w.heap.size + 1) _)) ?_)
    | fail)
   go_ret
   exact ⟨w.heap.size + 1 + 1, w.heap.size + 1, rfl, HV.out, (((Kp.refl _ _).alloc _).alloc _).alloc _, by omega, by omega⟩
 · obtain ⟨L, rfl⟩ : ∃ L : Nat, lim = L := ⟨lim.toNat, by omega⟩
   rw [Int.toNat_natCast]
   have HV := Lib.hid (vb_new w _ _ T u ms L HM.out rfl rfl)
   go_enter Tryz.func53, Tryz.ntmps53
   go_wp2_with (first
    | (refine wpList_load_blk rfl 77 (.tmp 4) rfl _ _ _ HB.out rfl _ key_under rfl (key_size ms HM.out) ?_)
    | (refine wpList_built rfl 101 _ rfl (.agg (vcells (.iface T u) ms L (w.heap.size + 1) 0).toArray) (by exact exec_build _ _ rfl [(0, .iface T u), (1, .agg (bvs ms).toArray), (2, .int .i64 (L : Int)), (3, .map (some (w.heap.size + 1)))] _ rfl (build_vault ms HM.out T u L (w.heap.size + 1) _)) ?_)
    | fail)
   go_ret
   exact ⟨w.heap.size + 1 + 1, rfl, w.heap.size + 1, HV.out, (((Kp.refl _ _).alloc _).alloc _).alloc _, by omega, by omega⟩
theorem ideal_any (p : Nat) (ms : List UInt8) (lim : Int) (w : World) (h : ms.length = 32) :
    Calls Tryz.prog 28 #[.pointer (some ⟨p, 0, none⟩), .agg (bvs ms).toArray, .int .i64 lim] w fun e w' => ∃ v m, e = .returned (.pointer (some ⟨v, 0, none⟩)) ∧ Vb w' v m (imk p) ms lim.toNat [] 0 ∧ Kp nob w w' ∧ w.heap.size ≤ v ∧ w.heap.size ≤ m := by
 have HM := Lib.hid h
 have HB := Lib.hid (Blk.new w 77 (bvs ms))
 go_enter Tryz.func28, Tryz.ntmps28
 go_wp2_with (first
  | (refine wpList_load_blk rfl 77 (.tmp 4) rfl _ _ _ HB.out rfl _ key_under rfl (key_size ms HM.out) ?_)
  | (go_at_call 53; refine (newVault_any _ _ ms lim _ HM.out).mono ?_; rintro e w2 ⟨v, m, rfl, hv, k2, n1, n2⟩)
  | fail)
 go_ret
 simp at n1 n2
 exact ⟨v, m, rfl, hv, ((Kp.refl _ _).alloc _).trans k2 (fun _ e => e.elim), by omega, by omega⟩
end Vault
end Go.Proofs.YtigdlnfgdjfdoaaGreat
