/- Contracts of package hmac: a key filled up, a key taken exclusively with one byte, a byte or nought. -/
import Derived.Test.YtnpidcehioljaaaDoorShaM
import Derived.Test.YtnpidcehioljaaaDoorHmacS
import Derived.Test.YtnpidcehioljaaaDoorBlkC
import Derived.StillTailTactics
namespace Go.Proofs.YtnpidcehioljaaaDoor.Hmac
open Go Go.RowKit Kit
open Sha (Tabs Far Has Pc PcsOk catP u8s_under arr32b)

theorem arr64 : Tryd.prog.underlying 48 = some (.array 64 5) := by kernel_rfl

theorem ofInt_u8 (a : UInt8) : (BitVec.ofInt 8 (a.toNat : Int)).toNat = a.toNat := by
  rw [BitVec.ofInt_natCast, BitVec.toNat_ofNat]; exact Nat.mod_eq_of_lt a.toNat_lt
theorem wrap_u8 (n : Nat) : IntKind.u8.wrap (n : Int) = ((UInt8.ofNat n).toNat : Int) := by
  rw [IntKind.wrap_u8]; simp
@[go_sem] theorem u8_xor (a b : UInt8) : bits .xor .u8 (a.toNat : Int) (b.toNat : Int) = ((a ^^^ b).toNat : Int) := by
  show IntKind.u8.wrap ((BitVec.ofInt 8 (a.toNat : Int) ^^^ BitVec.ofInt 8 (b.toNat : Int)).toNat : Int) = _
  rw [BitVec.toNat_xor, ofInt_u8, ofInt_u8, wrap_u8, ← UInt8.toNat_xor, UInt8.ofNat_toNat]
@[go_sem] theorem u8_or (a b : UInt8) : bits .or .u8 (a.toNat : Int) (b.toNat : Int) = ((a ||| b).toNat : Int) := by
  show IntKind.u8.wrap ((BitVec.ofInt 8 (a.toNat : Int) ||| BitVec.ofInt 8 (b.toNat : Int)).toNat : Int) = _
  rw [BitVec.toNat_or, ofInt_u8, ofInt_u8, wrap_u8, ← UInt8.toNat_or, UInt8.ofNat_toNat]

theorem mask_step (c : UInt8) (l : List UInt8) (k : Nat) (h : k < l.length) :
    ((mask c l).take k ++ l.drop k).set k (l[k] ^^^ c) = (mask c l).take (k + 1) ++ l.drop (k + 1) := by
  have hz : ((mask c l).take k).length = k := by simp [mask_length]; omega
  rw [List.set_append_right _ _ (by omega), hz, Nat.sub_self, List.drop_eq_getElem_cons h, List.set_cons_zero, List.take_succ_eq_append_getElem (by rw [mask_length]; exact h)]
  simp [mask]
theorem mask_at (c : UInt8) (l : List UInt8) (k : Nat) (h : k < l.length) : ((mask c l).take k ++ l.drop k)[k]? = some l[k] := by
  have hz : ((mask c l).take k).length = k := by simp [mask_length]; omega
  rw [List.getElem?_append_right (by omega), hz, Nat.sub_self, List.getElem?_drop, Nat.add_zero, List.getElem?_eq_getElem h]

set_option maxHeartbeats 1000000 in
set_option maxRecDepth 100000 in
theorem masked_any (l : List UInt8) (hl : l.length = 64) (c : UInt8) (w : World) :
    Calls Tryd.prog 25 #[.agg (bvs l).toArray, .int .u8 c.toNat] w fun e w' => e = .returned (.agg (bvs (mask c l)).toArray) ∧ Kp nob w w' := by
  have HL := Lib.hid hl; clear hl
  go_enter Tryd.func25, Tryd.ntmps25
  go_wp2
  go_loopw [6] (fun vi wr => ∃ k : Nat, k ≤ 64 ∧ vi = .int .i64 k ∧ Blk wr w.heap.size 48 (bvs ((mask c l).take k ++ l.drop k)) ∧ (∃ z, z.length = 64 ∧ Blk wr (w.heap.size + 1) 48 z) ∧ Kp nob w wr)
    (fun vi _ => 64 - (intOf vi).toNat)
  case atStart => exact ⟨0, by omega, rfl, by simpa using (Blk.new' rfl rfl).alloc _, ⟨_, rfl, Blk.new' (by simp) rfl⟩, ((Kp.refl _ _).alloc _).alloc _⟩
  case round =>
    obtain ⟨k, hk, rfl, h1, ⟨z, hz, h2⟩, hkp⟩ := hrel
    have H1 := Lib.hid h1; have H2 := Lib.hid h2; have HZ := Lib.hid hz
    clear h1 h2 hz
    by_cases hlt : k < 64
    · have hkl : k < l.length := by rw [HL.out]; exact hlt
      obtain ⟨x, hx⟩ : ∃ x, x = l[k] := ⟨_, rfl⟩
      have hc : wr.cell? ⟨w.heap.size, k, none⟩ = some (.int .u8 x.toNat) := by
        rw [H1.out.cell, bvs, List.getElem?_map, mask_at c l k hkl, hx]; rfl
      have hf : wr.frozen? ⟨w.heap.size, k, none⟩ = false := H1.out.frozen _
      have HX := Lib.hid hx
      clear hx
      go_wp2
      go_roundw
      case rel =>
        refine ⟨k + 1, by omega, by go_num, ?_, ⟨z, HZ.out, H2.out.far (by simp) _⟩, hkp.setCell (p := ⟨w.heap.size, k, none⟩) (.inr (by simp)) _⟩
        have := H1.out.set_ k (bv (x ^^^ c))
        rw [bvs, ← List.map_set, HX.out, mask_step c l k (by rw [HL.out]; exact hlt), ← HX.out] at this
        exact this
      case measure => simp [intOf]; omega
    · obtain rfl : k = 64 := by omega
      have HB : Hid (Blk wr w.heap.size 48 (bvs (mask c l))) := Lib.hid (by
        have := H1.out
        rwa [List.take_of_length_le (by rw [mask_length, HL.out]; omega), List.drop_eq_nil_of_le (by rw [HL.out]; omega), List.append_nil] at this)
      have HM : Hid ((bvs (mask c l)).length = 64) := Lib.hid (by rw [bvs_length, mask_length, HL.out])
      clear H1
      go_wp2_with (first
        | (refine wpList_load_blk rfl 48 (.tmp 2) rfl _ _ _ HB.out rfl _ arr64 rfl (by rw [HM.out]; kernel_rfl) ?_)
        | (refine wpList_store_blk rfl 48 (.tmp 4) (.tmp 16) rfl _ _ z (bvs (mask c l)) H2.out rfl rfl (by rw [HZ.out, HM.out]) (by rw [HM.out]; kernel_rfl) (bvs_one _) ?_; intro w2 hB2 k2 z2))
      have hsz : (Tryd.prog.info? 48).map (·.size) = some (bvs (mask c l)).toArray.size := by
        rw [List.size_toArray, HM.out]; kernel_rfl
      refine bodyPost_ret (results_cell_row rfl _ _ (w.heap.size + 1) _ _ _ _ rfl hB2 arr64 rfl hsz) rfl ⟨rfl, hkp.since k2 (fun i e => by cases e; omega)⟩

/-- The byte at a place, or nought. -/
def byteAt (l : List UInt8) (i : Nat) : UInt8 := l.getD i 0
end Go.Proofs.YtnpidcehioljaaaDoor.Hmac
