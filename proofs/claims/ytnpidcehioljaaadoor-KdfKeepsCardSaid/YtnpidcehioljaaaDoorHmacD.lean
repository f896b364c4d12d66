/- Contracts of package hmac: a new Mac; the digest of pieces at once. -/
import Derived.Test.YtnpidcehioljaaaDoorHmacC
namespace Go.Proofs.YtnpidcehioljaaaDoor.Hmac
open Go Go.RowKit Kit
open Sha (Tabs Far Has Pc PcsOk catP u8s_under arr32b)

theorem off_block {g o h : Nat} (e : g ≠ h) : ∀ k, ab (some (⟨g, o, none⟩ : Addr)) = some k → ¬ oneB h k := by
  intro k hk hb
  have h1 : g = k := by simpa [ab] using hk
  exact e (h1.trans hb)
theorem cell_alloc {w : World} {p : Addr} {v : Value} (h : w.cell? p = some v) (o : Obj) : (w.alloc o).cell? p = some v :=
  (World.cell?_of_block (Below.heap_alloc w o p.block (World.block_lt_of_cell? w _ h))).trans h
theorem masked_in (l : List UInt8) (hl : l.length = 64) (w : World) :
    Calls Tryd.prog 25 #[.agg (bvs l).toArray, .int .u8 54] w fun e w' => e = .returned (.agg (bvs (mask 54 l)).toArray) ∧ Kp nob w w' := masked_any l hl 54 w
theorem masked_out (l : List UInt8) (hl : l.length = 64) (w : World) :
    Calls Tryd.prog 25 #[.agg (bvs l).toArray, .int .u8 92] w fun e w' => e = .returned (.agg (bvs (mask 92 l)).toArray) ∧ Kp nob w w' := masked_any l hl 92 w

theorem Has.lt' {w : World} {b : Nat} {l : List UInt8} (h : Has w b l) : b < w.heap.size := Sha.Has.lt h

/-- A Mac of nothing. -/
def mzero : List Value := .pointer none :: bvs (List.replicate 64 0)
theorem mac_zero : ∀ w, (zeroValue 50).run Tryd.prog w = .ok (.agg mzero.toArray) w := fun _ => by kernel_rfl
theorem fold_from (i : Nat) : ∀ (cs ys : List Value) (zl : Array Value), zl.size = i + cs.length + ys.length → 0 < i →
    ((cs.zipIdx (i - 1)).foldl (fun c x => c.setIfInBounds (1 + x.2) x.1) zl).toList = zl.toList.take i ++ cs ++ zl.toList.drop (i + cs.length) := by
  intro cs
  induction cs generalizing i with
  | nil => intro ys zl h hi; simp
  | cons u cs ih =>
    intro ys zl h hi
    simp only [List.length_cons] at h
    rw [List.zipIdx_cons, List.foldl_cons]
    have := ih (i + 1) ys (zl.setIfInBounds (1 + (i - 1)) u) (by simp; omega) (by omega)
    rw [show i + 1 - 1 = i - 1 + 1 by omega] at this
    simp only at this ⊢
    rw [this, show 1 + (i - 1) = i by omega]
    simp only [Array.toList_setIfInBounds, List.length_cons]
    rw [List.take_succ_eq_append_getElem (by simp; omega), List.take_set_of_le (Nat.le_refl _), List.drop_set_of_lt (by omega)]
    simp [Nat.add_assoc, Nat.add_comm 1]
/-- A struct's first part, and its second, an array. -/
theorem fold_set (zl : Array Value) (u : Value) (cs : List Value) (h : zl.size = 1 + cs.length) :
    cs.zipIdx.foldl (fun c x => c.setIfInBounds (1 + x.2) x.1) (zl.setIfInBounds 0 u) = (u :: cs).toArray := by
  apply Array.toList_inj.1
  have := fold_from 1 cs [] (zl.setIfInBounds 0 u) (by simp; omega) (by omega)
  rw [Nat.sub_self] at this
  rw [this]
  obtain ⟨z, zs, hz⟩ : ∃ z zs, zl.toList = z :: zs := by
    cases hq : zl.toList with
    | nil => have : zl.size = 0 := by rw [← Array.length_toList, hq]; rfl
             omega
    | cons z zs => exact ⟨z, zs, rfl⟩
  have hl : zs.length = cs.length := by
    have : zl.size = zs.length + 1 := by rw [← Array.length_toList, hz]; rfl
    omega
  simp [Array.toList_setIfInBounds, hz, hl]
  omega

set_option maxHeartbeats 1000000 in
set_option maxRecDepth 100000 in
theorem new_any (A : Option Addr) (n c : Nat) (k : List UInt8) (w : World) (ht : Tabs w) (hk : k.length = n) (hr : Row w A (bvs k)) (hc : n ≤ c) (hm : c ≤ maxLen) (hn2 : n ≤ 1099511627776) :
    Calls Tryd.prog 18 #[.slice A n c] w fun e w' => ∃ b h, e = .returned (.pointer (some ⟨b, 0, none⟩)) ∧ MacIs w' b h k ∧ Has w' h (ik k) ∧ Kp nob w w' ∧ w.heap.size ≤ b ∧ w.heap.size ≤ h := by
  have hfl := full_length k
  have HFL := Lib.hid hfl
  have HI := Lib.hid (ik_eq k); have HO := Lib.hid (ok_eq k)
  have HIL := Lib.hid (ik_length k)
  have HOL := Lib.hid (ok_length k)
  clear hfl
  go_enter Tryd.func18, Tryd.ntmps18
  go_wp2_with fail
  refine (filled_any A n c k w ht hk hr hc hm hn2).mono ?_
  rintro e w1 ⟨rfl, k1⟩
  obtain ⟨F, hF⟩ : ∃ F, F = full k := ⟨_, rfl⟩
  rw [← hF]
  have HFF := Lib.hid hF; clear hF
  have HFL2 : Hid (F.length = 64) := Lib.hid (by rw [HFF.out, HFL.out])
  go_wp2_with (first
    | (refine wpList_store_new rfl 48 (.tmp 3) (.tmp 7) rfl _ (bvs F) rfl rfl (by rw [bvs_length, HFL2.out]; rfl) (by rw [bvs_length, HFL2.out]; kernel_rfl) (bvs_one _) ?_
       intro w2 hB2 k2 z2
       have K2 : Kp nob w w2 := k1.trans k2 (fun _ e => e.elim)
       have HB2 := Lib.hid hB2
       have s1 : w.heap.size ≤ w1.heap.size := k1.size
       clear k1 k2 z2 hB2)
    | (refine wpList_load_blk rfl 48 (.tmp 3) rfl _ _ _ HB2.out rfl _ arr64 rfl (by rw [bvs_length, HFL2.out]; kernel_rfl) ?_))
  refine (masked_in F HFL2.out _).mono ?_
  rintro e w3 ⟨rfl, k3⟩
  rw [show mask 54 F = ik k by rw [HI.out, HFF.out]]
  go_wp2_with (refine wpList_store_new rfl 48 (.tmp 4) (.tmp 9) rfl _ (bvs (ik k)) rfl rfl (by rw [bvs_length, HIL.out]; rfl) (by rw [bvs_length, HIL.out]; kernel_rfl) (bvs_one _) ?_
               intro w4 hB4 k4 z4)
  have K4 : Kp nob w w4 := (K2.trans k3 (fun _ e => e.elim)).trans k4 (fun _ e => e.elim)
  have hF4 : w4.rangeAt w1.heap.size 0 (bvs F) := ((HB2.out.keep k3 (fun e => e)).keep k4 (fun e => e)).range
  have hsz4 : (Tryd.prog.info? 48).map (·.size) = some (bvs F).length := by rw [bvs_length, HFL2.out]; kernel_rfl
  have h64 := arr64
  have T4 := ht.keep0 K4
  have HB4 := Lib.hid hB4
  clear k3 k4 hB4 z4 HB2
  have hmz := mac_zero
  have hm0 : ¬ mzero.toArray = #[] := by simp [mzero]
  have hm1 : mzero.toArray.size = 65 := by rfl
  have hok := HOL.out
  generalize mzero.toArray = mz at hmz hm0 hm1
  have kd : Kp nob w4 w4.drew := (Kp.refl nob w4).drew
  go_region_held3 (fun w' => w'.rangeAt w1.heap.size 0 (bvs F) ∧ Kp nob w4 w')
    ((refine ⟨?_, ?_⟩ <;> first | assumption | exact Kp.alloc (by assumption) _ | exact range_keep (by assumption) ((Kp.refl nob _).alloc _) (fun e => e)))
    (first
      | (go_at_call 26
         obtain ⟨ra, ka⟩ := ‹_ ∧ Kp nob w4 _›
         refine (Sha.new_any _ (T4.keep0 ka)).mono ?_
         rintro e w5 ⟨h, rfl, hh, k5, n5⟩
         have n5 : w4.heap.size ≤ h := Nat.le_trans ka.size n5
         have R5 := range_keep ra k5 (fun e => e)
         have KK : Kp nob w4 w5 := ka.trans k5 (fun _ e => e.elim))
      | (go_at_call 25
         obtain ⟨ra, ka⟩ := ‹_ ∧ Kp nob w4 _›
         refine (masked_out F HFL2.out _).mono ?_
         rintro e w6 ⟨rfl, k6⟩
         rw [show mask 92 F = ok k by rw [HO.out, HFF.out]]
         have R5 := range_keep ra k6 (fun e => e)
         have KK : Kp nob w4 w6 := ka.trans k6 (fun _ e => e.elim)
         (try (have hh := Has.keep hh k6 (fun e => e)))))
  have hfd := fold_set mz (.pointer (some ⟨h, 0, none⟩)) (bvs (ok k)) (by rw [hm1, bvs_length, hok])
  rw [hfd]
  have hM6 : MacIs (w6.alloc (.cells (.pointer (some ⟨h, 0, none⟩) :: bvs (ok k)).toArray 50)) w6.heap.size h k := ⟨Blk.new' rfl rfl, by have := Sha.Has.lt hh; omega, T4.far n5⟩
  have K46 := (KK.alloc (.cells (.pointer (some ⟨h, 0, none⟩) :: bvs (ok k)).toArray 50)).drew
  have R7 : Hid (Row (w6.alloc (.cells (.pointer (some ⟨h, 0, none⟩) :: bvs (ok k)).toArray 50)).drew (some ⟨w3.heap.size, 0, none⟩) (bvs (ik k))) := Lib.hid (HB4.out.keep K46 (fun e => e)).row
  have K7 := KK.alloc (.cells (.pointer (some ⟨h, 0, none⟩) :: bvs (ok k)).toArray 50)
  have H7 : Has (w6.alloc (.cells (.pointer (some ⟨h, 0, none⟩) :: bvs (ok k)).toArray 50)) h [] := hh.keep ((Kp.refl nob w6).alloc _) (fun e => e)
  have nb : w4.heap.size ≤ w6.heap.size := KK.size
  clear hfd hmz hm0 hm1 hok ra ka R5 hh KK k6 ‹_ ∧ Kp nob w4 _›
  generalize w6.alloc (.cells (.pointer (some ⟨h, 0, none⟩) :: bvs (ok k)).toArray 50) = w7 at *
  generalize w6.heap.size = b at *
  have kd7 := (Kp.refl nob w7).drew
  have M7 := hM6.keep kd7 (fun e => e)
  have H7 := H7.keep kd7 (fun e => e)
  have K7 := (K4.trans K7 (fun _ e => e.elim)).trans kd7 (fun _ e => e.elim)
  have B7 := HB4.out
  have s4 := K4.size
  have lt3 := B7.lt
  clear hM6 kd7 B7
  go_wp2
  have hc := M7.hash
  have kd7 : Kp (oneB h) w7 w7.drew := (Kp.refl _ w7).drew
  go_region_held3 (fun w' => w'.cell? ⟨b, 0, none⟩ = some (.pointer (some ⟨h, 0, none⟩)) ∧ Kp (oneB h) w7 w')
    ((refine ⟨?_, ?_⟩ <;> first | assumption | exact Kp.alloc (by assumption) _ | exact cell_alloc (by assumption) _))
    (first
      | (go_at_call 19
         refine (Sha.write_one h [] ⟨some ⟨w3.heap.size, 0, none⟩, 64, 64, ik k⟩ w7.drew _ _ (by simp) H7 (ht.keep0 K7) (T4.far n5) (Sha.pcs_one HIL.out R7.out (.inr (off_block (by omega))) (Nat.le_refl _) (by simp [maxLen])) (by show [].length + (ik k).length ≤ _; rw [HIL.out]; simp)).mono ?_
         rintro e w8 ⟨rfl, h8, k8⟩
         have M8 := M7.keep k8 (fun e => M7.ne e.symm)
         have c8 := M8.hash
         have K8 := kd7.trans k8 (fun _ e => .inl e)))
  go_wp2
  go_ret
  exact ⟨b, h, rfl, M8, h8, K7.since k8 (fun i e => by unfold oneB at e; omega), by omega, by omega⟩
end Go.Proofs.YtnpidcehioljaaaDoor.Hmac
