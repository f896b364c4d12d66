/- Contracts of package kdf, and of the document's own answers: what is derived. -/
import Derived.Test.YtnpidcehioljaaaDoorKdfC
namespace Go.Proofs.YtnpidcehioljaaaDoor.Kdf
open Go Go.RowKit Kit
open Sha (Tabs Far Has Pc PcsOk catP u8s_under arr32b u8s_info row_marked u8_string conv_row)
open Hmac (mac mac_length ik ik_length MacIs)

set_option maxHeartbeats 1000000 in
set_option maxRecDepth 100000 in
theorem derive_any (A : Option Addr) (n c : Nat) (k : List UInt8) (B : Option Addr) (m d : Nat) (l : List UInt8) (N : Int) (G : Option Addr) (u v : Nat) (ps : List Pc) (w : World) (ht : Tabs w) (hk : k.length = n) (hr : Row w A (bvs k)) (hc : n ≤ c) (hm : c ≤ maxLen) (hn2 : n ≤ 1099511627776)
    (hb : l.length = m) (hrb : Row w B (bvs l)) (hd : m ≤ d) (hdm : d ≤ maxLen) (hm2 : m ≤ 1099511000000)
    (hps : ps.length = u) (hrp : Row w G (ps.map Pc.v)) (hp : PcsOk w nob ps) (hmm : u ≤ 1099511627776) (hl : (catP ps).length ≤ 1099510000000) :
    Calls Tryd.prog 11 #[.slice A n c, .slice B m d, .int .i64 N, .slice G u v] w fun e w' => (∃ X l' cX, e = .returned (.tuple #[.slice X l' cX, .int .i64 (err N)]) ∧ (out (mac k l) (catP ps) N).length = l' ∧ Row w' X (bvs (out (mac k l) (catP ps) N))) ∧ Kp nob w w' := by
  have HML := Lib.hid (mac_length k l)
  have HPS := Lib.hid hps; have HB := Lib.hid hb; clear hps
  go_enter Tryd.func11, Tryd.ntmps11
  go_wp2_with fail
  refine (extract_any A n c k B m d l w ht hk hr hc hm hn2 hb hrb hd hdm hm2).mono ?_
  rintro e w2 ⟨rfl, k2⟩
  obtain ⟨D, hD⟩ : ∃ D, D = mac k l := ⟨_, rfl⟩
  rw [← hD] at HML ⊢
  have HD := Lib.hid hD; clear hD
  clear hr hk hrb hb
  go_wp2_with (first
    | (refine wpList_store_new rfl 34 (.tmp 10) (.tmp 13) rfl _ (bvs D) rfl rfl (by rw [bvs_length, HML.out]; rfl) (by rw [bvs_length, HML.out]; kernel_rfl) (bvs_one _) ?_
       intro w3 hB3 k3 z3
       have HB3 := Lib.hid hB3
       have K3 : Kp nob w w3 := k2.trans k3 (fun _ e => e.elim)
       clear hB3 k3)
    | fail)
  refine (expand_any (some ⟨w2.heap.size, 0, none⟩) 32 32 D N G u v ps w3 (ht.keep0 K3) HML.out HB3.out.row (Nat.le_refl _) (by simp [maxLen]) (by omega) HPS.out (hrp.keep0 K3) (hp.keep0 K3) hmm hl).mono ?_
  rintro e w4 ⟨⟨X, l', cX, rfl, hl', hX⟩, k4⟩
  have K4 := K3.trans k4 (fun _ e => e.elim)
  have HX := Lib.hid hX; have HL := Lib.hid hl'
  clear hX hl' k4
  go_wp2
  go_ret2
  exact ⟨⟨X, l', cX, rfl, by rw [← HD.out]; exact HL.out, by rw [← HD.out]; exact HX.out⟩, K4⟩

set_option maxHeartbeats 1000000 in
set_option maxRecDepth 100000 in
theorem fderive_any (k l P : List UInt8) (N : Int) (w : World) (hk : k.length ≤ 1099511627776) (hm : l.length ≤ 1099511000000) (hl : P.length ≤ 1099510000000) :
    Calls Tryd.prog 12 #[.string (str k), .string (str l), .int .i64 N, .string (str P)] w fun e w' => e = .returned (.tuple #[.string (str (out (mac k l) P N)), .int .i64 (err N)]) ∧ Kp nob w w' := by
  have HML := Lib.hid (mac_length k l)
  go_enter Tryd.func12, Tryd.ntmps12
  go_wp2_with fail
  refine (Hmac.fMac (str k) (str l) w (by rw [str_size]; exact hk) (by rw [str_size]; exact hm)).mono ?_
  rintro e w2 ⟨rfl, k2⟩
  rw [sl_str, sl_str]
  obtain ⟨D, hD⟩ : ∃ D, D = mac k l := ⟨_, rfl⟩
  rw [← hD] at HML ⊢
  have HD := Lib.hid hD; clear hD
  go_wp2_with (first
    | (refine wpList_store_new rfl 34 (.tmp 10) (.tmp 13) rfl _ (bvs D) rfl rfl (by rw [bvs_length, HML.out]; rfl) (by rw [bvs_length, HML.out]; kernel_rfl) (bvs_one _) ?_
       intro w3 hB3 k3 z3
       have HB3 := Lib.hid hB3
       have K3 : Kp nob w w3 := k2.trans k3 (fun _ e => e.elim)
       clear hB3 k3)
    | (refine wpList_bytes_str rfl 22 9 5 (.tmp 14) rfl u8s_under (by kernel_rfl) u8_string _ 32 32 D HML.out HB3.out.row rfl ?_))
  refine (fexpand_any D P N w3 (by rw [HML.out]; omega) hl).mono ?_
  rintro e w4 ⟨rfl, k4⟩
  have K4 := K3.trans k4 (fun _ e => e.elim)
  go_wp2
  go_ret2
  exact ⟨by rw [← HD.out]; rfl, K4⟩
end Go.Proofs.YtnpidcehioljaaaDoor.Kdf
