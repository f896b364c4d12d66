/- Contracts of package hmac: the keyed digest of pieces at once; whether two tags are the same. -/
import Derived.Test.YtnpidcehioljaaaDoorHmacD
namespace Go.Proofs.YtnpidcehioljaaaDoor.Hmac
open Go Go.RowKit Kit
open Sha (Tabs Far Has Pc PcsOk catP u8s_under arr32b)

set_option maxHeartbeats 1000000 in
set_option maxRecDepth 100000 in
theorem of_any (A : Option Addr) (n c : Nat) (k : List UInt8) (B : Option Addr) (m d : Nat) (ps : List Pc) (w : World) (ht : Tabs w) (hk : k.length = n) (hr : Row w A (bvs k)) (hc : n ≤ c) (hm : c ≤ maxLen) (hn2 : n ≤ 1099511627776)
    (hps : ps.length = m) (hrp : Row w B (ps.map Pc.v)) (hp : PcsOk w nob ps) (hmm : m ≤ 1099511627776) (hl : (catP ps).length ≤ 1099511000000) :
    Calls Tryd.prog 16 #[.slice A n c, .slice B m d] w fun e w' => e = .returned (.agg (bvs (mac k (catP ps))).toArray) ∧ Kp nob w w' := by
  have HML := Lib.hid (mac_length k (catP ps))
  have HIL := Lib.hid (ik_length k)
  have K0 : ∀ o : Obj, Kp nob w (w.alloc o) := fun o => (Kp.refl nob w).alloc o
  have HK := Lib.hid hk; have HPS := Lib.hid hps; clear hk hps
  go_enter Tryd.func16, Tryd.ntmps16
  go_wp2_with fail
  refine (new_any A n c k _ (ht.keep0 (K0 _)) HK.out (hr.alloc _) hc hm hn2).mono ?_
  rintro e w2 ⟨b, h, rfl, hM, hH, k2, nb, nh⟩
  obtain ⟨z, hz1, hz2⟩ : ∃ z, Blk w2 w.heap.size 34 z ∧ z.length = 32 := ⟨_, (Blk.new' (w := w) rfl rfl).keep k2 (fun e => e), rfl⟩
  have K2 : Kp nob w w2 := (K0 _).trans k2 (fun _ e => e.elim)
  have HZ1 := Lib.hid hz1; have HZ2 := Lib.hid hz2
  simp only [World.alloc, Array.size_push] at nb nh
  have hc0 := hM.hash
  have T2 := ht.keep0 K2
  have r2 := hrp.keep0 K2
  have p2 := (hp.old (oneB h) (fun k e => by unfold oneB at e; omega)).keep K2 (fun _ e => e.elim)
  have hB2 : ps = [] ∨ ∀ k, ab B = some k → k ≠ h := by
    by_cases hl : ps = []
    · exact .inl hl
    · exact .inr (fun k e => by have := hrp.lt (by simpa using hl) k e; omega)
  clear k2 hz1 hz2 K0
  go_wp2_with fail
  refine (Sha.write_any h (ik k) B m d ps _ hH T2 hM.far HPS.out r2 hB2 p2 hmm (by rw [HIL.out]; omega)).mono ?_
  rintro e w3 ⟨rfl, h3, k3⟩
  have M3 := hM.keep k3 (fun e => hM.ne e.symm)
  have K3 := K2.since k3 (fun i e => by unfold oneB at e; omega)
  have HZ3 := Lib.hid (HZ1.out.keep k3 (fun e => by unfold oneB at e; omega))
  clear hc0
  go_wp2_with fail
  refine (sum_any b h k (catP ps) _ M3 h3 (ht.keep0 K3) hl).mono ?_
  rintro e w4 ⟨rfl, k4⟩
  have HZ4 := Lib.hid (HZ3.out.keep k4 (fun e => e))
  go_wp2_with (refine wpList_store_blk rfl 34 (.tmp 4) (.tmp 15) rfl _ _ z (bvs (mac k (catP ps))) HZ4.out rfl rfl (by rw [HZ2.out, bvs_length, HML.out]) (by rw [bvs_length, HML.out]; kernel_rfl) (bvs_one _) ?_; intro w5 hB5 k5 z5)
  have hsz5 : (Tryd.prog.info? 34).map (·.size) = some (bvs (mac k (catP ps))).toArray.size := by
    rw [List.size_toArray, bvs_length, HML.out]; kernel_rfl
  refine bodyPost_ret (results_cell_row rfl _ _ w.heap.size _ _ _ _ rfl hB5 arr32b rfl hsz5) rfl ⟨rfl, (K3.trans k4 (fun _ e => e.elim)).since k5 (fun i e => by unfold oneB at e; omega)⟩

end Go.Proofs.YtnpidcehioljaaaDoor.Hmac
