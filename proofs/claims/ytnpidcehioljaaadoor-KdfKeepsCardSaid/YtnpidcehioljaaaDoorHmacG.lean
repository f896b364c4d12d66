/- What statements over keyed digests play: pieces whose row the call makes, equal digests, rows that a function's text lays. -/
import Derived.Test.YtnpidcehioljaaaDoorHmacF
import Derived.Lib.SlBytesConst
import Derived.BigQuiet
import Derived.Deep.QuietTactic
namespace Go.Proofs.YtnpidcehioljaaaDoor.Hmac
open Go Go.RowKit Kit
open Sha (Tabs Far Has Pc PcsOk catP u8s_under arr32b u8s_info own_new own_one own_none u8_string row_marked eq32)

theorem eq_same (k l : List UInt8) (w : World) : (Op.equalIn 10000 34 (.agg (bvs (mac k l)).toArray) (.agg (bvs (mac k l)).toArray)).run Tryd.prog w = .ok true w := by
  rw [eq32 _ _ (mac_length k l) (mac_length k l)]; simp

/-- The row of pieces is a block that the call makes. -/
theorem of_pcs (A : Option Addr) (n c : Nat) (k : List UInt8) (ps : List Pc) (w : World) (t : TypeId) (g : Nat) (hg : g = w.heap.size) (ht : Tabs w) (hk : k.length = n) (hr : Row w A (bvs k)) (hc : n ≤ c) (hm : c ≤ maxLen) (hn2 : n ≤ 1099511627776) (hp : PcsOk w nob ps) (hmm : ps.length ≤ 1099511627776) (hl : (catP ps).length ≤ 1099511000000) :
    Calls Tryd.prog 16 #[.slice A n c, .slice (some ⟨g, 0, none⟩) ps.length ps.length] (w.alloc (.cells (ps.map Pc.v).toArray t)) fun e w' => e = .returned (.agg (bvs (mac k (catP ps))).toArray) ∧ Kp nob w w' := by
  subst hg
  have K := (Kp.refl nob w).alloc (.cells (ps.map Pc.v).toArray t)
  refine (of_any A n c k (some ⟨w.heap.size, 0, none⟩) ps.length ps.length ps _ (ht.keep0 K) hk (hr.keep0 K) hc hm hn2 rfl (row_new w _ t) (hp.keep0 K) hmm hl).mono ?_
  rintro e' w' ⟨rfl, k⟩
  exact ⟨rfl, K.trans k (fun _ e => e.elim)⟩
theorem of_pcs1 (A : Option Addr) (n c : Nat) (k : List UInt8) (p : Pc) (w : World) (t : TypeId) (g : Nat) (hg : g = w.heap.size) (ht : Tabs w) (hk : k.length = n) (hr : Row w A (bvs k)) (hc : n ≤ c) (hm : c ≤ maxLen) (hn2 : n ≤ 1099511627776) (hp : PcsOk w nob [p]) (hl : p.l.length ≤ 1099511000000) :
    Calls Tryd.prog 16 #[.slice A n c, .slice (some ⟨g, 0, none⟩) 1 1] (w.alloc (.cells #[.slice p.A p.n p.c] t)) fun e w' => e = .returned (.agg (bvs (mac k p.l)).toArray) ∧ Kp nob w w' := by
  have e : catP [p] = p.l := by simp [catP]
  have := of_pcs A n c k [p] w t g hg ht hk hr hc hm hn2 hp (by simp) (by rw [e]; exact hl)
  rw [e] at this
  exact this
theorem of_pcs2 (A : Option Addr) (n c : Nat) (k : List UInt8) (p q : Pc) (w : World) (t : TypeId) (g : Nat) (hg : g = w.heap.size) (ht : Tabs w) (hk : k.length = n) (hr : Row w A (bvs k)) (hc : n ≤ c) (hm : c ≤ maxLen) (hn2 : n ≤ 1099511627776) (hp : PcsOk w nob [p]) (hq : PcsOk w nob [q]) (hl : p.l.length + q.l.length ≤ 1099511000000) :
    Calls Tryd.prog 16 #[.slice A n c, .slice (some ⟨g, 0, none⟩) 2 2] (w.alloc (.cells #[.slice p.A p.n p.c, .slice q.A q.n q.c] t)) fun e w' => e = .returned (.agg (bvs (mac k (p.l ++ q.l))).toArray) ∧ Kp nob w w' := by
  have e : catP [p, q] = p.l ++ q.l := by simp [catP]
  have := of_pcs A n c k [p, q] w t g hg ht hk hr hc hm hn2 (pcs_cons hp hq) (by simp) (by rw [e, List.length_append]; exact hl)
  rw [e] at this
  exact this
/-- Three rows that a function's text lays. -/
def lay3 (w : World) (a b c : List Value) (t : TypeId) (f1 f2 f3 : Nat × Nat) : World := ((w.alloc (.cells a.toArray t f1)).alloc (.cells b.toArray t f2)).alloc (.cells c.toArray t f3)
theorem lay3_rows (w : World) (a b c : List Value) (t : TypeId) (f1 f2 f3 : Nat × Nat) :
    Row (lay3 w a b c t f1 f2 f3) (some ⟨w.heap.size, 0, none⟩) a ∧ Row (lay3 w a b c t f1 f2 f3) (some ⟨w.heap.size + 1, 0, none⟩) b ∧ Row (lay3 w a b c t f1 f2 f3) (some ⟨w.heap.size + 1 + 1, 0, none⟩) c ∧ Kp nob w (lay3 w a b c t f1 f2 f3) ∧ w.heap.size + 1 + 1 + 1 = (lay3 w a b c t f1 f2 f3).heap.size := by
  refine ⟨((row_marked w a t f1).alloc _).alloc _, ?_, ?_, (((Kp.refl _ w).alloc _).alloc _).alloc _, by simp [lay3]⟩
  · have := (row_marked (w.alloc (.cells a.toArray t f1)) b t f2).alloc (.cells c.toArray t f3)
    rwa [show (w.alloc (.cells a.toArray t f1)).heap.size = w.heap.size + 1 by simp] at this
  · have := row_marked ((w.alloc (.cells a.toArray t f1)).alloc (.cells b.toArray t f2)) c t f3
    rwa [show ((w.alloc (.cells a.toArray t f1)).alloc (.cells b.toArray t f2)).heap.size = w.heap.size + 1 + 1 by simp] at this

end Go.Proofs.YtnpidcehioljaaaDoor.Hmac
