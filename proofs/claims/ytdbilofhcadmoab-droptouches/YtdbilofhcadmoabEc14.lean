/- The contract of drop's Step, for memory of one's own: to each part. -/
import Derived.Test.YtdbilofhcadmoabEc13
namespace Go.Proofs.Ytdbilofhcadmoab.mm
open Go.ChangeShapes Go.WideShapes Go.ChangeAt Go.RowKit Go.Joins Go.Deep Go.Sort
set_option maxRecDepth 100000
set_option linter.unusedVariables false

set_option maxHeartbeats 1600000 in
theorem drstep4 (t : Int) (M M' : Mm) (g : Fr) (c : Cl) (cur prev slot nn ee : Int) (keys : List (Int × Int)) (B lo : Nat) (aS aH aF aL : Option Addr) (cS cH cF cL : Nat) (aK : Option Addr) (cK : Nat) (w : World)
    (m : Mine w B lo aS aH aF aL cS cH cF cL M) (HR : Hid (KRow w aK cK keys)) (HKy : Hid (g.keys = keys))
    (HP : Hid (∀ (W : World), Mine W B lo aS aH aF aL cS cH cF cL M → KRow W aK cK keys → Calls Try.prog 133 #[.pointer (some ⟨B, 0, none⟩), .agg #[.int .i64 c.kind, .int .i64 c.a, .int .i64 c.b, .int .i64 c.time, .int .i64 c.bk, .int .i64 c.slot, .int .i64 4, .int .i64 cur, .int .i64 prev, .int .i64 slot, .int .i64 nn, .slice aK keys.length cK, .bool false, .int .i64 ee]] W fun e w' => Ret W w' e g aK cK ∧ Has w' B lo (Up W (Foot B aS aH aF aL)) M' ∧ Fine W w' (Foot B aS aH aF aL))) :
    Calls Try.prog 62 #[.pointer (some ⟨B, 0, none⟩), .agg #[.int .i64 c.kind, .int .i64 c.a, .int .i64 c.b, .int .i64 c.time, .int .i64 c.bk, .int .i64 c.slot, .int .i64 4, .int .i64 cur, .int .i64 prev, .int .i64 slot, .int .i64 nn, .slice aK keys.length cK, .bool false, .int .i64 ee], .int .i64 t] w fun e w' => Ret w w' e g aK cK ∧ Has w' B lo (Up w (Foot B aS aH aF aL)) M' ∧ Fine w w' (Foot B aS aH aF aL) := by
  obtain ⟨of, hof⟩ : ∃ o : Obj, o = .cells #[.int .i64 c.kind, .int .i64 c.a, .int .i64 c.b, .int .i64 c.time, .int .i64 c.bk, .int .i64 c.slot, .int .i64 4, .int .i64 cur, .int .i64 prev, .int .i64 slot, .int .i64 nn, .slice aK keys.length cK, .bool false, .int .i64 ee] 51 := ⟨_, rfl⟩
  obtain ⟨oz, hoz⟩ : ∃ o : Obj, o = zeroFr := ⟨_, rfl⟩
  have HE : Hid (Lk w ((w.alloc of).alloc oz) B lo aS aH aF aL cS cH cF cL M ⟨c, 4, cur, prev, slot, nn, keys, false, ee⟩ aK cK) := Lk.first m ⟨c, 4, cur, prev, slot, nn, keys, false, ee⟩ aK cK hof hoz
  obtain ⟨f0, f1, f2, f3, f4, f5, f6, f7, f8, f9, f10, f11, f12, f13, ff, fs⟩ := framef (show ((w.alloc of).alloc oz).heap[w.heap.size]? = some (.cells #[.int .i64 c.kind, .int .i64 c.a, .int .i64 c.b, .int .i64 c.time, .int .i64 c.bk, .int .i64 c.slot, .int .i64 4, .int .i64 cur, .int .i64 prev, .int .i64 slot, .int .i64 nn, .slice aK keys.length cK, .bool false, .int .i64 ee] 51 (0, 0)) from HE.out.fb)
  unfold zeroFr at hoz
  clear m
  go_enter Try.func62, Try.ntmps62
  go_wp2_with fail
  rw [← hof, ← hoz]
  generalize (w.alloc of).alloc oz = W0 at *
  subst hof hoz
  have HE1 : Hid (Lk w W0 B lo aS aH aF aL cS cH cF cL M ⟨c, 4, cur, prev, slot, nn, keys, false, ee⟩ aK cK) := HE.out
  clear HE
  clear f0 f1 f2 f3 f4 f5 f6 f7 f8 f9 f10 f11 f12 f13 ff fs
  refine (HP.out _ HE1.out.m (HR.out.below HE1.out.bl)).mono ?_
  rintro e w2 ⟨⟨a2, c2, rfl, hr2, hl2, hd2⟩, hh2, hf2⟩
  have HK2 : Hid (KRow w2 a2 c2 keys ∧ ∀ ad, a2 = some ad → aK = some ad ∨ w.heap.size + 2 ≤ ad.block) := ⟨HKy.out ▸ hr2, fun ad h => (hl2 ad h).imp id (fun h' => Nat.le_trans (lt_of_block HE1.out.zb) h')⟩
  have HD2 : Hid (g.done = false → a2 = aK ∧ c2 = cK) := hd2
  have HE2 : Hid (Lk2 w w2 (Foot B aS aH aF aL) B lo M' ⟨c, 4, cur, prev, slot, nn, keys, false, ee⟩ aK cK) := HE1.out.after hh2 hf2
  clear HE1 hh2 hf2 hr2 hl2 hd2
  obtain ⟨g0, g1, g2, g3, g4, g5, g6, g7, g8, g9, g10, g11, g12, g13, gf, gs⟩ := framef HE2.out.zb
  go_wp2
  refine bodyPost_ret (v := .agg #[.int .i64 g.c.kind, .int .i64 g.c.a, .int .i64 g.c.b, .int .i64 g.c.time, .int .i64 g.c.bk, .int .i64 g.c.slot, .int .i64 g.pl, .int .i64 g.cur, .int .i64 g.prev, .int .i64 g.slot, .int .i64 g.n, .slice a2 g.keys.length c2, .bool g.done, .int .i64 g.e]) (by simp [results, Try.results62, go_sem, g0, g1, g2, g3, g4, g5, g6, g7, g8, g9, g10, g11, g12, g13]) rfl ⟨⟨a2, c2, rfl, by rw [HKy.out]; exact kro_end rfl HK2.out.1 HR.out HK2.out.2, (fun ad h => (HK2.out.2 ad h).imp id (fun h' => by omega)), HD2.out⟩, HE2.out.end14⟩

set_option maxHeartbeats 1600000 in
theorem drstep5 (t : Int) (M M' : Mm) (g : Fr) (c : Cl) (cur prev slot nn ee : Int) (keys : List (Int × Int)) (B lo : Nat) (aS aH aF aL : Option Addr) (cS cH cF cL : Nat) (aK : Option Addr) (cK : Nat) (w : World)
    (m : Mine w B lo aS aH aF aL cS cH cF cL M) (HR : Hid (KRow w aK cK keys)) (HKy : Hid (g.keys = keys))
    (HP : Hid (∀ (W : World), Mine W B lo aS aH aF aL cS cH cF cL M → KRow W aK cK keys → Calls Try.prog 134 #[.pointer (some ⟨B, 0, none⟩), .agg #[.int .i64 c.kind, .int .i64 c.a, .int .i64 c.b, .int .i64 c.time, .int .i64 c.bk, .int .i64 c.slot, .int .i64 5, .int .i64 cur, .int .i64 prev, .int .i64 slot, .int .i64 nn, .slice aK keys.length cK, .bool false, .int .i64 ee], .int .i64 t] W fun e w' => Ret W w' e g aK cK ∧ Has w' B lo (Up W (Foot B aS aH aF aL)) M' ∧ Fine W w' (Foot B aS aH aF aL))) :
    Calls Try.prog 62 #[.pointer (some ⟨B, 0, none⟩), .agg #[.int .i64 c.kind, .int .i64 c.a, .int .i64 c.b, .int .i64 c.time, .int .i64 c.bk, .int .i64 c.slot, .int .i64 5, .int .i64 cur, .int .i64 prev, .int .i64 slot, .int .i64 nn, .slice aK keys.length cK, .bool false, .int .i64 ee], .int .i64 t] w fun e w' => Ret w w' e g aK cK ∧ Has w' B lo (Up w (Foot B aS aH aF aL)) M' ∧ Fine w w' (Foot B aS aH aF aL) := by
  obtain ⟨of, hof⟩ : ∃ o : Obj, o = .cells #[.int .i64 c.kind, .int .i64 c.a, .int .i64 c.b, .int .i64 c.time, .int .i64 c.bk, .int .i64 c.slot, .int .i64 5, .int .i64 cur, .int .i64 prev, .int .i64 slot, .int .i64 nn, .slice aK keys.length cK, .bool false, .int .i64 ee] 51 := ⟨_, rfl⟩
  obtain ⟨oz, hoz⟩ : ∃ o : Obj, o = zeroFr := ⟨_, rfl⟩
  have HE : Hid (Lk w ((w.alloc of).alloc oz) B lo aS aH aF aL cS cH cF cL M ⟨c, 5, cur, prev, slot, nn, keys, false, ee⟩ aK cK) := Lk.first m ⟨c, 5, cur, prev, slot, nn, keys, false, ee⟩ aK cK hof hoz
  obtain ⟨f0, f1, f2, f3, f4, f5, f6, f7, f8, f9, f10, f11, f12, f13, ff, fs⟩ := framef (show ((w.alloc of).alloc oz).heap[w.heap.size]? = some (.cells #[.int .i64 c.kind, .int .i64 c.a, .int .i64 c.b, .int .i64 c.time, .int .i64 c.bk, .int .i64 c.slot, .int .i64 5, .int .i64 cur, .int .i64 prev, .int .i64 slot, .int .i64 nn, .slice aK keys.length cK, .bool false, .int .i64 ee] 51 (0, 0)) from HE.out.fb)
  unfold zeroFr at hoz
  clear m
  go_enter Try.func62, Try.ntmps62
  go_wp2_with fail
  rw [← hof, ← hoz]
  generalize (w.alloc of).alloc oz = W0 at *
  subst hof hoz
  have HE1 : Hid (Lk w W0 B lo aS aH aF aL cS cH cF cL M ⟨c, 5, cur, prev, slot, nn, keys, false, ee⟩ aK cK) := HE.out
  clear HE
  clear f0 f1 f2 f3 f4 f5 f6 f7 f8 f9 f10 f11 f12 f13 ff fs
  refine (HP.out _ HE1.out.m (HR.out.below HE1.out.bl)).mono ?_
  rintro e w2 ⟨⟨a2, c2, rfl, hr2, hl2, hd2⟩, hh2, hf2⟩
  have HK2 : Hid (KRow w2 a2 c2 keys ∧ ∀ ad, a2 = some ad → aK = some ad ∨ w.heap.size + 2 ≤ ad.block) := ⟨HKy.out ▸ hr2, fun ad h => (hl2 ad h).imp id (fun h' => Nat.le_trans (lt_of_block HE1.out.zb) h')⟩
  have HD2 : Hid (g.done = false → a2 = aK ∧ c2 = cK) := hd2
  have HE2 : Hid (Lk2 w w2 (Foot B aS aH aF aL) B lo M' ⟨c, 5, cur, prev, slot, nn, keys, false, ee⟩ aK cK) := HE1.out.after hh2 hf2
  clear HE1 hh2 hf2 hr2 hl2 hd2
  obtain ⟨g0, g1, g2, g3, g4, g5, g6, g7, g8, g9, g10, g11, g12, g13, gf, gs⟩ := framef HE2.out.zb
  go_wp2
  refine bodyPost_ret (v := .agg #[.int .i64 g.c.kind, .int .i64 g.c.a, .int .i64 g.c.b, .int .i64 g.c.time, .int .i64 g.c.bk, .int .i64 g.c.slot, .int .i64 g.pl, .int .i64 g.cur, .int .i64 g.prev, .int .i64 g.slot, .int .i64 g.n, .slice a2 g.keys.length c2, .bool g.done, .int .i64 g.e]) (by simp [results, Try.results62, go_sem, g0, g1, g2, g3, g4, g5, g6, g7, g8, g9, g10, g11, g12, g13]) rfl ⟨⟨a2, c2, rfl, by rw [HKy.out]; exact kro_end rfl HK2.out.1 HR.out HK2.out.2, (fun ad h => (HK2.out.2 ad h).imp id (fun h' => by omega)), HD2.out⟩, HE2.out.end14⟩

set_option maxHeartbeats 1600000 in
theorem drstep6 (t : Int) (M M' : Mm) (g : Fr) (c : Cl) (cur prev slot nn ee : Int) (keys : List (Int × Int)) (B lo : Nat) (aS aH aF aL : Option Addr) (cS cH cF cL : Nat) (aK : Option Addr) (cK : Nat) (w : World)
    (m : Mine w B lo aS aH aF aL cS cH cF cL M) (HR : Hid (KRow w aK cK keys)) (HKy : Hid (g.keys = keys))
    (HP : Hid (∀ (W : World), Mine W B lo aS aH aF aL cS cH cF cL M → KRow W aK cK keys → Calls Try.prog 135 #[.pointer (some ⟨B, 0, none⟩), .agg #[.int .i64 c.kind, .int .i64 c.a, .int .i64 c.b, .int .i64 c.time, .int .i64 c.bk, .int .i64 c.slot, .int .i64 6, .int .i64 cur, .int .i64 prev, .int .i64 slot, .int .i64 nn, .slice aK keys.length cK, .bool false, .int .i64 ee]] W fun e w' => Ret W w' e g aK cK ∧ Has w' B lo (Up W (Foot B aS aH aF aL)) M' ∧ Fine W w' (Foot B aS aH aF aL))) :
    Calls Try.prog 62 #[.pointer (some ⟨B, 0, none⟩), .agg #[.int .i64 c.kind, .int .i64 c.a, .int .i64 c.b, .int .i64 c.time, .int .i64 c.bk, .int .i64 c.slot, .int .i64 6, .int .i64 cur, .int .i64 prev, .int .i64 slot, .int .i64 nn, .slice aK keys.length cK, .bool false, .int .i64 ee], .int .i64 t] w fun e w' => Ret w w' e g aK cK ∧ Has w' B lo (Up w (Foot B aS aH aF aL)) M' ∧ Fine w w' (Foot B aS aH aF aL) := by
  obtain ⟨of, hof⟩ : ∃ o : Obj, o = .cells #[.int .i64 c.kind, .int .i64 c.a, .int .i64 c.b, .int .i64 c.time, .int .i64 c.bk, .int .i64 c.slot, .int .i64 6, .int .i64 cur, .int .i64 prev, .int .i64 slot, .int .i64 nn, .slice aK keys.length cK, .bool false, .int .i64 ee] 51 := ⟨_, rfl⟩
  obtain ⟨oz, hoz⟩ : ∃ o : Obj, o = zeroFr := ⟨_, rfl⟩
  have HE : Hid (Lk w ((w.alloc of).alloc oz) B lo aS aH aF aL cS cH cF cL M ⟨c, 6, cur, prev, slot, nn, keys, false, ee⟩ aK cK) := Lk.first m ⟨c, 6, cur, prev, slot, nn, keys, false, ee⟩ aK cK hof hoz
  obtain ⟨f0, f1, f2, f3, f4, f5, f6, f7, f8, f9, f10, f11, f12, f13, ff, fs⟩ := framef (show ((w.alloc of).alloc oz).heap[w.heap.size]? = some (.cells #[.int .i64 c.kind, .int .i64 c.a, .int .i64 c.b, .int .i64 c.time, .int .i64 c.bk, .int .i64 c.slot, .int .i64 6, .int .i64 cur, .int .i64 prev, .int .i64 slot, .int .i64 nn, .slice aK keys.length cK, .bool false, .int .i64 ee] 51 (0, 0)) from HE.out.fb)
  unfold zeroFr at hoz
  clear m
  go_enter Try.func62, Try.ntmps62
  go_wp2_with fail
  rw [← hof, ← hoz]
  generalize (w.alloc of).alloc oz = W0 at *
  subst hof hoz
  have HE1 : Hid (Lk w W0 B lo aS aH aF aL cS cH cF cL M ⟨c, 6, cur, prev, slot, nn, keys, false, ee⟩ aK cK) := HE.out
  clear HE
  clear f0 f1 f2 f3 f4 f5 f6 f7 f8 f9 f10 f11 f12 f13 ff fs
  refine (HP.out _ HE1.out.m (HR.out.below HE1.out.bl)).mono ?_
  rintro e w2 ⟨⟨a2, c2, rfl, hr2, hl2, hd2⟩, hh2, hf2⟩
  have HK2 : Hid (KRow w2 a2 c2 keys ∧ ∀ ad, a2 = some ad → aK = some ad ∨ w.heap.size + 2 ≤ ad.block) := ⟨HKy.out ▸ hr2, fun ad h => (hl2 ad h).imp id (fun h' => Nat.le_trans (lt_of_block HE1.out.zb) h')⟩
  have HD2 : Hid (g.done = false → a2 = aK ∧ c2 = cK) := hd2
  have HE2 : Hid (Lk2 w w2 (Foot B aS aH aF aL) B lo M' ⟨c, 6, cur, prev, slot, nn, keys, false, ee⟩ aK cK) := HE1.out.after hh2 hf2
  clear HE1 hh2 hf2 hr2 hl2 hd2
  obtain ⟨g0, g1, g2, g3, g4, g5, g6, g7, g8, g9, g10, g11, g12, g13, gf, gs⟩ := framef HE2.out.zb
  go_wp2
  refine bodyPost_ret (v := .agg #[.int .i64 g.c.kind, .int .i64 g.c.a, .int .i64 g.c.b, .int .i64 g.c.time, .int .i64 g.c.bk, .int .i64 g.c.slot, .int .i64 g.pl, .int .i64 g.cur, .int .i64 g.prev, .int .i64 g.slot, .int .i64 g.n, .slice a2 g.keys.length c2, .bool g.done, .int .i64 g.e]) (by simp [results, Try.results62, go_sem, g0, g1, g2, g3, g4, g5, g6, g7, g8, g9, g10, g11, g12, g13]) rfl ⟨⟨a2, c2, rfl, by rw [HKy.out]; exact kro_end rfl HK2.out.1 HR.out HK2.out.2, (fun ad h => (HK2.out.2 ad h).imp id (fun h' => by omega)), HD2.out⟩, HE2.out.end14⟩

def lateD (f : Fr) : Fr := errF f 8 5
set_option maxHeartbeats 1600000 in
theorem drstepLate (t : Int) (M : Mm) (c : Cl) (pl cur prev slot nn ee : Int) (keys : List (Int × Int)) (B lo : Nat) (aS aH aF aL : Option Addr) (cS cH cF cL : Nat) (aK : Option Addr) (cK : Nat) (w : World)
    (m : Mine w B lo aS aH aF aL cS cH cF cL M) (HR : Hid (KRow w aK cK keys)) (h7 : 7 ≤ pl) :
    Calls Try.prog 62 #[.pointer (some ⟨B, 0, none⟩), .agg #[.int .i64 c.kind, .int .i64 c.a, .int .i64 c.b, .int .i64 c.time, .int .i64 c.bk, .int .i64 c.slot, .int .i64 pl, .int .i64 cur, .int .i64 prev, .int .i64 slot, .int .i64 nn, .slice aK keys.length cK, .bool false, .int .i64 ee], .int .i64 t] w fun e w' => Ret w w' e (lateD ⟨c, pl, cur, prev, slot, nn, keys, false, ee⟩) aK cK ∧ Has w' B lo (Up w (Foot B aS aH aF aL)) M ∧ Fine w w' (Foot B aS aH aF aL) := by
  have p0 : (pl == 0) = false := by rw [beq_eq_false_iff_ne]; omega
  have p1 : (pl == 1) = false := by rw [beq_eq_false_iff_ne]; omega
  have p2 : (pl == 2) = false := by rw [beq_eq_false_iff_ne]; omega
  have p3 : (pl == 3) = false := by rw [beq_eq_false_iff_ne]; omega
  have p4 : (pl == 4) = false := by rw [beq_eq_false_iff_ne]; omega
  have p5 : (pl == 5) = false := by rw [beq_eq_false_iff_ne]; omega
  have p6 : (pl == 6) = false := by rw [beq_eq_false_iff_ne]; omega
  obtain ⟨of, hof⟩ : ∃ o : Obj, o = .cells #[.int .i64 c.kind, .int .i64 c.a, .int .i64 c.b, .int .i64 c.time, .int .i64 c.bk, .int .i64 c.slot, .int .i64 pl, .int .i64 cur, .int .i64 prev, .int .i64 slot, .int .i64 nn, .slice aK keys.length cK, .bool false, .int .i64 ee] 51 := ⟨_, rfl⟩
  obtain ⟨oz, hoz⟩ : ∃ o : Obj, o = zeroFr := ⟨_, rfl⟩
  have HE : Hid (Lk w ((w.alloc of).alloc oz) B lo aS aH aF aL cS cH cF cL M ⟨c, pl, cur, prev, slot, nn, keys, false, ee⟩ aK cK) := Lk.first m ⟨c, pl, cur, prev, slot, nn, keys, false, ee⟩ aK cK hof hoz
  obtain ⟨f0, f1, f2, f3, f4, f5, f6, f7, f8, f9, f10, f11, f12, f13, ff, fs⟩ := framef (show ((w.alloc of).alloc oz).heap[w.heap.size]? = some (.cells #[.int .i64 c.kind, .int .i64 c.a, .int .i64 c.b, .int .i64 c.time, .int .i64 c.bk, .int .i64 c.slot, .int .i64 pl, .int .i64 cur, .int .i64 prev, .int .i64 slot, .int .i64 nn, .slice aK keys.length cK, .bool false, .int .i64 ee] 51 (0, 0)) from HE.out.fb)
  unfold zeroFr at hoz
  clear m
  go_enter Try.func62, Try.ntmps62
  go_wp2_with fail
  rw [← hof, ← hoz]
  generalize (w.alloc of).alloc oz = W0 at *
  subst hof hoz
  clear f0 f1 f2 f3 f4 f5 f6 f7 f8 f9 f10 f11 f12 f13 ff fs
  refine (drlate_any ⟨c, pl, cur, prev, slot, nn, keys, false, ee⟩ aK cK _).mono ?_
  rintro e w2 ⟨rfl, hb2⟩
  have HE2 : Hid (Lk w w2 B lo aS aH aF aL cS cH cF cL M ⟨c, pl, cur, prev, slot, nn, keys, false, ee⟩ aK cK) := HE.out.below hb2
  clear HE hb2
  obtain ⟨g0, g1, g2, g3, g4, g5, g6, g7, g8, g9, g10, g11, g12, g13, gf, gs⟩ := framef HE2.out.zb
  go_wp2
  refine bodyPost_ret (v := .agg #[.int .i64 (lateD ⟨c, pl, cur, prev, slot, nn, keys, false, ee⟩).c.kind, .int .i64 (lateD ⟨c, pl, cur, prev, slot, nn, keys, false, ee⟩).c.a, .int .i64 (lateD ⟨c, pl, cur, prev, slot, nn, keys, false, ee⟩).c.b, .int .i64 (lateD ⟨c, pl, cur, prev, slot, nn, keys, false, ee⟩).c.time, .int .i64 (lateD ⟨c, pl, cur, prev, slot, nn, keys, false, ee⟩).c.bk, .int .i64 (lateD ⟨c, pl, cur, prev, slot, nn, keys, false, ee⟩).c.slot, .int .i64 (lateD ⟨c, pl, cur, prev, slot, nn, keys, false, ee⟩).pl, .int .i64 (lateD ⟨c, pl, cur, prev, slot, nn, keys, false, ee⟩).cur, .int .i64 (lateD ⟨c, pl, cur, prev, slot, nn, keys, false, ee⟩).prev, .int .i64 (lateD ⟨c, pl, cur, prev, slot, nn, keys, false, ee⟩).slot, .int .i64 (lateD ⟨c, pl, cur, prev, slot, nn, keys, false, ee⟩).n, .slice aK (lateD ⟨c, pl, cur, prev, slot, nn, keys, false, ee⟩).keys.length cK, .bool (lateD ⟨c, pl, cur, prev, slot, nn, keys, false, ee⟩).done, .int .i64 (lateD ⟨c, pl, cur, prev, slot, nn, keys, false, ee⟩).e]) (by simp [results, Try.results62, go_sem, lateD, errF, g0, g1, g2, g3, g4, g5, g6, g7, g8, g9, g10, g11, g12, g13]) rfl ⟨⟨aK, cK, rfl, HR.out.below (set14 HE2.out.bl), (fun ad h => .inl h), fun _ => ⟨rfl, rfl⟩⟩, HE2.out.two.end14⟩

end Go.Proofs.Ytdbilofhcadmoab.mm
