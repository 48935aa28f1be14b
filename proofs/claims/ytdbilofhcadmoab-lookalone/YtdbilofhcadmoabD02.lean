/- The contract of look's Step, for memory of one's own. -/
import Derived.Test.YtdbilofhcadmoabD01
import Derived.Test.YtdbilofhcadmoabC25
import Derived.Test.YtdbilofhcadmoabC30
namespace Go.Proofs.Ytdbilofhcadmoab.mm
open Go.ChangeShapes Go.WideShapes Go.ChangeAt Go.RowKit Go.Joins
set_option maxRecDepth 100000
set_option linter.unusedVariables false

/- One part's answer, as a part that may change memory. -/
theorem same_part {w w' : World} {B lo : Nat} {aS aH aF aL : Option Addr} {cS cH cF cL : Nat} {M : Mm} (m : Mine w B lo aS aH aF aL cS cH cF cL M) (hb : Below w.heap.size w w') : Has w' B lo (Up w (Foot B aS aH aF aL)) M ∧ Fine w w' (Foot B aS aH aF aL) :=
  ⟨⟨_, _, _, _, _, _, _, _, m.below hb, fun k hk => .inl hk⟩, .of_below _ hb⟩

theorem part0 (M : Mm) (f : Fr) (B lo : Nat) (aS aH aF aL : Option Addr) (cS cH cF cL : Nat) (aK : Option Addr) (cK : Nat) (w : World)
    (m : Mine w B lo aS aH aF aL cS cH cF cL M) (hM : Ok M) (hf : Fit M f) (r : KRow w aK cK f.keys) (hz : ∀ ad, aK = some ad → ¬ Foot B aS aH aF aL ad.block) (hp : f.pl = 0) :
    Calls Try.prog 90 #[.pointer (some ⟨B, 0, none⟩), .agg #[.int .i64 f.c.kind, .int .i64 f.c.a, .int .i64 f.c.b, .int .i64 f.c.time, .int .i64 f.c.bk, .int .i64 f.c.slot, .int .i64 f.pl, .int .i64 f.cur, .int .i64 f.prev, .int .i64 f.slot, .int .i64 f.n, .slice aK f.keys.length cK, .bool f.done, .int .i64 f.e]] w fun e w' => Ret w w' e (lkF M f) aK cK ∧ Has w' B lo (Up w (Foot B aS aH aF aL)) (lkM M f) ∧ Fine w w' (Foot B aS aH aF aL) := by
  rw [lkF0 hp, lkM_same (by omega)]
  refine (begin_any M f B lo aS aH aF aL cS cH cF cL aK cK w m hM hf).mono ?_
  rintro e w' ⟨rfl, hb⟩
  exact ⟨⟨aK, cK, rfl, r.below hb, (fun ad h => .inl h), fun _ => ⟨rfl, rfl⟩⟩, same_part m hb⟩

theorem part1 (M : Mm) (f : Fr) (B lo : Nat) (aS aH aF aL : Option Addr) (cS cH cF cL : Nat) (aK : Option Addr) (cK : Nat) (w : World)
    (m : Mine w B lo aS aH aF aL cS cH cF cL M) (hM : Ok M) (hf : Fit M f) (r : KRow w aK cK f.keys) (hz : ∀ ad, aK = some ad → ¬ Foot B aS aH aF aL ad.block) (hp : f.pl = 1) :
    Calls Try.prog 91 #[.pointer (some ⟨B, 0, none⟩), .agg #[.int .i64 f.c.kind, .int .i64 f.c.a, .int .i64 f.c.b, .int .i64 f.c.time, .int .i64 f.c.bk, .int .i64 f.c.slot, .int .i64 f.pl, .int .i64 f.cur, .int .i64 f.prev, .int .i64 f.slot, .int .i64 f.n, .slice aK f.keys.length cK, .bool f.done, .int .i64 f.e]] w fun e w' => Ret w w' e (lkF M f) aK cK ∧ Has w' B lo (Up w (Foot B aS aH aF aL)) (lkM M f) ∧ Fine w w' (Foot B aS aH aF aL) := by
  rw [lkF1 hp, lkM_same (by omega)]
  refine (see_any M f B lo aS aH aF aL cS cH cF cL aK cK w m hM hf r).mono ?_
  rintro e w' ⟨h, hb⟩
  exact ⟨h, same_part m hb⟩

theorem part2 (M : Mm) (f : Fr) (B lo : Nat) (aS aH aF aL : Option Addr) (cS cH cF cL : Nat) (aK : Option Addr) (cK : Nat) (w : World)
    (m : Mine w B lo aS aH aF aL cS cH cF cL M) (hM : Ok M) (hf : Fit M f) (r : KRow w aK cK f.keys) (hz : ∀ ad, aK = some ad → ¬ Foot B aS aH aF aL ad.block) (hp : f.pl = 2) :
    Calls Try.prog 92 #[.pointer (some ⟨B, 0, none⟩), .agg #[.int .i64 f.c.kind, .int .i64 f.c.a, .int .i64 f.c.b, .int .i64 f.c.time, .int .i64 f.c.bk, .int .i64 f.c.slot, .int .i64 f.pl, .int .i64 f.cur, .int .i64 f.prev, .int .i64 f.slot, .int .i64 f.n, .slice aK f.keys.length cK, .bool f.done, .int .i64 f.e]] w fun e w' => Ret w w' e (lkF M f) aK cK ∧ Has w' B lo (Up w (Foot B aS aH aF aL)) (lkM M f) ∧ Fine w w' (Foot B aS aH aF aL) := by
  rw [lkF2 hp, lkM_same (by omega)]
  refine (pass_any M f B lo aS aH aF aL cS cH cF cL aK cK w m hM hf).mono ?_
  rintro e w' ⟨rfl, hb⟩
  refine ⟨⟨aK, cK, rfl, ?_, (fun ad h => .inl h), fun _ => ⟨rfl, rfl⟩⟩, same_part m hb⟩
  have : (lkPass M f).keys = f.keys := by rw [← lkF2 hp]; exact lkF_keys M f
  rw [this]
  exact r.below hb

theorem part3 (M : Mm) (f : Fr) (B lo : Nat) (aS aH aF aL : Option Addr) (cS cH cF cL : Nat) (aK : Option Addr) (cK : Nat) (w : World)
    (m : Mine w B lo aS aH aF aL cS cH cF cL M) (hM : Ok M) (hf : Fit M f) (r : KRow w aK cK f.keys) (hz : ∀ ad, aK = some ad → ¬ Foot B aS aH aF aL ad.block) (hp : f.pl = 3) :
    Calls Try.prog 93 #[.pointer (some ⟨B, 0, none⟩), .agg #[.int .i64 f.c.kind, .int .i64 f.c.a, .int .i64 f.c.b, .int .i64 f.c.time, .int .i64 f.c.bk, .int .i64 f.c.slot, .int .i64 f.pl, .int .i64 f.cur, .int .i64 f.prev, .int .i64 f.slot, .int .i64 f.n, .slice aK f.keys.length cK, .bool f.done, .int .i64 f.e]] w fun e w' => Ret w w' e (lkF M f) aK cK ∧ Has w' B lo (Up w (Foot B aS aH aF aL)) (lkM M f) ∧ Fine w w' (Foot B aS aH aF aL) := by
  rw [lkF3 hp, lkM3 hp]
  exact hold_part M f B lo aS aH aF aL cS cH cF cL aK cK w m hM hf r hz

theorem part4 (M : Mm) (f : Fr) (B lo : Nat) (aS aH aF aL : Option Addr) (cS cH cF cL : Nat) (aK : Option Addr) (cK : Nat) (w : World)
    (m : Mine w B lo aS aH aF aL cS cH cF cL M) (hM : Ok M) (hf : Fit M f) (r : KRow w aK cK f.keys) (hz : ∀ ad, aK = some ad → ¬ Foot B aS aH aF aL ad.block) (hp : f.pl = 4) :
    Calls Try.prog 94 #[.pointer (some ⟨B, 0, none⟩), .agg #[.int .i64 f.c.kind, .int .i64 f.c.a, .int .i64 f.c.b, .int .i64 f.c.time, .int .i64 f.c.bk, .int .i64 f.c.slot, .int .i64 f.pl, .int .i64 f.cur, .int .i64 f.prev, .int .i64 f.slot, .int .i64 f.n, .slice aK f.keys.length cK, .bool f.done, .int .i64 f.e]] w fun e w' => Ret w w' e (lkF M f) aK cK ∧ Has w' B lo (Up w (Foot B aS aH aF aL)) (lkM M f) ∧ Fine w w' (Foot B aS aH aF aL) := by
  rw [lkF4 hp, lkM_same (by omega)]
  refine (prove_any M f B lo aS aH aF aL cS cH cF cL aK cK w m hM hf r).mono ?_
  rintro e w' ⟨h, hb⟩
  exact ⟨h, same_part m hb⟩

theorem part5 (M : Mm) (f : Fr) (B lo : Nat) (aS aH aF aL : Option Addr) (cS cH cF cL : Nat) (aK : Option Addr) (cK : Nat) (w : World)
    (m : Mine w B lo aS aH aF aL cS cH cF cL M) (hM : Ok M) (hf : Fit M f) (r : KRow w aK cK f.keys) (hz : ∀ ad, aK = some ad → ¬ Foot B aS aH aF aL ad.block) (hp : f.pl = 5) :
    Calls Try.prog 95 #[.pointer (some ⟨B, 0, none⟩), .agg #[.int .i64 f.c.kind, .int .i64 f.c.a, .int .i64 f.c.b, .int .i64 f.c.time, .int .i64 f.c.bk, .int .i64 f.c.slot, .int .i64 f.pl, .int .i64 f.cur, .int .i64 f.prev, .int .i64 f.slot, .int .i64 f.n, .slice aK f.keys.length cK, .bool f.done, .int .i64 f.e]] w fun e w' => Ret w w' e (lkF M f) aK cK ∧ Has w' B lo (Up w (Foot B aS aH aF aL)) (lkM M f) ∧ Fine w w' (Foot B aS aH aF aL) := by
  rw [lkF5 hp, lkM5 hp]
  exact stray_part M f B lo aS aH aF aL cS cH cF cL aK cK w m hM r hz

theorem part6 (M : Mm) (f : Fr) (B lo : Nat) (aS aH aF aL : Option Addr) (cS cH cF cL : Nat) (aK : Option Addr) (cK : Nat) (w : World)
    (m : Mine w B lo aS aH aF aL cS cH cF cL M) (hM : Ok M) (hf : Fit M f) (r : KRow w aK cK f.keys) (hz : ∀ ad, aK = some ad → ¬ Foot B aS aH aF aL ad.block) (hp : f.pl = 6) :
    Calls Try.prog 96 #[.pointer (some ⟨B, 0, none⟩), .agg #[.int .i64 f.c.kind, .int .i64 f.c.a, .int .i64 f.c.b, .int .i64 f.c.time, .int .i64 f.c.bk, .int .i64 f.c.slot, .int .i64 f.pl, .int .i64 f.cur, .int .i64 f.prev, .int .i64 f.slot, .int .i64 f.n, .slice aK f.keys.length cK, .bool f.done, .int .i64 f.e]] w fun e w' => Ret w w' e (lkF M f) aK cK ∧ Has w' B lo (Up w (Foot B aS aH aF aL)) (lkM M f) ∧ Fine w w' (Foot B aS aH aF aL) := by
  rw [lkF6 hp, lkM6 hp]
  exact over_part M f B lo aS aH aF aL cS cH cF cL aK cK w m hM r hz

theorem Lk.bare {w w1 : World} {B lo : Nat} {aS aH aF aL : Option Addr} {cS cH cF cL : Nat} {M : Mm} {f : Fr} {aK : Option Addr} {cK : Nat} (h : Lk w w1 B lo aS aH aF aL cS cH cF cL M f aK cK) : Lk2 w w1 (Foot B aS aH aF aL) B lo M f aK cK :=
  ⟨h.lt, .of_below _ h.bl, ⟨_, _, _, _, _, _, _, _, h.m, fun k hk => .inl hk⟩, h.fb, h.zb⟩

theorem krow_end {w w1 : World} {n : Nat} {a aK : Option Addr} {c cK : Nat} {l : List (Int × Int)} {v0 v1 v2 v3 v4 v5 v6 v7 v8 v9 v10 v11 v12 v13 : Value} (hn : n = w.heap.size) (r : KRow w1 a c l) (r0 : KRow w aK cK l) (hl : ∀ ad, a = some ad → aK = some ad ∨ n + 2 ≤ ad.block) :
    KRow ((((((((((((((w1.setCell ⟨n + 1, 0, none⟩ v0).setCell ⟨n + 1, 1, none⟩ v1).setCell ⟨n + 1, 2, none⟩ v2).setCell ⟨n + 1, 3, none⟩ v3).setCell ⟨n + 1, 4, none⟩ v4).setCell ⟨n + 1, 5, none⟩ v5).setCell ⟨n + 1, 6, none⟩ v6).setCell ⟨n + 1, 7, none⟩ v7).setCell ⟨n + 1, 8, none⟩ v8).setCell ⟨n + 1, 9, none⟩ v9).setCell ⟨n + 1, 10, none⟩ v10).setCell ⟨n + 1, 11, none⟩ v11).setCell ⟨n + 1, 12, none⟩ v12).setCell ⟨n + 1, 13, none⟩ v13) a c l := by
  refine ⟨r.le, r.max, r.nil, ?_⟩
  by_cases h0 : l.length = 0
  · exact .inl h0
  rcases r.at_ with h | ⟨b, o, e, hc⟩
  · exact absurd h h0
  · refine .inr ⟨b, o, e, fun i hi => ?_⟩
    have hb : b ≠ n + 1 := by
      rcases hl _ e with h | h
      · rcases r0.at_ with h' | ⟨b', o', e', hc'⟩
        · exact absurd h' h0
        · have := cell_lt (hc' 0 (by omega)).1
          rw [h] at e'
          injection e' with e'
          injection e' with e'
          omega
      · dsimp only at h; omega
    have q : ∀ x, (((((((((((((((w1.setCell ⟨n + 1, 0, none⟩ v0).setCell ⟨n + 1, 1, none⟩ v1).setCell ⟨n + 1, 2, none⟩ v2).setCell ⟨n + 1, 3, none⟩ v3).setCell ⟨n + 1, 4, none⟩ v4).setCell ⟨n + 1, 5, none⟩ v5).setCell ⟨n + 1, 6, none⟩ v6).setCell ⟨n + 1, 7, none⟩ v7).setCell ⟨n + 1, 8, none⟩ v8).setCell ⟨n + 1, 9, none⟩ v9).setCell ⟨n + 1, 10, none⟩ v10).setCell ⟨n + 1, 11, none⟩ v11).setCell ⟨n + 1, 12, none⟩ v12).setCell ⟨n + 1, 13, none⟩ v13)).cell? ⟨b, x, none⟩ = w1.cell? ⟨b, x, none⟩ := fun x => World.cell?_of_block (a := ⟨b, x, none⟩) (by
      dsimp only
      repeat rw [Below.heap_setCell _ _ _ _ (by dsimp only; exact hb)])
    rw [q, q]
    exact hc i hi

set_option maxHeartbeats 1600000 in
theorem step0 (M M' : Mm) (g : Fr) (c : Cl) (cur prev slot nn ee : Int) (keys : List (Int × Int)) (B lo : Nat) (aS aH aF aL : Option Addr) (cS cH cF cL : Nat) (aK : Option Addr) (cK : Nat) (w : World)
    (m : Mine w B lo aS aH aF aL cS cH cF cL M) (HR : Hid (KRow w aK cK keys)) (HKy : Hid (g.keys = keys))
    (HP : Hid (∀ (W : World), Mine W B lo aS aH aF aL cS cH cF cL M → KRow W aK cK keys → Calls Try.prog 90 #[.pointer (some ⟨B, 0, none⟩), .agg #[.int .i64 c.kind, .int .i64 c.a, .int .i64 c.b, .int .i64 c.time, .int .i64 c.bk, .int .i64 c.slot, .int .i64 0, .int .i64 cur, .int .i64 prev, .int .i64 slot, .int .i64 nn, .slice aK keys.length cK, .bool false, .int .i64 ee]] W fun e w' => Ret W w' e g aK cK ∧ Has w' B lo (Up W (Foot B aS aH aF aL)) M' ∧ Fine W w' (Foot B aS aH aF aL))) :
    Calls Try.prog 36 #[.pointer (some ⟨B, 0, none⟩), .agg #[.int .i64 c.kind, .int .i64 c.a, .int .i64 c.b, .int .i64 c.time, .int .i64 c.bk, .int .i64 c.slot, .int .i64 0, .int .i64 cur, .int .i64 prev, .int .i64 slot, .int .i64 nn, .slice aK keys.length cK, .bool false, .int .i64 ee]] w fun e w' => Ret w w' e g aK cK ∧ Has w' B lo (Up w (Foot B aS aH aF aL)) M' ∧ Fine w w' (Foot B aS aH aF aL) := by
  obtain ⟨of, hof⟩ : ∃ o : Obj, o = .cells #[.int .i64 c.kind, .int .i64 c.a, .int .i64 c.b, .int .i64 c.time, .int .i64 c.bk, .int .i64 c.slot, .int .i64 0, .int .i64 cur, .int .i64 prev, .int .i64 slot, .int .i64 nn, .slice aK keys.length cK, .bool false, .int .i64 ee] 51 := ⟨_, rfl⟩
  obtain ⟨oz, hoz⟩ : ∃ o : Obj, o = zeroFr := ⟨_, rfl⟩
  have HE : Hid (Lk w ((w.alloc of).alloc oz) B lo aS aH aF aL cS cH cF cL M ⟨c, 0, cur, prev, slot, nn, keys, false, ee⟩ aK cK) := Lk.first m ⟨c, 0, cur, prev, slot, nn, keys, false, ee⟩ aK cK hof hoz
  obtain ⟨f0, f1, f2, f3, f4, f5, f6, f7, f8, f9, f10, f11, f12, f13, ff, fs⟩ := framef (show ((w.alloc of).alloc oz).heap[w.heap.size]? = some (.cells #[.int .i64 c.kind, .int .i64 c.a, .int .i64 c.b, .int .i64 c.time, .int .i64 c.bk, .int .i64 c.slot, .int .i64 0, .int .i64 cur, .int .i64 prev, .int .i64 slot, .int .i64 nn, .slice aK keys.length cK, .bool false, .int .i64 ee] 51 (0, 0)) from HE.out.fb)
  unfold zeroFr at hoz
  clear m
  go_enter Try.func36, Try.ntmps36
  go_wp2_with fail
  rw [← hof, ← hoz]
  generalize (w.alloc of).alloc oz = W0 at *
  subst hof hoz
  have HE1 : Hid (Lk w W0 B lo aS aH aF aL cS cH cF cL M ⟨c, 0, cur, prev, slot, nn, keys, false, ee⟩ aK cK) := HE.out
  clear HE
  clear f0 f1 f2 f3 f4 f5 f6 f7 f8 f9 f10 f11 f12 f13 ff fs
  refine (HP.out _ HE1.out.m (HR.out.below HE1.out.bl)).mono ?_
  rintro e w2 ⟨⟨a2, c2, rfl, hr2, hl2, hd2⟩, hh2, hf2⟩
  have HK2 : Hid (KRow w2 a2 c2 keys ∧ ∀ ad, a2 = some ad → aK = some ad ∨ w.heap.size + 2 ≤ ad.block) := ⟨HKy.out ▸ hr2, fun ad h => (hl2 ad h).imp id (fun h' => Nat.le_trans (lt_of_block HE1.out.zb) h')⟩
  have HD2 : Hid (g.done = false → a2 = aK ∧ c2 = cK) := hd2
  have HE2 : Hid (Lk2 w w2 (Foot B aS aH aF aL) B lo M' ⟨c, 0, cur, prev, slot, nn, keys, false, ee⟩ aK cK) := HE1.out.after hh2 hf2
  clear HE1 hh2 hf2 hr2 hl2 hd2
  obtain ⟨g0, g1, g2, g3, g4, g5, g6, g7, g8, g9, g10, g11, g12, g13, gf, gs⟩ := framef HE2.out.zb
  go_wp2
  refine bodyPost_ret (v := .agg #[.int .i64 g.c.kind, .int .i64 g.c.a, .int .i64 g.c.b, .int .i64 g.c.time, .int .i64 g.c.bk, .int .i64 g.c.slot, .int .i64 g.pl, .int .i64 g.cur, .int .i64 g.prev, .int .i64 g.slot, .int .i64 g.n, .slice a2 g.keys.length c2, .bool g.done, .int .i64 g.e]) (by simp [results, Try.results36, go_sem, g0, g1, g2, g3, g4, g5, g6, g7, g8, g9, g10, g11, g12, g13]) rfl ⟨⟨a2, c2, rfl, by rw [HKy.out]; exact krow_end rfl HK2.out.1 HR.out HK2.out.2, (fun ad h => (HK2.out.2 ad h).imp id (fun h' => by omega)), HD2.out⟩, HE2.out.end14⟩

set_option maxHeartbeats 1600000 in
theorem step1 (M M' : Mm) (g : Fr) (c : Cl) (cur prev slot nn ee : Int) (keys : List (Int × Int)) (B lo : Nat) (aS aH aF aL : Option Addr) (cS cH cF cL : Nat) (aK : Option Addr) (cK : Nat) (w : World)
    (m : Mine w B lo aS aH aF aL cS cH cF cL M) (HR : Hid (KRow w aK cK keys)) (HKy : Hid (g.keys = keys))
    (HP : Hid (∀ (W : World), Mine W B lo aS aH aF aL cS cH cF cL M → KRow W aK cK keys → Calls Try.prog 91 #[.pointer (some ⟨B, 0, none⟩), .agg #[.int .i64 c.kind, .int .i64 c.a, .int .i64 c.b, .int .i64 c.time, .int .i64 c.bk, .int .i64 c.slot, .int .i64 1, .int .i64 cur, .int .i64 prev, .int .i64 slot, .int .i64 nn, .slice aK keys.length cK, .bool false, .int .i64 ee]] W fun e w' => Ret W w' e g aK cK ∧ Has w' B lo (Up W (Foot B aS aH aF aL)) M' ∧ Fine W w' (Foot B aS aH aF aL))) :
    Calls Try.prog 36 #[.pointer (some ⟨B, 0, none⟩), .agg #[.int .i64 c.kind, .int .i64 c.a, .int .i64 c.b, .int .i64 c.time, .int .i64 c.bk, .int .i64 c.slot, .int .i64 1, .int .i64 cur, .int .i64 prev, .int .i64 slot, .int .i64 nn, .slice aK keys.length cK, .bool false, .int .i64 ee]] w fun e w' => Ret w w' e g aK cK ∧ Has w' B lo (Up w (Foot B aS aH aF aL)) M' ∧ Fine w w' (Foot B aS aH aF aL) := by
  obtain ⟨of, hof⟩ : ∃ o : Obj, o = .cells #[.int .i64 c.kind, .int .i64 c.a, .int .i64 c.b, .int .i64 c.time, .int .i64 c.bk, .int .i64 c.slot, .int .i64 1, .int .i64 cur, .int .i64 prev, .int .i64 slot, .int .i64 nn, .slice aK keys.length cK, .bool false, .int .i64 ee] 51 := ⟨_, rfl⟩
  obtain ⟨oz, hoz⟩ : ∃ o : Obj, o = zeroFr := ⟨_, rfl⟩
  have HE : Hid (Lk w ((w.alloc of).alloc oz) B lo aS aH aF aL cS cH cF cL M ⟨c, 1, cur, prev, slot, nn, keys, false, ee⟩ aK cK) := Lk.first m ⟨c, 1, cur, prev, slot, nn, keys, false, ee⟩ aK cK hof hoz
  obtain ⟨f0, f1, f2, f3, f4, f5, f6, f7, f8, f9, f10, f11, f12, f13, ff, fs⟩ := framef (show ((w.alloc of).alloc oz).heap[w.heap.size]? = some (.cells #[.int .i64 c.kind, .int .i64 c.a, .int .i64 c.b, .int .i64 c.time, .int .i64 c.bk, .int .i64 c.slot, .int .i64 1, .int .i64 cur, .int .i64 prev, .int .i64 slot, .int .i64 nn, .slice aK keys.length cK, .bool false, .int .i64 ee] 51 (0, 0)) from HE.out.fb)
  unfold zeroFr at hoz
  clear m
  go_enter Try.func36, Try.ntmps36
  go_wp2_with fail
  rw [← hof, ← hoz]
  generalize (w.alloc of).alloc oz = W0 at *
  subst hof hoz
  have HE1 : Hid (Lk w W0 B lo aS aH aF aL cS cH cF cL M ⟨c, 1, cur, prev, slot, nn, keys, false, ee⟩ aK cK) := HE.out
  clear HE
  clear f0 f1 f2 f3 f4 f5 f6 f7 f8 f9 f10 f11 f12 f13 ff fs
  refine (HP.out _ HE1.out.m (HR.out.below HE1.out.bl)).mono ?_
  rintro e w2 ⟨⟨a2, c2, rfl, hr2, hl2, hd2⟩, hh2, hf2⟩
  have HK2 : Hid (KRow w2 a2 c2 keys ∧ ∀ ad, a2 = some ad → aK = some ad ∨ w.heap.size + 2 ≤ ad.block) := ⟨HKy.out ▸ hr2, fun ad h => (hl2 ad h).imp id (fun h' => Nat.le_trans (lt_of_block HE1.out.zb) h')⟩
  have HD2 : Hid (g.done = false → a2 = aK ∧ c2 = cK) := hd2
  have HE2 : Hid (Lk2 w w2 (Foot B aS aH aF aL) B lo M' ⟨c, 1, cur, prev, slot, nn, keys, false, ee⟩ aK cK) := HE1.out.after hh2 hf2
  clear HE1 hh2 hf2 hr2 hl2 hd2
  obtain ⟨g0, g1, g2, g3, g4, g5, g6, g7, g8, g9, g10, g11, g12, g13, gf, gs⟩ := framef HE2.out.zb
  go_wp2
  refine bodyPost_ret (v := .agg #[.int .i64 g.c.kind, .int .i64 g.c.a, .int .i64 g.c.b, .int .i64 g.c.time, .int .i64 g.c.bk, .int .i64 g.c.slot, .int .i64 g.pl, .int .i64 g.cur, .int .i64 g.prev, .int .i64 g.slot, .int .i64 g.n, .slice a2 g.keys.length c2, .bool g.done, .int .i64 g.e]) (by simp [results, Try.results36, go_sem, g0, g1, g2, g3, g4, g5, g6, g7, g8, g9, g10, g11, g12, g13]) rfl ⟨⟨a2, c2, rfl, by rw [HKy.out]; exact krow_end rfl HK2.out.1 HR.out HK2.out.2, (fun ad h => (HK2.out.2 ad h).imp id (fun h' => by omega)), HD2.out⟩, HE2.out.end14⟩

set_option maxHeartbeats 1600000 in
theorem step2 (M M' : Mm) (g : Fr) (c : Cl) (cur prev slot nn ee : Int) (keys : List (Int × Int)) (B lo : Nat) (aS aH aF aL : Option Addr) (cS cH cF cL : Nat) (aK : Option Addr) (cK : Nat) (w : World)
    (m : Mine w B lo aS aH aF aL cS cH cF cL M) (HR : Hid (KRow w aK cK keys)) (HKy : Hid (g.keys = keys))
    (HP : Hid (∀ (W : World), Mine W B lo aS aH aF aL cS cH cF cL M → KRow W aK cK keys → Calls Try.prog 92 #[.pointer (some ⟨B, 0, none⟩), .agg #[.int .i64 c.kind, .int .i64 c.a, .int .i64 c.b, .int .i64 c.time, .int .i64 c.bk, .int .i64 c.slot, .int .i64 2, .int .i64 cur, .int .i64 prev, .int .i64 slot, .int .i64 nn, .slice aK keys.length cK, .bool false, .int .i64 ee]] W fun e w' => Ret W w' e g aK cK ∧ Has w' B lo (Up W (Foot B aS aH aF aL)) M' ∧ Fine W w' (Foot B aS aH aF aL))) :
    Calls Try.prog 36 #[.pointer (some ⟨B, 0, none⟩), .agg #[.int .i64 c.kind, .int .i64 c.a, .int .i64 c.b, .int .i64 c.time, .int .i64 c.bk, .int .i64 c.slot, .int .i64 2, .int .i64 cur, .int .i64 prev, .int .i64 slot, .int .i64 nn, .slice aK keys.length cK, .bool false, .int .i64 ee]] w fun e w' => Ret w w' e g aK cK ∧ Has w' B lo (Up w (Foot B aS aH aF aL)) M' ∧ Fine w w' (Foot B aS aH aF aL) := by
  obtain ⟨of, hof⟩ : ∃ o : Obj, o = .cells #[.int .i64 c.kind, .int .i64 c.a, .int .i64 c.b, .int .i64 c.time, .int .i64 c.bk, .int .i64 c.slot, .int .i64 2, .int .i64 cur, .int .i64 prev, .int .i64 slot, .int .i64 nn, .slice aK keys.length cK, .bool false, .int .i64 ee] 51 := ⟨_, rfl⟩
  obtain ⟨oz, hoz⟩ : ∃ o : Obj, o = zeroFr := ⟨_, rfl⟩
  have HE : Hid (Lk w ((w.alloc of).alloc oz) B lo aS aH aF aL cS cH cF cL M ⟨c, 2, cur, prev, slot, nn, keys, false, ee⟩ aK cK) := Lk.first m ⟨c, 2, cur, prev, slot, nn, keys, false, ee⟩ aK cK hof hoz
  obtain ⟨f0, f1, f2, f3, f4, f5, f6, f7, f8, f9, f10, f11, f12, f13, ff, fs⟩ := framef (show ((w.alloc of).alloc oz).heap[w.heap.size]? = some (.cells #[.int .i64 c.kind, .int .i64 c.a, .int .i64 c.b, .int .i64 c.time, .int .i64 c.bk, .int .i64 c.slot, .int .i64 2, .int .i64 cur, .int .i64 prev, .int .i64 slot, .int .i64 nn, .slice aK keys.length cK, .bool false, .int .i64 ee] 51 (0, 0)) from HE.out.fb)
  unfold zeroFr at hoz
  clear m
  go_enter Try.func36, Try.ntmps36
  go_wp2_with fail
  rw [← hof, ← hoz]
  generalize (w.alloc of).alloc oz = W0 at *
  subst hof hoz
  have HE1 : Hid (Lk w W0 B lo aS aH aF aL cS cH cF cL M ⟨c, 2, cur, prev, slot, nn, keys, false, ee⟩ aK cK) := HE.out
  clear HE
  clear f0 f1 f2 f3 f4 f5 f6 f7 f8 f9 f10 f11 f12 f13 ff fs
  refine (HP.out _ HE1.out.m (HR.out.below HE1.out.bl)).mono ?_
  rintro e w2 ⟨⟨a2, c2, rfl, hr2, hl2, hd2⟩, hh2, hf2⟩
  have HK2 : Hid (KRow w2 a2 c2 keys ∧ ∀ ad, a2 = some ad → aK = some ad ∨ w.heap.size + 2 ≤ ad.block) := ⟨HKy.out ▸ hr2, fun ad h => (hl2 ad h).imp id (fun h' => Nat.le_trans (lt_of_block HE1.out.zb) h')⟩
  have HD2 : Hid (g.done = false → a2 = aK ∧ c2 = cK) := hd2
  have HE2 : Hid (Lk2 w w2 (Foot B aS aH aF aL) B lo M' ⟨c, 2, cur, prev, slot, nn, keys, false, ee⟩ aK cK) := HE1.out.after hh2 hf2
  clear HE1 hh2 hf2 hr2 hl2 hd2
  obtain ⟨g0, g1, g2, g3, g4, g5, g6, g7, g8, g9, g10, g11, g12, g13, gf, gs⟩ := framef HE2.out.zb
  go_wp2
  refine bodyPost_ret (v := .agg #[.int .i64 g.c.kind, .int .i64 g.c.a, .int .i64 g.c.b, .int .i64 g.c.time, .int .i64 g.c.bk, .int .i64 g.c.slot, .int .i64 g.pl, .int .i64 g.cur, .int .i64 g.prev, .int .i64 g.slot, .int .i64 g.n, .slice a2 g.keys.length c2, .bool g.done, .int .i64 g.e]) (by simp [results, Try.results36, go_sem, g0, g1, g2, g3, g4, g5, g6, g7, g8, g9, g10, g11, g12, g13]) rfl ⟨⟨a2, c2, rfl, by rw [HKy.out]; exact krow_end rfl HK2.out.1 HR.out HK2.out.2, (fun ad h => (HK2.out.2 ad h).imp id (fun h' => by omega)), HD2.out⟩, HE2.out.end14⟩

set_option maxHeartbeats 1600000 in
theorem step3 (M M' : Mm) (g : Fr) (c : Cl) (cur prev slot nn ee : Int) (keys : List (Int × Int)) (B lo : Nat) (aS aH aF aL : Option Addr) (cS cH cF cL : Nat) (aK : Option Addr) (cK : Nat) (w : World)
    (m : Mine w B lo aS aH aF aL cS cH cF cL M) (HR : Hid (KRow w aK cK keys)) (HKy : Hid (g.keys = keys))
    (HP : Hid (∀ (W : World), Mine W B lo aS aH aF aL cS cH cF cL M → KRow W aK cK keys → Calls Try.prog 93 #[.pointer (some ⟨B, 0, none⟩), .agg #[.int .i64 c.kind, .int .i64 c.a, .int .i64 c.b, .int .i64 c.time, .int .i64 c.bk, .int .i64 c.slot, .int .i64 3, .int .i64 cur, .int .i64 prev, .int .i64 slot, .int .i64 nn, .slice aK keys.length cK, .bool false, .int .i64 ee]] W fun e w' => Ret W w' e g aK cK ∧ Has w' B lo (Up W (Foot B aS aH aF aL)) M' ∧ Fine W w' (Foot B aS aH aF aL))) :
    Calls Try.prog 36 #[.pointer (some ⟨B, 0, none⟩), .agg #[.int .i64 c.kind, .int .i64 c.a, .int .i64 c.b, .int .i64 c.time, .int .i64 c.bk, .int .i64 c.slot, .int .i64 3, .int .i64 cur, .int .i64 prev, .int .i64 slot, .int .i64 nn, .slice aK keys.length cK, .bool false, .int .i64 ee]] w fun e w' => Ret w w' e g aK cK ∧ Has w' B lo (Up w (Foot B aS aH aF aL)) M' ∧ Fine w w' (Foot B aS aH aF aL) := by
  obtain ⟨of, hof⟩ : ∃ o : Obj, o = .cells #[.int .i64 c.kind, .int .i64 c.a, .int .i64 c.b, .int .i64 c.time, .int .i64 c.bk, .int .i64 c.slot, .int .i64 3, .int .i64 cur, .int .i64 prev, .int .i64 slot, .int .i64 nn, .slice aK keys.length cK, .bool false, .int .i64 ee] 51 := ⟨_, rfl⟩
  obtain ⟨oz, hoz⟩ : ∃ o : Obj, o = zeroFr := ⟨_, rfl⟩
  have HE : Hid (Lk w ((w.alloc of).alloc oz) B lo aS aH aF aL cS cH cF cL M ⟨c, 3, cur, prev, slot, nn, keys, false, ee⟩ aK cK) := Lk.first m ⟨c, 3, cur, prev, slot, nn, keys, false, ee⟩ aK cK hof hoz
  obtain ⟨f0, f1, f2, f3, f4, f5, f6, f7, f8, f9, f10, f11, f12, f13, ff, fs⟩ := framef (show ((w.alloc of).alloc oz).heap[w.heap.size]? = some (.cells #[.int .i64 c.kind, .int .i64 c.a, .int .i64 c.b, .int .i64 c.time, .int .i64 c.bk, .int .i64 c.slot, .int .i64 3, .int .i64 cur, .int .i64 prev, .int .i64 slot, .int .i64 nn, .slice aK keys.length cK, .bool false, .int .i64 ee] 51 (0, 0)) from HE.out.fb)
  unfold zeroFr at hoz
  clear m
  go_enter Try.func36, Try.ntmps36
  go_wp2_with fail
  rw [← hof, ← hoz]
  generalize (w.alloc of).alloc oz = W0 at *
  subst hof hoz
  have HE1 : Hid (Lk w W0 B lo aS aH aF aL cS cH cF cL M ⟨c, 3, cur, prev, slot, nn, keys, false, ee⟩ aK cK) := HE.out
  clear HE
  clear f0 f1 f2 f3 f4 f5 f6 f7 f8 f9 f10 f11 f12 f13 ff fs
  refine (HP.out _ HE1.out.m (HR.out.below HE1.out.bl)).mono ?_
  rintro e w2 ⟨⟨a2, c2, rfl, hr2, hl2, hd2⟩, hh2, hf2⟩
  have HK2 : Hid (KRow w2 a2 c2 keys ∧ ∀ ad, a2 = some ad → aK = some ad ∨ w.heap.size + 2 ≤ ad.block) := ⟨HKy.out ▸ hr2, fun ad h => (hl2 ad h).imp id (fun h' => Nat.le_trans (lt_of_block HE1.out.zb) h')⟩
  have HD2 : Hid (g.done = false → a2 = aK ∧ c2 = cK) := hd2
  have HE2 : Hid (Lk2 w w2 (Foot B aS aH aF aL) B lo M' ⟨c, 3, cur, prev, slot, nn, keys, false, ee⟩ aK cK) := HE1.out.after hh2 hf2
  clear HE1 hh2 hf2 hr2 hl2 hd2
  obtain ⟨g0, g1, g2, g3, g4, g5, g6, g7, g8, g9, g10, g11, g12, g13, gf, gs⟩ := framef HE2.out.zb
  go_wp2
  refine bodyPost_ret (v := .agg #[.int .i64 g.c.kind, .int .i64 g.c.a, .int .i64 g.c.b, .int .i64 g.c.time, .int .i64 g.c.bk, .int .i64 g.c.slot, .int .i64 g.pl, .int .i64 g.cur, .int .i64 g.prev, .int .i64 g.slot, .int .i64 g.n, .slice a2 g.keys.length c2, .bool g.done, .int .i64 g.e]) (by simp [results, Try.results36, go_sem, g0, g1, g2, g3, g4, g5, g6, g7, g8, g9, g10, g11, g12, g13]) rfl ⟨⟨a2, c2, rfl, by rw [HKy.out]; exact krow_end rfl HK2.out.1 HR.out HK2.out.2, (fun ad h => (HK2.out.2 ad h).imp id (fun h' => by omega)), HD2.out⟩, HE2.out.end14⟩

set_option maxHeartbeats 1600000 in
theorem step4 (M M' : Mm) (g : Fr) (c : Cl) (cur prev slot nn ee : Int) (keys : List (Int × Int)) (B lo : Nat) (aS aH aF aL : Option Addr) (cS cH cF cL : Nat) (aK : Option Addr) (cK : Nat) (w : World)
    (m : Mine w B lo aS aH aF aL cS cH cF cL M) (HR : Hid (KRow w aK cK keys)) (HKy : Hid (g.keys = keys))
    (HP : Hid (∀ (W : World), Mine W B lo aS aH aF aL cS cH cF cL M → KRow W aK cK keys → Calls Try.prog 94 #[.pointer (some ⟨B, 0, none⟩), .agg #[.int .i64 c.kind, .int .i64 c.a, .int .i64 c.b, .int .i64 c.time, .int .i64 c.bk, .int .i64 c.slot, .int .i64 4, .int .i64 cur, .int .i64 prev, .int .i64 slot, .int .i64 nn, .slice aK keys.length cK, .bool false, .int .i64 ee]] W fun e w' => Ret W w' e g aK cK ∧ Has w' B lo (Up W (Foot B aS aH aF aL)) M' ∧ Fine W w' (Foot B aS aH aF aL))) :
    Calls Try.prog 36 #[.pointer (some ⟨B, 0, none⟩), .agg #[.int .i64 c.kind, .int .i64 c.a, .int .i64 c.b, .int .i64 c.time, .int .i64 c.bk, .int .i64 c.slot, .int .i64 4, .int .i64 cur, .int .i64 prev, .int .i64 slot, .int .i64 nn, .slice aK keys.length cK, .bool false, .int .i64 ee]] w fun e w' => Ret w w' e g aK cK ∧ Has w' B lo (Up w (Foot B aS aH aF aL)) M' ∧ Fine w w' (Foot B aS aH aF aL) := by
  obtain ⟨of, hof⟩ : ∃ o : Obj, o = .cells #[.int .i64 c.kind, .int .i64 c.a, .int .i64 c.b, .int .i64 c.time, .int .i64 c.bk, .int .i64 c.slot, .int .i64 4, .int .i64 cur, .int .i64 prev, .int .i64 slot, .int .i64 nn, .slice aK keys.length cK, .bool false, .int .i64 ee] 51 := ⟨_, rfl⟩
  obtain ⟨oz, hoz⟩ : ∃ o : Obj, o = zeroFr := ⟨_, rfl⟩
  have HE : Hid (Lk w ((w.alloc of).alloc oz) B lo aS aH aF aL cS cH cF cL M ⟨c, 4, cur, prev, slot, nn, keys, false, ee⟩ aK cK) := Lk.first m ⟨c, 4, cur, prev, slot, nn, keys, false, ee⟩ aK cK hof hoz
  obtain ⟨f0, f1, f2, f3, f4, f5, f6, f7, f8, f9, f10, f11, f12, f13, ff, fs⟩ := framef (show ((w.alloc of).alloc oz).heap[w.heap.size]? = some (.cells #[.int .i64 c.kind, .int .i64 c.a, .int .i64 c.b, .int .i64 c.time, .int .i64 c.bk, .int .i64 c.slot, .int .i64 4, .int .i64 cur, .int .i64 prev, .int .i64 slot, .int .i64 nn, .slice aK keys.length cK, .bool false, .int .i64 ee] 51 (0, 0)) from HE.out.fb)
  unfold zeroFr at hoz
  clear m
  go_enter Try.func36, Try.ntmps36
  go_wp2_with fail
  rw [← hof, ← hoz]
  generalize (w.alloc of).alloc oz = W0 at *
  subst hof hoz
  have HE1 : Hid (Lk w W0 B lo aS aH aF aL cS cH cF cL M ⟨c, 4, cur, prev, slot, nn, keys, false, ee⟩ aK cK) := HE.out
  clear HE
  clear f0 f1 f2 f3 f4 f5 f6 f7 f8 f9 f10 f11 f12 f13 ff fs
  refine (HP.out _ HE1.out.m (HR.out.below HE1.out.bl)).mono ?_
  rintro e w2 ⟨⟨a2, c2, rfl, hr2, hl2, hd2⟩, hh2, hf2⟩
  have HK2 : Hid (KRow w2 a2 c2 keys ∧ ∀ ad, a2 = some ad → aK = some ad ∨ w.heap.size + 2 ≤ ad.block) := ⟨HKy.out ▸ hr2, fun ad h => (hl2 ad h).imp id (fun h' => Nat.le_trans (lt_of_block HE1.out.zb) h')⟩
  have HD2 : Hid (g.done = false → a2 = aK ∧ c2 = cK) := hd2
  have HE2 : Hid (Lk2 w w2 (Foot B aS aH aF aL) B lo M' ⟨c, 4, cur, prev, slot, nn, keys, false, ee⟩ aK cK) := HE1.out.after hh2 hf2
  clear HE1 hh2 hf2 hr2 hl2 hd2
  obtain ⟨g0, g1, g2, g3, g4, g5, g6, g7, g8, g9, g10, g11, g12, g13, gf, gs⟩ := framef HE2.out.zb
  go_wp2
  refine bodyPost_ret (v := .agg #[.int .i64 g.c.kind, .int .i64 g.c.a, .int .i64 g.c.b, .int .i64 g.c.time, .int .i64 g.c.bk, .int .i64 g.c.slot, .int .i64 g.pl, .int .i64 g.cur, .int .i64 g.prev, .int .i64 g.slot, .int .i64 g.n, .slice a2 g.keys.length c2, .bool g.done, .int .i64 g.e]) (by simp [results, Try.results36, go_sem, g0, g1, g2, g3, g4, g5, g6, g7, g8, g9, g10, g11, g12, g13]) rfl ⟨⟨a2, c2, rfl, by rw [HKy.out]; exact krow_end rfl HK2.out.1 HR.out HK2.out.2, (fun ad h => (HK2.out.2 ad h).imp id (fun h' => by omega)), HD2.out⟩, HE2.out.end14⟩

set_option maxHeartbeats 1600000 in
theorem step5 (M M' : Mm) (g : Fr) (c : Cl) (cur prev slot nn ee : Int) (keys : List (Int × Int)) (B lo : Nat) (aS aH aF aL : Option Addr) (cS cH cF cL : Nat) (aK : Option Addr) (cK : Nat) (w : World)
    (m : Mine w B lo aS aH aF aL cS cH cF cL M) (HR : Hid (KRow w aK cK keys)) (HKy : Hid (g.keys = keys))
    (HP : Hid (∀ (W : World), Mine W B lo aS aH aF aL cS cH cF cL M → KRow W aK cK keys → Calls Try.prog 95 #[.pointer (some ⟨B, 0, none⟩), .agg #[.int .i64 c.kind, .int .i64 c.a, .int .i64 c.b, .int .i64 c.time, .int .i64 c.bk, .int .i64 c.slot, .int .i64 5, .int .i64 cur, .int .i64 prev, .int .i64 slot, .int .i64 nn, .slice aK keys.length cK, .bool false, .int .i64 ee]] W fun e w' => Ret W w' e g aK cK ∧ Has w' B lo (Up W (Foot B aS aH aF aL)) M' ∧ Fine W w' (Foot B aS aH aF aL))) :
    Calls Try.prog 36 #[.pointer (some ⟨B, 0, none⟩), .agg #[.int .i64 c.kind, .int .i64 c.a, .int .i64 c.b, .int .i64 c.time, .int .i64 c.bk, .int .i64 c.slot, .int .i64 5, .int .i64 cur, .int .i64 prev, .int .i64 slot, .int .i64 nn, .slice aK keys.length cK, .bool false, .int .i64 ee]] w fun e w' => Ret w w' e g aK cK ∧ Has w' B lo (Up w (Foot B aS aH aF aL)) M' ∧ Fine w w' (Foot B aS aH aF aL) := by
  obtain ⟨of, hof⟩ : ∃ o : Obj, o = .cells #[.int .i64 c.kind, .int .i64 c.a, .int .i64 c.b, .int .i64 c.time, .int .i64 c.bk, .int .i64 c.slot, .int .i64 5, .int .i64 cur, .int .i64 prev, .int .i64 slot, .int .i64 nn, .slice aK keys.length cK, .bool false, .int .i64 ee] 51 := ⟨_, rfl⟩
  obtain ⟨oz, hoz⟩ : ∃ o : Obj, o = zeroFr := ⟨_, rfl⟩
  have HE : Hid (Lk w ((w.alloc of).alloc oz) B lo aS aH aF aL cS cH cF cL M ⟨c, 5, cur, prev, slot, nn, keys, false, ee⟩ aK cK) := Lk.first m ⟨c, 5, cur, prev, slot, nn, keys, false, ee⟩ aK cK hof hoz
  obtain ⟨f0, f1, f2, f3, f4, f5, f6, f7, f8, f9, f10, f11, f12, f13, ff, fs⟩ := framef (show ((w.alloc of).alloc oz).heap[w.heap.size]? = some (.cells #[.int .i64 c.kind, .int .i64 c.a, .int .i64 c.b, .int .i64 c.time, .int .i64 c.bk, .int .i64 c.slot, .int .i64 5, .int .i64 cur, .int .i64 prev, .int .i64 slot, .int .i64 nn, .slice aK keys.length cK, .bool false, .int .i64 ee] 51 (0, 0)) from HE.out.fb)
  unfold zeroFr at hoz
  clear m
  go_enter Try.func36, Try.ntmps36
  go_wp2_with fail
  rw [← hof, ← hoz]
  generalize (w.alloc of).alloc oz = W0 at *
  subst hof hoz
  have HE1 : Hid (Lk w W0 B lo aS aH aF aL cS cH cF cL M ⟨c, 5, cur, prev, slot, nn, keys, false, ee⟩ aK cK) := HE.out
  clear HE
  clear f0 f1 f2 f3 f4 f5 f6 f7 f8 f9 f10 f11 f12 f13 ff fs
  refine (HP.out _ HE1.out.m (HR.out.below HE1.out.bl)).mono ?_
  rintro e w2 ⟨⟨a2, c2, rfl, hr2, hl2, hd2⟩, hh2, hf2⟩
  have HK2 : Hid (KRow w2 a2 c2 keys ∧ ∀ ad, a2 = some ad → aK = some ad ∨ w.heap.size + 2 ≤ ad.block) := ⟨HKy.out ▸ hr2, fun ad h => (hl2 ad h).imp id (fun h' => Nat.le_trans (lt_of_block HE1.out.zb) h')⟩
  have HD2 : Hid (g.done = false → a2 = aK ∧ c2 = cK) := hd2
  have HE2 : Hid (Lk2 w w2 (Foot B aS aH aF aL) B lo M' ⟨c, 5, cur, prev, slot, nn, keys, false, ee⟩ aK cK) := HE1.out.after hh2 hf2
  clear HE1 hh2 hf2 hr2 hl2 hd2
  obtain ⟨g0, g1, g2, g3, g4, g5, g6, g7, g8, g9, g10, g11, g12, g13, gf, gs⟩ := framef HE2.out.zb
  go_wp2
  refine bodyPost_ret (v := .agg #[.int .i64 g.c.kind, .int .i64 g.c.a, .int .i64 g.c.b, .int .i64 g.c.time, .int .i64 g.c.bk, .int .i64 g.c.slot, .int .i64 g.pl, .int .i64 g.cur, .int .i64 g.prev, .int .i64 g.slot, .int .i64 g.n, .slice a2 g.keys.length c2, .bool g.done, .int .i64 g.e]) (by simp [results, Try.results36, go_sem, g0, g1, g2, g3, g4, g5, g6, g7, g8, g9, g10, g11, g12, g13]) rfl ⟨⟨a2, c2, rfl, by rw [HKy.out]; exact krow_end rfl HK2.out.1 HR.out HK2.out.2, (fun ad h => (HK2.out.2 ad h).imp id (fun h' => by omega)), HD2.out⟩, HE2.out.end14⟩

set_option maxHeartbeats 1600000 in
theorem step6 (M M' : Mm) (g : Fr) (c : Cl) (cur prev slot nn ee : Int) (keys : List (Int × Int)) (B lo : Nat) (aS aH aF aL : Option Addr) (cS cH cF cL : Nat) (aK : Option Addr) (cK : Nat) (w : World)
    (m : Mine w B lo aS aH aF aL cS cH cF cL M) (HR : Hid (KRow w aK cK keys)) (HKy : Hid (g.keys = keys))
    (HP : Hid (∀ (W : World), Mine W B lo aS aH aF aL cS cH cF cL M → KRow W aK cK keys → Calls Try.prog 96 #[.pointer (some ⟨B, 0, none⟩), .agg #[.int .i64 c.kind, .int .i64 c.a, .int .i64 c.b, .int .i64 c.time, .int .i64 c.bk, .int .i64 c.slot, .int .i64 6, .int .i64 cur, .int .i64 prev, .int .i64 slot, .int .i64 nn, .slice aK keys.length cK, .bool false, .int .i64 ee]] W fun e w' => Ret W w' e g aK cK ∧ Has w' B lo (Up W (Foot B aS aH aF aL)) M' ∧ Fine W w' (Foot B aS aH aF aL))) :
    Calls Try.prog 36 #[.pointer (some ⟨B, 0, none⟩), .agg #[.int .i64 c.kind, .int .i64 c.a, .int .i64 c.b, .int .i64 c.time, .int .i64 c.bk, .int .i64 c.slot, .int .i64 6, .int .i64 cur, .int .i64 prev, .int .i64 slot, .int .i64 nn, .slice aK keys.length cK, .bool false, .int .i64 ee]] w fun e w' => Ret w w' e g aK cK ∧ Has w' B lo (Up w (Foot B aS aH aF aL)) M' ∧ Fine w w' (Foot B aS aH aF aL) := by
  obtain ⟨of, hof⟩ : ∃ o : Obj, o = .cells #[.int .i64 c.kind, .int .i64 c.a, .int .i64 c.b, .int .i64 c.time, .int .i64 c.bk, .int .i64 c.slot, .int .i64 6, .int .i64 cur, .int .i64 prev, .int .i64 slot, .int .i64 nn, .slice aK keys.length cK, .bool false, .int .i64 ee] 51 := ⟨_, rfl⟩
  obtain ⟨oz, hoz⟩ : ∃ o : Obj, o = zeroFr := ⟨_, rfl⟩
  have HE : Hid (Lk w ((w.alloc of).alloc oz) B lo aS aH aF aL cS cH cF cL M ⟨c, 6, cur, prev, slot, nn, keys, false, ee⟩ aK cK) := Lk.first m ⟨c, 6, cur, prev, slot, nn, keys, false, ee⟩ aK cK hof hoz
  obtain ⟨f0, f1, f2, f3, f4, f5, f6, f7, f8, f9, f10, f11, f12, f13, ff, fs⟩ := framef (show ((w.alloc of).alloc oz).heap[w.heap.size]? = some (.cells #[.int .i64 c.kind, .int .i64 c.a, .int .i64 c.b, .int .i64 c.time, .int .i64 c.bk, .int .i64 c.slot, .int .i64 6, .int .i64 cur, .int .i64 prev, .int .i64 slot, .int .i64 nn, .slice aK keys.length cK, .bool false, .int .i64 ee] 51 (0, 0)) from HE.out.fb)
  unfold zeroFr at hoz
  clear m
  go_enter Try.func36, Try.ntmps36
  go_wp2_with fail
  rw [← hof, ← hoz]
  generalize (w.alloc of).alloc oz = W0 at *
  subst hof hoz
  have HE1 : Hid (Lk w W0 B lo aS aH aF aL cS cH cF cL M ⟨c, 6, cur, prev, slot, nn, keys, false, ee⟩ aK cK) := HE.out
  clear HE
  clear f0 f1 f2 f3 f4 f5 f6 f7 f8 f9 f10 f11 f12 f13 ff fs
  refine (HP.out _ HE1.out.m (HR.out.below HE1.out.bl)).mono ?_
  rintro e w2 ⟨⟨a2, c2, rfl, hr2, hl2, hd2⟩, hh2, hf2⟩
  have HK2 : Hid (KRow w2 a2 c2 keys ∧ ∀ ad, a2 = some ad → aK = some ad ∨ w.heap.size + 2 ≤ ad.block) := ⟨HKy.out ▸ hr2, fun ad h => (hl2 ad h).imp id (fun h' => Nat.le_trans (lt_of_block HE1.out.zb) h')⟩
  have HD2 : Hid (g.done = false → a2 = aK ∧ c2 = cK) := hd2
  have HE2 : Hid (Lk2 w w2 (Foot B aS aH aF aL) B lo M' ⟨c, 6, cur, prev, slot, nn, keys, false, ee⟩ aK cK) := HE1.out.after hh2 hf2
  clear HE1 hh2 hf2 hr2 hl2 hd2
  obtain ⟨g0, g1, g2, g3, g4, g5, g6, g7, g8, g9, g10, g11, g12, g13, gf, gs⟩ := framef HE2.out.zb
  go_wp2
  refine bodyPost_ret (v := .agg #[.int .i64 g.c.kind, .int .i64 g.c.a, .int .i64 g.c.b, .int .i64 g.c.time, .int .i64 g.c.bk, .int .i64 g.c.slot, .int .i64 g.pl, .int .i64 g.cur, .int .i64 g.prev, .int .i64 g.slot, .int .i64 g.n, .slice a2 g.keys.length c2, .bool g.done, .int .i64 g.e]) (by simp [results, Try.results36, go_sem, g0, g1, g2, g3, g4, g5, g6, g7, g8, g9, g10, g11, g12, g13]) rfl ⟨⟨a2, c2, rfl, by rw [HKy.out]; exact krow_end rfl HK2.out.1 HR.out HK2.out.2, (fun ad h => (HK2.out.2 ad h).imp id (fun h' => by omega)), HD2.out⟩, HE2.out.end14⟩

set_option maxHeartbeats 1600000 in
theorem step7 (M : Mm) (c : Cl) (pl cur prev slot nn ee : Int) (keys : List (Int × Int)) (B lo : Nat) (aS aH aF aL : Option Addr) (cS cH cF cL : Nat) (aK : Option Addr) (cK : Nat) (w : World)
    (m : Mine w B lo aS aH aF aL cS cH cF cL M) (HR : Hid (KRow w aK cK keys)) (h7 : 7 ≤ pl) :
    Calls Try.prog 36 #[.pointer (some ⟨B, 0, none⟩), .agg #[.int .i64 c.kind, .int .i64 c.a, .int .i64 c.b, .int .i64 c.time, .int .i64 c.bk, .int .i64 c.slot, .int .i64 pl, .int .i64 cur, .int .i64 prev, .int .i64 slot, .int .i64 nn, .slice aK keys.length cK, .bool false, .int .i64 ee]] w fun e w' => Ret w w' e (toF ⟨c, pl, cur, prev, slot, nn, keys, false, ee⟩ 0) aK cK ∧ Has w' B lo (Up w (Foot B aS aH aF aL)) M ∧ Fine w w' (Foot B aS aH aF aL) := by
  have p0 : (pl == 0) = false := by rw [beq_eq_false_iff_ne]; omega
  have p1 : (pl == 1) = false := by rw [beq_eq_false_iff_ne]; omega
  have p2 : (pl == 2) = false := by rw [beq_eq_false_iff_ne]; omega
  have p3 : (pl == 3) = false := by rw [beq_eq_false_iff_ne]; omega
  have p4 : (pl == 4) = false := by rw [beq_eq_false_iff_ne]; omega
  have p5 : (pl == 5) = false := by rw [beq_eq_false_iff_ne]; omega
  have p6 : (pl == 6) = false := by rw [beq_eq_false_iff_ne]; omega
  obtain ⟨of, hof⟩ : ∃ o : Obj, o = .cells #[.int .i64 c.kind, .int .i64 c.a, .int .i64 c.b, .int .i64 c.time, .int .i64 c.bk, .int .i64 c.slot, .int .i64 pl, .int .i64 cur, .int .i64 prev, .int .i64 slot, .int .i64 nn, .slice aK keys.length cK, .bool false, .int .i64 ee] 51 := ⟨_, rfl⟩
  obtain ⟨oz, hoz⟩ : ∃ o : Obj, o = zeroFr := ⟨_, rfl⟩
  have HE : Hid (Lk w ((w.alloc of).alloc oz) B lo aS aH aF aL cS cH cF cL M ⟨c, pl, cur, prev, slot, nn, keys, false, ee⟩ aK cK) := Lk.first m ⟨c, pl, cur, prev, slot, nn, keys, false, ee⟩ aK cK hof hoz
  obtain ⟨f0, f1, f2, f3, f4, f5, f6, f7, f8, f9, f10, f11, f12, f13, ff, fs⟩ := framef (show ((w.alloc of).alloc oz).heap[w.heap.size]? = some (.cells #[.int .i64 c.kind, .int .i64 c.a, .int .i64 c.b, .int .i64 c.time, .int .i64 c.bk, .int .i64 c.slot, .int .i64 pl, .int .i64 cur, .int .i64 prev, .int .i64 slot, .int .i64 nn, .slice aK keys.length cK, .bool false, .int .i64 ee] 51 (0, 0)) from HE.out.fb)
  unfold zeroFr at hoz
  clear m
  go_enter Try.func36, Try.ntmps36
  go_wp2_with fail
  rw [← hof, ← hoz]
  generalize (w.alloc of).alloc oz = W0 at *
  subst hof hoz
  have HE1 : Hid (Lk w W0 B lo aS aH aF aL cS cH cF cL M ⟨c, pl, cur, prev, slot, nn, keys, false, ee⟩ aK cK) := HE.out
  clear HE
  clear f0 f1 f2 f3 f4 f5 f6 f7 f8 f9 f10 f11 f12 f13 ff fs
  refine (to_any ⟨c, pl, cur, prev, slot, nn, keys, false, ee⟩ 0 aK cK _).mono ?_
  rintro e w2 ⟨rfl, hb2⟩
  have HE2 : Hid (Lk w w2 B lo aS aH aF aL cS cH cF cL M ⟨c, pl, cur, prev, slot, nn, keys, false, ee⟩ aK cK) := HE1.out.below hb2
  clear HE1 hb2
  obtain ⟨g0, g1, g2, g3, g4, g5, g6, g7, g8, g9, g10, g11, g12, g13, gf, gs⟩ := framef HE2.out.zb
  go_wp2
  refine bodyPost_ret (v := .agg #[.int .i64 (toF ⟨c, pl, cur, prev, slot, nn, keys, false, ee⟩ 0).c.kind, .int .i64 (toF ⟨c, pl, cur, prev, slot, nn, keys, false, ee⟩ 0).c.a, .int .i64 (toF ⟨c, pl, cur, prev, slot, nn, keys, false, ee⟩ 0).c.b, .int .i64 (toF ⟨c, pl, cur, prev, slot, nn, keys, false, ee⟩ 0).c.time, .int .i64 (toF ⟨c, pl, cur, prev, slot, nn, keys, false, ee⟩ 0).c.bk, .int .i64 (toF ⟨c, pl, cur, prev, slot, nn, keys, false, ee⟩ 0).c.slot, .int .i64 (toF ⟨c, pl, cur, prev, slot, nn, keys, false, ee⟩ 0).pl, .int .i64 (toF ⟨c, pl, cur, prev, slot, nn, keys, false, ee⟩ 0).cur, .int .i64 (toF ⟨c, pl, cur, prev, slot, nn, keys, false, ee⟩ 0).prev, .int .i64 (toF ⟨c, pl, cur, prev, slot, nn, keys, false, ee⟩ 0).slot, .int .i64 (toF ⟨c, pl, cur, prev, slot, nn, keys, false, ee⟩ 0).n, .slice aK (toF ⟨c, pl, cur, prev, slot, nn, keys, false, ee⟩ 0).keys.length cK, .bool (toF ⟨c, pl, cur, prev, slot, nn, keys, false, ee⟩ 0).done, .int .i64 (toF ⟨c, pl, cur, prev, slot, nn, keys, false, ee⟩ 0).e]) (by simp [results, Try.results36, go_sem, toF, g0, g1, g2, g3, g4, g5, g6, g7, g8, g9, g10, g11, g12, g13]) rfl ⟨⟨aK, cK, rfl, HR.out.below (set14 HE2.out.bl), (fun ad h => .inl h), fun _ => ⟨rfl, rfl⟩⟩, HE2.out.end14⟩

theorem step_mine (M : Mm) (f : Fr) (B lo : Nat) (aS aH aF aL : Option Addr) (cS cH cF cL : Nat) (aK : Option Addr) (cK : Nat) (w : World)
    (m : Mine w B lo aS aH aF aL cS cH cF cL M) (hM : Ok M) (hf : Fit M f) (r : KRow w aK cK f.keys) (hz : ∀ ad, aK = some ad → ¬ Foot B aS aH aF aL ad.block) :
    Calls Try.prog 36 #[.pointer (some ⟨B, 0, none⟩), .agg #[.int .i64 f.c.kind, .int .i64 f.c.a, .int .i64 f.c.b, .int .i64 f.c.time, .int .i64 f.c.bk, .int .i64 f.c.slot, .int .i64 f.pl, .int .i64 f.cur, .int .i64 f.prev, .int .i64 f.slot, .int .i64 f.n, .slice aK f.keys.length cK, .bool f.done, .int .i64 f.e]] w fun e w' => Ret w w' e (lkF M f) aK cK ∧ Has w' B lo (Up w (Foot B aS aH aF aL)) (lkM M f) ∧ Fine w w' (Foot B aS aH aF aL) := by
  obtain ⟨c, pl, cur, prev, slot, nn, keys, done, ee⟩ := f
  have hd : done = false := hf.done
  subst hd
  have hpl : 0 ≤ pl ∧ pl ≤ 9 := hf.pl
  by_cases h7 : 7 ≤ pl
  · rw [lkF7 (f := ⟨c, pl, cur, prev, slot, nn, keys, false, ee⟩) h7, lkM_same (f := ⟨c, pl, cur, prev, slot, nn, keys, false, ee⟩) (by show pl ≠ 3 ∧ pl ≠ 5 ∧ pl ≠ 6; omega)]
    exact step7 M c pl cur prev slot nn ee keys B lo aS aH aF aL cS cH cF cL aK cK w m r h7
  · obtain rfl | rfl | rfl | rfl | rfl | rfl | rfl : pl = 0 ∨ pl = 1 ∨ pl = 2 ∨ pl = 3 ∨ pl = 4 ∨ pl = 5 ∨ pl = 6 := by omega
    · exact step0 M _ _ c cur prev slot nn ee keys B lo aS aH aF aL cS cH cF cL aK cK w m r (lkF_keys _ _) (fun W m' r' => part0 M ⟨c, 0, cur, prev, slot, nn, keys, false, ee⟩ B lo aS aH aF aL cS cH cF cL aK cK W m' hM hf r' hz rfl)
    · exact step1 M _ _ c cur prev slot nn ee keys B lo aS aH aF aL cS cH cF cL aK cK w m r (lkF_keys _ _) (fun W m' r' => part1 M ⟨c, 1, cur, prev, slot, nn, keys, false, ee⟩ B lo aS aH aF aL cS cH cF cL aK cK W m' hM hf r' hz rfl)
    · exact step2 M _ _ c cur prev slot nn ee keys B lo aS aH aF aL cS cH cF cL aK cK w m r (lkF_keys _ _) (fun W m' r' => part2 M ⟨c, 2, cur, prev, slot, nn, keys, false, ee⟩ B lo aS aH aF aL cS cH cF cL aK cK W m' hM hf r' hz rfl)
    · exact step3 M _ _ c cur prev slot nn ee keys B lo aS aH aF aL cS cH cF cL aK cK w m r (lkF_keys _ _) (fun W m' r' => part3 M ⟨c, 3, cur, prev, slot, nn, keys, false, ee⟩ B lo aS aH aF aL cS cH cF cL aK cK W m' hM hf r' hz rfl)
    · exact step4 M _ _ c cur prev slot nn ee keys B lo aS aH aF aL cS cH cF cL aK cK w m r (lkF_keys _ _) (fun W m' r' => part4 M ⟨c, 4, cur, prev, slot, nn, keys, false, ee⟩ B lo aS aH aF aL cS cH cF cL aK cK W m' hM hf r' hz rfl)
    · exact step5 M _ _ c cur prev slot nn ee keys B lo aS aH aF aL cS cH cF cL aK cK w m r (lkF_keys _ _) (fun W m' r' => part5 M ⟨c, 5, cur, prev, slot, nn, keys, false, ee⟩ B lo aS aH aF aL cS cH cF cL aK cK W m' hM hf r' hz rfl)
    · exact step6 M _ _ c cur prev slot nn ee keys B lo aS aH aF aL cS cH cF cL aK cK w m r (lkF_keys _ _) (fun W m' r' => part6 M ⟨c, 6, cur, prev, slot, nn, keys, false, ee⟩ B lo aS aH aF aL cS cH cF cL aK cK W m' hM hf r' hz rfl)


end Go.Proofs.Ytdbilofhcadmoab.mm
