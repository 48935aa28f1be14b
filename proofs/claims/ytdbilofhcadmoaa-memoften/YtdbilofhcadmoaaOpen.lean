/- From what a row says of an argument to memory that lies in the world. -/
import Derived.Test.YtdbilofhcadmoaaTaken
import Derived.Deep.Slices
import Derived.SizedLaws
import Derived.Carry
namespace Go.Proofs.Ytdbilofhcadmoaa.mm
open Go.ChangeShapes Go.WideShapes Go.ChangeAt Go.RowKit Go.Joins Go.Deep
set_option maxRecDepth 100000
set_option linter.unusedVariables false

theorem own : ownKnob Try.prog.godebug = none := by kernel_rfl
theorem cells3 : Try.prog.cellsOf 3 = 1 := by kernel_rfl
theorem cells4 : Try.prog.cellsOf 4 = 1 := by kernel_rfl
theorem cells37 : Try.prog.cellsOf 37 = 2 := by kernel_rfl
theorem cells48 : Try.prog.cellsOf 48 = 6 := by kernel_rfl
theorem cells29 : Try.prog.cellsOf 29 = 5 := by kernel_rfl
theorem cells24 : Try.prog.cellsOf 24 = 1 := by kernel_rfl
theorem cells27 : Try.prog.cellsOf 27 = 1 := by kernel_rfl
theorem bytes3 : Try.prog.bytesOf 3 = 8 := by kernel_rfl
theorem bytes48 : Try.prog.bytesOf 48 = 48 := by kernel_rfl

variable {H : Type} {enc : TypeId × Value → H} {w : World}

theorem trod_struct5 {P : Program} {base : Nat} {spare : Nat → Bool} {held : Bool} {t : TypeId} {f0 f1 f2 f3 f4 : Field} {fuel : Nat} {cs : List Value} {x : DataW H × List MemPlace} (ht : P.underlying t = some (.struct #[f0, f1, f2, f3, f4])) (h : DataW.trod enc P w base spare held fuel t cs = some x) :
    ∃ y0 y1 y2 y3 y4 n, x.1 = .agg [y0.1, y1.1, y2.1, y3.1, y4.1] ∧ cs.length = P.cellsOf t ∧ DataW.trod enc P w base spare held n f0.type ((cs.drop f0.offset).take (P.cellsOf f0.type)) = some y0 ∧
      DataW.trod enc P w base spare held n f1.type ((cs.drop f1.offset).take (P.cellsOf f1.type)) = some y1 ∧ DataW.trod enc P w base spare held n f2.type ((cs.drop f2.offset).take (P.cellsOf f2.type)) = some y2 ∧
      DataW.trod enc P w base spare held n f3.type ((cs.drop f3.offset).take (P.cellsOf f3.type)) = some y3 ∧ DataW.trod enc P w base spare held n f4.type ((cs.drop f4.offset).take (P.cellsOf f4.type)) = some y4 := by
  obtain ⟨xs, n, _, rfl, hl, hlen, hf⟩ := DataW.trod_struct ht h
  match xs, hlen with
  | [y0, y1, y2, y3, y4], _ => exact ⟨y0, y1, y2, y3, y4, n, by simp, hl, by simpa using hf 0 f0 rfl, by simpa using hf 1 f1 rfl, by simpa using hf 2 f2 rfl, by simpa using hf 3 f3 rfl, by simpa using hf 4 f4 rfl⟩

theorem six {cs : List Value} (h : cs.length = 6) : ∃ c0 c1 c2 c3 c4 c5, cs = [c0, c1, c2, c3, c4, c5] := by
  match cs, h with
  | [c0, c1, c2, c3, c4, c5], _ => exact ⟨_, _, _, _, _, _, rfl⟩

theorem open_slot {fuel : Nat} {cs : List Value} {x : DataW H × List MemPlace} (h : DataW.trod enc Try.prog w 0 (fun _ => true) true fuel 48 cs = some x) : ∃ s : Sl, cs = s.enc := by
  obtain ⟨y0, y1, y2, y3, y4, n, _, hl, h0, h1, h2, h3, h4⟩ := trod_struct5 Try.underlying48 h
  rw [cells48] at hl
  obtain ⟨c0, c1, c2, c3, c4, c5, rfl⟩ := six hl
  simp only [cells3, cells4, cells37] at h0 h1 h2 h3 h4
  obtain ⟨r, e0, _⟩ := DataW.trod_int Try.underlying3 h0
  obtain ⟨z0, z1, m, _, _, k0, k1⟩ := trod_struct2 Try.underlying37 h1
  simp only [cells3] at k0 k1
  obtain ⟨a, e1, _⟩ := DataW.trod_int Try.underlying3 k0
  obtain ⟨b, e2, _⟩ := DataW.trod_int Try.underlying3 k1
  obtain ⟨u, e3, _⟩ := DataW.trod_int Try.underlying3 h2
  obtain ⟨i, e4, _⟩ := DataW.trod_bool Try.underlying4 h3
  obtain ⟨nx, e5, _⟩ := DataW.trod_int Try.underlying3 h4
  simp at e0 e1 e2 e3 e4 e5
  subst e0 e1 e2 e3 e4 e5
  exact ⟨⟨r, a, b, u, i, nx⟩, rfl⟩

theorem open_irow {fuel : Nat} {c : Value} {x : DataW H × List MemPlace} (h : DataW.trod enc Try.prog w 0 (fun _ => true) true fuel 24 [c] = some x) (hz : ∀ n ∈ x.1.weights Try.prog 24, n ≤ reachBytes) :
    ∃ l ao cap, c = .slice ao l.length cap ∧ IRow w ao cap l := by
  rcases open_ints Try.underlying24 Try.underlying3 cells3 h with ⟨e, -⟩ | ⟨a, len, cap, zs, e, hb, hl, hm, hlen, hx, hc, hwf⟩
  · simp at e
    exact ⟨[], none, 0, e, Nat.zero_le _, by decide, fun _ => rfl, .inl rfl⟩
  · simp at e hlen
    subst e
    have hlt : (zs.take len).length = len := by rw [List.length_take]; omega
    refine ⟨zs.take len, some a, cap, by rw [hlt], by omega, ?_, (fun h => by cases h), ?_⟩
    · rw [hx] at hz
      have := hz ((len + (cap - len)) * 8) (by simp [DataW.weights, Try.underlying24, bytes3, lits, hlen]; left; omega)
      unfold reachBytes at this
      rw [hlt]
      omega
    · by_cases h0 : len = 0
      · left; omega
      · right
        obtain ⟨b, off, spot⟩ := a
        have hspot : spot = none := by simpa [Addr.add] using World.cell?_spot (hc 0 (by omega))
        subst hspot
        refine ⟨b, off, rfl, fun i hi => ?_⟩
        have := hc i (by omega)
        rw [Addr.add_lit] at this
        rw [this]
        have hi' : i < zs.length := by omega
        simp [List.getD_eq_getElem?_getD, hi']

theorem open_srow {fuel : Nat} {c : Value} {x : DataW H × List MemPlace} (h : DataW.trod enc Try.prog w 0 (fun _ => true) true fuel 27 [c] = some x) (hz : ∀ n ∈ x.1.weights Try.prog 27, n ≤ reachBytes) :
    ∃ l ao cap, c = .slice ao l.length cap ∧ SRow w ao cap l := by
  rcases open_slice Try.underlying27 h with ⟨e, -⟩ | ⟨a, len, cap, m, n, D, Pl, e, hb, hl, hm, hmm, hx, hc⟩
  · simp at e
    exact ⟨[], none, 0, e, Nat.zero_le _, by decide, fun _ => rfl, .inl rfl⟩
  · simp at e hmm
    subst e hmm
    rw [cells48] at hc
    obtain ⟨S, hS⟩ := @choose_lt Sl ⟨sl0⟩ len (fun i s => w.cells? 0 (a.add (i * 6)) 6 = some s.enc) (fun i hi => by
      obtain ⟨cs', h1, h2⟩ := hc i (by omega)
      obtain ⟨s, rfl⟩ := open_slot h2
      exact ⟨s, h1⟩)
    have hlt : ((List.range len).map S).length = len := by simp
    refine ⟨(List.range len).map S, some a, m, by rw [hlt], by omega, ?_, (fun h => by cases h), ?_⟩
    · rw [hx] at hz
      have := hz ((len + (m - len)) * 48) (by simp [DataW.weights, Try.underlying27, bytes48])
      unfold reachBytes at this
      rw [hlt]
      omega
    · by_cases h0 : len = 0
      · left; omega
      · right
        obtain ⟨b, off, spot⟩ := a
        have hspot : spot = none := by
          have := (World.cells?_some (hS 0 (by omega))).2.2 0 (by omega)
          simpa [Addr.add] using World.cell?_spot this
        subst hspot
        refine ⟨b, off, rfl, fun i hi => ?_⟩
        have hi' : i < len := by simpa using hi
        have k : ∀ q, q < 6 → w.cell? ⟨b, off + i * 6 + q, none⟩ = ((S i).enc)[q]? := fun q hq => by
          have := (World.cells?_some (hS i hi')).2.2 q hq
          rwa [Addr.add_lit, Addr.add_lit] at this
        have e : ((List.range len).map S)[i] = S i := by simp
        rw [e]
        exact ⟨k 0 (by omega), k 1 (by omega), k 2 (by omega), k 3 (by omega), k 4 (by omega), k 5 (by omega)⟩

theorem open_mem {r : Reach} {b0 : Nat} {v : Value} {d : DataW H} {p : List MemPlace} (hv : Value.okWide Try.prog w r b0 29 v) (h : DataW.Trod enc Try.prog w 0 (fun _ => true) true 29 v d p) (hz : ∀ n ∈ d.weights Try.prog 29, n ≤ reachBytes) : ∃ M, Ans 0 w v M := by
  obtain ⟨cs, rfl, hsz⟩ := okWide_struct Try.underlying29 hv
  obtain ⟨l⟩ := cs
  rw [cells29] at hsz
  match l, hsz with
  | [c0, c1, c2, c3, c4], _ =>
    obtain ⟨fuel, hf⟩ := h
    obtain ⟨y0, y1, y2, y3, y4, n, hx, _, h0, h1, h2, h3, h4⟩ := trod_struct5 Try.underlying29 hf
    simp only [Value.cells, cells27, cells24, cells3] at h0 h1 h2 h3 h4
    have hd : d = .agg [y0.1, y1.1, y2.1, y3.1, y4.1] := hx
    subst hd
    have hz' : ∀ n, n ∈ y0.1.weights Try.prog 27 ∨ n ∈ y1.1.weights Try.prog 24 ∨ n ∈ y2.1.weights Try.prog 24 ∨ n ∈ y3.1.weights Try.prog 24 → n ≤ reachBytes := fun n hn => hz n (by
      simp only [DataW.weights, Try.underlying29, DataW.weightsEach, List.map_cons, List.mem_append]
      rcases hn with h | h | h | h
      · exact .inl h
      · exact .inr (.inl h)
      · exact .inr (.inr (.inl h))
      · exact .inr (.inr (.inr (.inl h))))
    obtain ⟨S, aS, cS, rfl, rS⟩ := open_srow h0 (fun n hn => hz' n (.inl hn))
    obtain ⟨H, aH, cH, rfl, rH⟩ := open_irow h1 (fun n hn => hz' n (.inr (.inl hn)))
    obtain ⟨F, aF, cF, rfl, rF⟩ := open_irow h2 (fun n hn => hz' n (.inr (.inr (.inl hn))))
    obtain ⟨L, aL, cL, rfl, rL⟩ := open_irow h3 (fun n hn => hz' n (.inr (.inr (.inr hn))))
    obtain ⟨now, e, _⟩ := DataW.trod_int Try.underlying3 h4
    simp at e
    subst e
    exact ⟨⟨S, H, F, L, now⟩, aS, aH, aF, aL, cS, cH, cF, cL, rfl, ⟨rS, rH, rF, rL⟩, ⟨fun _ _ => Nat.zero_le _, fun _ _ => Nat.zero_le _, fun _ _ => Nat.zero_le _, fun _ _ => Nat.zero_le _⟩⟩


end Go.Proofs.Ytdbilofhcadmoaa.mm
