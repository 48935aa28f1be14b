/- From what a row says of an argument to calls and frames that lie in the world. -/
import Derived.Test.YtaekgadokcmkfabOpen
import Derived.Test.YtaekgadokcmkfabFrC
namespace Go.Proofs.Ytaekgadokcmkfab.mm
open Go.ChangeShapes Go.WideShapes Go.ChangeAt Go.RowKit Go.Joins Go.Deep
set_option maxRecDepth 100000
set_option linter.unusedVariables false

theorem cellsCall : Try.prog.cellsOf 48 = 6 := by kernel_rfl
theorem cellsFrame : Try.prog.cellsOf 51 = 14 := by kernel_rfl
theorem cellsErr : Try.prog.cellsOf 27 = 1 := by kernel_rfl
theorem cellsKeys : Try.prog.cellsOf 49 = 1 := by kernel_rfl
theorem bytesKey : Try.prog.bytesOf 37 = 16 := by kernel_rfl

variable {H : Type} {enc : TypeId × Value → H} {w : World}

theorem trod_call {fuel : Nat} {cs : List Value} {x : DataW H × List MemPlace} (h : DataW.trod enc Try.prog w 0 (fun _ => true) true fuel 48 cs = some x) :
    ∃ c : Cl, cs = [.int .i64 c.kind, .int .i64 c.a, .int .i64 c.b, .int .i64 c.time, .int .i64 c.bk, .int .i64 c.slot] := by
  obtain ⟨y0, y1, y2, y3, y4, n, _, hl, h0, h1, h2, h3, h4⟩ := trod_struct5 Try.underlying48 h
  rw [cellsCall] at hl
  obtain ⟨c0, c1, c2, c3, c4, c5, rfl⟩ := six hl
  simp only [cells3, cells37] at h0 h1 h2 h3 h4
  obtain ⟨r, e0, _⟩ := DataW.trod_int Try.underlying3 h0
  obtain ⟨z0, z1, m, _, _, k0, k1⟩ := trod_struct2 Try.underlying37 h1
  simp only [cells3] at k0 k1
  obtain ⟨a, e1, _⟩ := DataW.trod_int Try.underlying3 k0
  obtain ⟨b, e2, _⟩ := DataW.trod_int Try.underlying3 k1
  obtain ⟨u, e3, _⟩ := DataW.trod_int Try.underlying3 h2
  obtain ⟨i, e4, _⟩ := DataW.trod_int Try.underlying3 h3
  obtain ⟨nx, e5, _⟩ := DataW.trod_int Try.underlying3 h4
  simp at e0 e1 e2 e3 e4 e5
  subst e0 e1 e2 e3 e4 e5
  exact ⟨⟨r, a, b, u, i, nx⟩, rfl⟩

theorem open_call {r : Reach} {b0 : Nat} {v : Value} {d : DataW H} {p : List MemPlace} (hv : Value.okWide Try.prog w r b0 48 v) (h : DataW.Trod enc Try.prog w 0 (fun _ => true) true 48 v d p) :
    ∃ c : Cl, v = .agg #[.int .i64 c.kind, .int .i64 c.a, .int .i64 c.b, .int .i64 c.time, .int .i64 c.bk, .int .i64 c.slot] := by
  obtain ⟨cs, rfl, hsz⟩ := okWide_struct Try.underlying48 hv
  obtain ⟨fuel, hf⟩ := h
  obtain ⟨c, hc⟩ := trod_call hf
  refine ⟨c, ?_⟩
  obtain ⟨l⟩ := cs
  have hc' : l = _ := hc
  rw [hc']

theorem trod_struct9 {P : Program} {base : Nat} {spare : Nat → Bool} {held : Bool} {t : TypeId} {f0 f1 f2 f3 f4 f5 f6 f7 f8 : Field} {fuel : Nat} {cs : List Value} {x : DataW H × List MemPlace} (ht : P.underlying t = some (.struct #[f0, f1, f2, f3, f4, f5, f6, f7, f8])) (h : DataW.trod enc P w base spare held fuel t cs = some x) :
    ∃ y0 y1 y2 y3 y4 y5 y6 y7 y8 n, x.1 = .agg [y0.1, y1.1, y2.1, y3.1, y4.1, y5.1, y6.1, y7.1, y8.1] ∧ cs.length = P.cellsOf t ∧ DataW.trod enc P w base spare held n f0.type ((cs.drop f0.offset).take (P.cellsOf f0.type)) = some y0 ∧
      DataW.trod enc P w base spare held n f1.type ((cs.drop f1.offset).take (P.cellsOf f1.type)) = some y1 ∧ DataW.trod enc P w base spare held n f2.type ((cs.drop f2.offset).take (P.cellsOf f2.type)) = some y2 ∧
      DataW.trod enc P w base spare held n f3.type ((cs.drop f3.offset).take (P.cellsOf f3.type)) = some y3 ∧ DataW.trod enc P w base spare held n f4.type ((cs.drop f4.offset).take (P.cellsOf f4.type)) = some y4 ∧
      DataW.trod enc P w base spare held n f5.type ((cs.drop f5.offset).take (P.cellsOf f5.type)) = some y5 ∧ DataW.trod enc P w base spare held n f6.type ((cs.drop f6.offset).take (P.cellsOf f6.type)) = some y6 ∧
      DataW.trod enc P w base spare held n f7.type ((cs.drop f7.offset).take (P.cellsOf f7.type)) = some y7 ∧ DataW.trod enc P w base spare held n f8.type ((cs.drop f8.offset).take (P.cellsOf f8.type)) = some y8 := by
  obtain ⟨xs, n, _, rfl, hl, hlen, hf⟩ := DataW.trod_struct ht h
  match xs, hlen with
  | [y0, y1, y2, y3, y4, y5, y6, y7, y8], _ => exact ⟨y0, y1, y2, y3, y4, y5, y6, y7, y8, n, by simp, hl, by simpa using hf 0 f0 rfl, by simpa using hf 1 f1 rfl, by simpa using hf 2 f2 rfl, by simpa using hf 3 f3 rfl, by simpa using hf 4 f4 rfl, by simpa using hf 5 f5 rfl, by simpa using hf 6 f6 rfl, by simpa using hf 7 f7 rfl, by simpa using hf 8 f8 rfl⟩

theorem open_key2 {fuel : Nat} {cs : List Value} {x : DataW H × List MemPlace} (h : DataW.trod enc Try.prog w 0 (fun _ => true) true fuel 37 cs = some x) : ∃ p : Int × Int, cs = [.int .i64 p.1, .int .i64 p.2] := by
  obtain ⟨z0, z1, m, _, hl, k0, k1⟩ := trod_struct2 Try.underlying37 h
  rw [cells37] at hl
  match cs, hl with
  | [c0, c1], _ =>
    simp only [cells3] at k0 k1
    obtain ⟨a, e1, _⟩ := DataW.trod_int Try.underlying3 k0
    obtain ⟨b, e2, _⟩ := DataW.trod_int Try.underlying3 k1
    simp at e1 e2
    subst e1 e2
    exact ⟨(a, b), rfl⟩

theorem open_krow {fuel : Nat} {c : Value} {x : DataW H × List MemPlace} (h : DataW.trod enc Try.prog w 0 (fun _ => true) true fuel 49 [c] = some x) (hz : ∀ n ∈ x.1.weights Try.prog 49, n ≤ reachBytes) :
    ∃ l ao cap, c = .slice ao l.length cap ∧ KRow w ao cap l := by
  rcases open_slice Try.underlying49 h with ⟨e, -⟩ | ⟨a, len, cap, m, n, D, Pl, e, hb, hl, hm, hmm, hx, hc⟩
  · simp at e
    exact ⟨[], none, 0, e, Nat.zero_le _, by decide, fun _ => rfl, .inl rfl⟩
  · simp at e hmm
    subst e hmm
    rw [cells37] at hc
    obtain ⟨S, hS⟩ := @choose_lt (Int × Int) ⟨(0, 0)⟩ len (fun i s => w.cells? 0 (a.add (i * 2)) 2 = some [.int .i64 s.1, .int .i64 s.2]) (fun i hi => by
      obtain ⟨cs', h1, h2⟩ := hc i (by omega)
      obtain ⟨s, rfl⟩ := open_key2 h2
      exact ⟨s, h1⟩)
    have hlt : ((List.range len).map S).length = len := by simp
    refine ⟨(List.range len).map S, some a, m, by rw [hlt], by omega, ?_, (fun h => by cases h), ?_⟩
    · rw [hx] at hz
      have := hz ((len + (m - len)) * 16) (by simp [DataW.weights, Try.underlying49, bytesKey])
      unfold reachBytes at this
      rw [hlt]
      omega
    · by_cases h0 : len = 0
      · left; omega
      · right
        obtain ⟨b, off, spot⟩ := a
        have hspot : spot = none := by
          have := (World.cells?_some (hS 0 (by omega))).2.2 0 (by omega)
          simpa [Addr.add] using World.cell?_spot this
        subst hspot
        refine ⟨b, off, rfl, fun i hi => ?_⟩
        have hi' : i < len := by simpa using hi
        have k : ∀ q, q < 2 → w.cell? ⟨b, off + i * 2 + q, none⟩ = ([.int .i64 (S i).1, .int .i64 (S i).2] : List Value)[q]? := fun q hq => by
          have := (World.cells?_some (hS i hi')).2.2 q hq
          rwa [Addr.add_lit, Addr.add_lit] at this
        have e : ((List.range len).map S)[i] = S i := by simp
        rw [e]
        exact ⟨k 0 (by omega), k 1 (by omega)⟩

theorem fourteen {cs : List Value} (h : cs.length = 14) : ∃ c0 c1 c2 c3 c4 c5 c6 c7 c8 c9 c10 c11 c12 c13, cs = [c0, c1, c2, c3, c4, c5, c6, c7, c8, c9, c10, c11, c12, c13] := by
  match cs, h with
  | [c0, c1, c2, c3, c4, c5, c6, c7, c8, c9, c10, c11, c12, c13], _ => exact ⟨_, _, _, _, _, _, _, _, _, _, _, _, _, _, rfl⟩

theorem open_frame {r : Reach} {b0 : Nat} {v : Value} {d : DataW H} {p : List MemPlace} (hv : Value.okWide Try.prog w r b0 51 v) (h : DataW.Trod enc Try.prog w 0 (fun _ => true) true 51 v d p) (hz : ∀ n ∈ d.weights Try.prog 51, n ≤ reachBytes) :
    ∃ (f : Fr) (aK : Option Addr) (cK : Nat), v = .agg #[.int .i64 f.c.kind, .int .i64 f.c.a, .int .i64 f.c.b, .int .i64 f.c.time, .int .i64 f.c.bk, .int .i64 f.c.slot, .int .i64 f.pl, .int .i64 f.cur, .int .i64 f.prev, .int .i64 f.slot, .int .i64 f.n, .slice aK f.keys.length cK, .bool f.done, .int .i64 f.e] ∧ KRow w aK cK f.keys := by
  obtain ⟨cs, rfl, hsz⟩ := okWide_struct Try.underlying51 hv
  obtain ⟨l⟩ := cs
  rw [cellsFrame] at hsz
  obtain ⟨c0, c1, c2, c3, c4, c5, c6, c7, c8, c9, c10, c11, c12, c13, rfl⟩ := fourteen hsz
  obtain ⟨fuel, hf⟩ := h
  obtain ⟨y0, y1, y2, y3, y4, y5, y6, y7, y8, n, hx, _, h0, h1, h2, h3, h4, h5, h6, h7, h8⟩ := trod_struct9 Try.underlying51 hf
  simp only [Value.cells, cellsCall, cells3, cells4, cellsErr, cellsKeys] at h0 h1 h2 h3 h4 h5 h6 h7 h8
  have hd : d = .agg [y0.1, y1.1, y2.1, y3.1, y4.1, y5.1, y6.1, y7.1, y8.1] := hx
  subst hd
  have hz' : ∀ n, n ∈ y6.1.weights Try.prog 49 → n ≤ reachBytes := fun n hn => hz n (by
    simp only [DataW.weights, Try.underlying51, DataW.weightsEach, List.map_cons, List.mem_append]
    exact .inr (.inr (.inr (.inr (.inr (.inr (.inl hn)))))))
  obtain ⟨c, ec⟩ := trod_call h0
  obtain ⟨pl, e1, _⟩ := DataW.trod_int Try.underlying3 h1
  obtain ⟨cur, e2, _⟩ := DataW.trod_int Try.underlying3 h2
  obtain ⟨prev, e3, _⟩ := DataW.trod_int Try.underlying3 h3
  obtain ⟨slot, e4, _⟩ := DataW.trod_int Try.underlying3 h4
  obtain ⟨nn, e5, _⟩ := DataW.trod_int Try.underlying3 h5
  obtain ⟨K, aK, cK, e6, rK⟩ := open_krow h6 hz'
  obtain ⟨dn, e7, _⟩ := DataW.trod_bool Try.underlying4 h7
  obtain ⟨ee, e8, _⟩ := DataW.trod_int Try.underlying27 h8
  simp at ec e1 e2 e3 e4 e5 e7 e8
  obtain ⟨rfl, rfl, rfl, rfl, rfl, rfl⟩ := ec
  subst e1 e2 e3 e4 e5 e6 e7 e8
  exact ⟨⟨c, pl, cur, prev, slot, nn, K, dn, ee⟩, aK, cK, rfl, rK⟩

end Go.Proofs.Ytaekgadokcmkfab.mm
