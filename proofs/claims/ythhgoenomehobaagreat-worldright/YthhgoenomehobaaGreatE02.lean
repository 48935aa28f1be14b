/- Parts. -/
import Derived.Test.YthhgoenomehobaaGreatChecked
import Derived.Test.YthhgoenomehobaaGreatE01
import Derived.WalkKit
import Derived.ProofKit
import Derived.OpenShut
import Derived.WalkLawsBesides
import Derived.WalkSpells
import Derived.Deep.RegionLaw
import Derived.Maps.AppendAt
import Derived.Maps.OwnOps
import Derived.Maps.OwnSet
import Derived.DeepKeys4
import Derived.Lib.SmallJoins
import Derived.Lib.BufferMore
import Derived.WalkSmall
namespace Go.Proofs.YthhgoenomehobaaGreat.mm
set_option maxRecDepth 100000
set_option linter.unusedVariables false
open Go.Value renaming int → Vi, slice → Vs
open Go.IntKind renaming i64 → Qi
section
open Go.ChangeShapes Go.WideShapes Go.ChangeAt Go.RowKit
theorem a1z {W w1 : World} {n : Nat} (hb : Below n W w1) : (∀ b o,b < n->w1.cell? ⟨b,o,none⟩ = W.cell? ⟨b,o,none⟩)/\(∀ b o,b < n->w1.frozen? ⟨b,o,none⟩ = W.frozen? ⟨b,o,none⟩) :=
  ⟨fun b o h => hb.cell (p:=⟨b,o,none⟩) h,fun b o h => hb.frozen (p:=⟨b,o,none⟩) h⟩
theorem a0m {w : World} {b o : Nat} {v : Value} (h : w.cell? ⟨b,o,none⟩ = some v) : b < w.heap.size:=by
  refine Nat.lt_of_not_le fun hh => ?_
  unfold World.cell? at h
  rw [Array.getElem?_eq_none hh] at h
  cases h
structure IRow (w : World) (ao : Option Addr) (cap : Nat) (l : List Int) : Prop where
  le : l.length<=cap
  max : l.length * 8<=140737488351232
  nil : ao = none->cap = 0
  at_ : l.length = 0\/∃ b o,ao = some ⟨b,o,none⟩/\∀ i (h : i < l.length),w.cell? ⟨b,o + i,none⟩ = some (Vi Qi l[i])
structure SRow (w : World) (ao : Option Addr) (cap : Nat) (l : List Sl) : Prop where
  le : l.length<=cap
  max : l.length * 48<=140737488351232
  nil : ao = none->cap = 0
  at_ : l.length = 0\/∃ b o,ao = some ⟨b,o,none⟩/\∀ i (h : i < l.length),
    w.cell? ⟨b,o + i * 6,none⟩ = some (Vi Qi l[i].refs)/\w.cell? ⟨b,o + i * 6 + 1,none⟩ = some (Vi Qi l[i].a)/\w.cell? ⟨b,o + i * 6 + 2,none⟩ = some (Vi Qi l[i].b) /\
    w.cell? ⟨b,o + i * 6 + 3,none⟩ = some (Vi Qi l[i].unt)/\w.cell? ⟨b,o + i * 6 + 4,none⟩ = some (.bool l[i].inn)/\w.cell? ⟨b,o + i * 6 + 5,none⟩ = some (Vi Qi l[i].next)
theorem IRow.below {w w' : World} {ao : Option Addr} {cap : Nat} {l : List Int} (r : IRow w ao cap l) (hb : Below w.heap.size w w') : IRow w' ao cap l:=by
  refine ⟨r.le,r.max,r.nil,?_⟩
  rcases r.at_ with h | ⟨b,o,h,hc⟩
  · exact .inl h
  · exact .inr ⟨b,o,h,fun i hi => (hb.cell (p:=⟨b,o + i,none⟩) (a0m (hc i hi))).trans (hc i hi)⟩
theorem SRow.below {w w' : World} {ao : Option Addr} {cap : Nat} {l : List Sl} (r : SRow w ao cap l) (hb : Below w.heap.size w w') : SRow w' ao cap l:=by
  refine ⟨r.le,r.max,r.nil,?_⟩
  rcases r.at_ with h | ⟨b,o,h,hc⟩
  · exact .inl h
  · refine .inr ⟨b,o,h,fun i hi => ?_⟩
    obtain ⟨c0,c1,c2,c3,c4,c5⟩:=hc i hi
    have lt:=a0m c0
    obtain ⟨q,_⟩:=a1z hb
    exact ⟨(q _ _ lt).trans c0,(q _ _ lt).trans c1,(q _ _ lt).trans c2,(q _ _ lt).trans c3,(q _ _ lt).trans c4,(q _ _ lt).trans c5⟩
structure At (w : World) (aS aH aF aL : Option Addr) (cS cH cF cL : Nat) (M : Mm) : Prop where
  s : SRow w aS cS M.slots
  h : IRow w aH cH M.heads
  f : IRow w aF cF M.free
  l : IRow w aL cL M.a0b
theorem At.below {w w' : World} {aS aH aF aL : Option Addr} {cS cH cF cL : Nat} {M : Mm} (r : At w aS aH aF aL cS cH cF cL M) (hb : Below w.heap.size w w') : At w' aS aH aF aL cS cH cF cL M :=
  ⟨r.s.below hb,r.h.below hb,r.f.below hb,r.l.below hb⟩
theorem a0c (w : World) (o : Obj) : Below w.heap.size w (w.alloc o):=(Below.refl _ _).alloc (Nat.le_refl _) _
theorem a3f {w wr : World} {v0 v1 v2 v3 v4 : Value} {t : TypeId} (hb : Below (w.heap.size + 1) (w.alloc (.cells #[v0,v1,v2,v3,v4] t)) wr) :
    wr.cell? ⟨w.heap.size,0,none⟩ = some v0/\wr.cell? ⟨w.heap.size,1,none⟩ = some v1/\wr.cell? ⟨w.heap.size,2,none⟩ = some v2/\wr.cell? ⟨w.heap.size,3,none⟩ = some v3/\wr.cell? ⟨w.heap.size,4,none⟩ = some v4/\w.heap.size + 1<=wr.heap.size:=by
  obtain ⟨q,_⟩:=a1z hb
  refine ⟨(q _ _ (by omega)).trans (by simp),(q _ _ (by omega)).trans (by simp),(q _ _ (by omega)).trans (by simp),(q _ _ (by omega)).trans (by simp),(q _ _ (by omega)).trans (by simp),?_⟩
  have:=hb.size
  simpa using this
theorem a0w (x lo hi : Int) (w : World) :
    Calls Tryz.prog 85 #[Vi Qi x,Vi Qi lo,Vi Qi hi] w fun e w' => e = .returned (.bool (inB x lo hi))/\w = w':=by
  by_cases h : lo<=x
  · go_enter Tryz.func85,Tryz.ntmps85
    go_wp2
    go_ret
    exact ⟨by simp [inB,h],rfl⟩
  · have h' : x < lo:=by omega
    go_enter Tryz.func85,Tryz.ntmps85
    go_wp2
    go_ret
    exact ⟨by simp [inB]; omega,rfl⟩
theorem a2m (aS aH aF aL : Option Addr) (nS nH nF nL cS cH cF cL : Nat) (now a : Int) (w : World) (hn : nS<=9223372036854775807) :
    Calls Tryz.prog 111 #[.agg #[Vs aS nS cS,Vs aH nH cH,Vs aF nF cF,Vs aL nL cL,Vi Qi now],Vi Qi a] w fun e w' => e = .returned (.bool (inB a 0 ((nS : Int) - 1)))/\Below w.heap.size w w':=by
  by_cases h : 0<=a
  · by_cases h2 : a < nS
    · go_enter Tryz.func111,Tryz.ntmps111
      go_wp2
      go_ret
      refine ⟨?_,a0c _ _⟩
      rw [show inB a 0 ((nS : Int) - 1) = true from (a0h _ _ _).2 ⟨h,by omega⟩]; rfl
    · have h3 : (nS : Int)<=a:=by omega
      go_enter Tryz.func111,Tryz.ntmps111
      go_wp2
      go_ret
      refine ⟨?_,a0c _ _⟩
      rw [show inB a 0 ((nS : Int) - 1) = false by simp [inB]; omega]; rfl
  · have h' : a < 0:=by omega
    go_enter Tryz.func111,Tryz.ntmps111
    go_wp2
    go_ret
    refine ⟨?_,a0c _ _⟩
    rw [show inB a 0 ((nS : Int) - 1) = false by simp [inB]; omega]; rfl
theorem a4s (aS aH aF aL : Option Addr) (nS nH nF nL cS cH cF cL : Nat) (now a : Int) (w : World) (hn : nS<=9223372036854775807) (hh : nH<=9223372036854775807) :
    Calls Tryz.prog 127 #[.agg #[Vs aS nS cS,Vs aH nH cH,Vs aF nF cF,Vs aL nL cL,Vi Qi now],Vi Qi a] w fun e w' => e = .returned (.bool (inB a (-(nH : Int)) nS))/\Below w.heap.size w w':=by
  go_enter Tryz.func127,Tryz.ntmps127
  go_wp2_with (go_at_call 85; refine (a0w _ _ _ _).mono ?_; rintro e w1 ⟨rfl,rfl⟩)
  go_ret
  exact ⟨rfl,a0c _ _⟩
theorem b1n (a b : Int) (w : World) :
    Calls Tryz.prog 138 #[.agg #[Vi Qi a,Vi Qi b]] w fun e w' => e = .returned (.agg #[Vi Qi a,Vi Qi b])/\(w.alloc (.cells #[Vi Qi a,Vi Qi b] 30)).alloc (.cells #[Vi Qi a,Vi Qi b] 175) = w':=by
  go_enter Tryz.func138,Tryz.ntmps138
  go_wp2
  exact bodyPost_ret (v:=.agg #[Vi Qi a,Vi Qi b]) (by simp [results,Tryz.results138,go_sem]) rfl ⟨rfl,rfl⟩
theorem a7l (a b : Int) (w : World) (h : keyB a b = true) :
    Calls Tryz.prog 96 #[.agg #[Vi Qi a,Vi Qi b]] w fun e w' => e = .returned (Vi Qi 0)/\Below w.heap.size w w':=by
  obtain ⟨⟨h0,h1⟩,h2,h3⟩:=(a9o a b).1 h
  clear h
  have i0 : ∀ w,(Instr.index 175 (.agg #[Vi Qi a,Vi Qi b]) (Vi Qi 0)).run Tryz.prog w = .ok (Vi Qi a) w:=fun _ => by kernel_rfl
  have i1 : ∀ w,(Instr.index 175 (.agg #[Vi Qi a,Vi Qi b]) (Vi Qi 1)).run Tryz.prog w = .ok (Vi Qi b) w:=fun _ => by kernel_rfl
  go_enter Tryz.func96,Tryz.ntmps96
  go_wp2_with (first | (go_at_call 138; refine (b1n _ _ _).mono ?_; rintro e w1 ⟨rfl,rfl⟩))
  refine wp_loop_rounds 3 ?_
  rw [rounds_succ]
  go_wp2
  rw [rounds_succ]
  go_wp2
  rw [rounds_succ]
  go_wp2
  go_ret
  refine ⟨rfl,?_⟩
  repeat (first | exact Below.refl _ _ | refine Below.alloc ?_ (by simp <;> omega) _)
theorem b2x (a b : Int) (w : World) (h : keyB a b = false) :
    Calls Tryz.prog 96 #[.agg #[Vi Qi a,Vi Qi b]] w fun e w' => e = .returned (Vi Qi 3)/\Below w.heap.size w w':=by
  have hc : a < 0\/(0<=a/\15 < a)\/(0<=a/\a<=15/\b < 0)\/(0<=a/\a<=15/\0<=b/\15 < b):=by
    have : ¬ ((0<=a/\a<=15)/\(0<=b/\b<=15)):=fun hh => by rw [(a9o a b).2 hh] at h; cases h
    omega
  clear h
  have i0 : ∀ w,(Instr.index 175 (.agg #[Vi Qi a,Vi Qi b]) (Vi Qi 0)).run Tryz.prog w = .ok (Vi Qi a) w:=fun _ => by kernel_rfl
  have i1 : ∀ w,(Instr.index 175 (.agg #[Vi Qi a,Vi Qi b]) (Vi Qi 1)).run Tryz.prog w = .ok (Vi Qi b) w:=fun _ => by kernel_rfl
  rcases hc with h | ⟨h1,h2⟩ | ⟨h1,h2,h3⟩ | ⟨h1,h2,h3,h4⟩
  all_goals
    go_enter Tryz.func96,Tryz.ntmps96
    go_wp2_with (first | (go_at_call 138; refine (b1n _ _ _).mono ?_; rintro e w1 ⟨rfl,rfl⟩))
    refine wp_loop_rounds 3 ?_
    rw [rounds_succ]
    go_wp2
    try (rw [rounds_succ]; go_wp2)
    go_ret
    refine ⟨rfl,?_⟩
    repeat (first | exact Below.refl _ _ | refine Below.alloc ?_ (by simp <;> omega) _)
theorem b7n (a b : Int) (w : World) :
    Calls Tryz.prog 96 #[.agg #[Vi Qi a,Vi Qi b]] w fun e w' => e = .returned (Vi Qi (if keyB a b then 0 else 3))/\Below w.heap.size w w':=by
  cases h : keyB a b
  · exact b2x a b w h
  · exact a7l a b w h
end
section
open Go.ChangeShapes Go.WideShapes Go.ChangeAt Go.RowKit
theorem a4k (b : Int) (w : World) (h0 : 0<=b) (h1 : b<=1000) : Calls Tryz.prog 108 #[Vi Qi b] w fun e w' => e = .returned (Vi Qi (-1 - b))/\w = w':=by
  go_enter Tryz.func108,Tryz.ntmps108
  go_wp2
  go_ret
  exact ⟨by go_num,rfl⟩
theorem b8r (b : Int) (w : World) (h0 : 0<=b) (h1 : b<=1000) : Calls Tryz.prog 214 #[Vi Qi b] w fun e w' => e = .returned (Vi Qi (b + 1))/\w = w':=by
  go_enter Tryz.func214,Tryz.ntmps214
  go_wp2
  go_ret
  exact ⟨by go_num,rfl⟩
theorem a7w (n : Int) (w : World) (h : n<=0) : Calls Tryz.prog 140 #[Vi Qi n] w fun e w' => e = .returned (.tuple #[Vi Qi 0,.bool false])/\w = w':=by
  go_enter Tryz.func140,Tryz.ntmps140
  go_wp2
  go_ret2
  exact ⟨rfl,rfl⟩
theorem a7v (n : Int) (w : World) (h : 0 < n) (h1 : n<=1000) : Calls Tryz.prog 140 #[Vi Qi n] w fun e w' => e = .returned (.tuple #[Vi Qi (n - 1),.bool true])/\w = w':=by
  go_enter Tryz.func140,Tryz.ntmps140
  go_wp2
  go_ret2
  exact ⟨by go_num,rfl⟩
theorem a3e (aS aH aF aL : Option Addr) (nS nH nF nL cS cH cF cL : Nat) (now a : Int) (w : World) (hn : nH<=9223372036854775807) :
    Calls Tryz.prog 97 #[.agg #[Vs aS nS cS,Vs aH nH cH,Vs aF nF cF,Vs aL nL cL,Vi Qi now],Vi Qi a] w fun e w' => e = .returned (.bool (inB a 0 ((nH : Int) - 1)))/\Below w.heap.size w w':=by
  by_cases h : 0<=a
  · by_cases h2 : a < nH
    · go_enter Tryz.func97,Tryz.ntmps97
      go_wp2
      go_ret
      refine ⟨?_,a0c _ _⟩
      rw [show inB a 0 ((nH : Int) - 1) = true from (a0h _ _ _).2 ⟨h,by omega⟩]; rfl
    · have h3 : (nH : Int)<=a:=by omega
      go_enter Tryz.func97,Tryz.ntmps97
      go_wp2
      go_ret
      refine ⟨?_,a0c _ _⟩
      rw [show inB a 0 ((nH : Int) - 1) = false by simp [inB]; omega]; rfl
  · have h' : a < 0:=by omega
    go_enter Tryz.func97,Tryz.ntmps97
    go_wp2
    go_ret
    refine ⟨?_,a0c _ _⟩
    rw [show inB a 0 ((nH : Int) - 1) = false by simp [inB]; omega]; rfl
theorem a3i {P : Program} (w : World) {ops : Array Oper} {o : Oper} {a : Act} {K : Act->World->Prop} {Q : Exit->Act->World->Prop} {E : Prop} (hgd : o.guard = none) (s x : Operand) (t : TypeId)
    (ho : o.op = .call { callee:=.builtin .append,args:=#[s,x],argTypes:=#[t,t] })
    (base : Nat) (e : TypeId) (i : TypeInfo) (z : Value) (size bytes : Nat) (ht : P.underlying t = some (.slice e)) (hi : P.info? e = some i) (hz : i.zero = some z)
    (hsize : i.size = size) (hby : i.bytes = bytes) (hzs : z.cells.size = size) (hsz : 0 < size)
    (v : Value) (n : Nat) (xs : List Value) (hs : a.eval s = v) (hown : w.ownsRow base e size v n xs)
    (ad : Addr) (m c : Nat) (news : List Value) (hx : a.eval x = Vs (some ad) m c) (hl : news.length = m * size) (hnews : ∀ j u,news[j]? = some u->w.cell? (ad.add j) = some u) (h1 : ∀ u ∈ news,u.oneCell' = true)
    (h63 : n + m<=maxLen) (hbytes : (n + m) * bytes<=140737488355328) (hbase : base<=w.heap.size)
    (h : ∀ v' w',w'.ownsRow base e size v' (n + m) (xs ++ news)->w.grownBy w' v.ownBlock->(v' = Vs none 0 0 ↔ v = Vs none 0 0/\m = 0)->(v'.ownBlock = v.ownBlock\/v'.ownBlock = some w.heap.size)->K (a.put o.dst v') w') :
    if Region.wanted o (yielded ops a.tmps) = true then Oper.wp P o a w K Q else E:=by
  have hw : Region.wanted o (yielded ops a.tmps) = true:=by simp [Region.wanted,hgd]
  rw [if_pos hw]
  obtain ⟨v',w',hr,h2,h3,h4,h5⟩:=run_append_own_at (P:=P) w base t o.type e i z size bytes ht hi hz hsize hby hzs hsz v n xs hown ad m c news hl hnews h1 h63 hbytes hbase
  unfold Oper.wp execOp
  simp only [ho,resolve,invoke,builtin,Sem.run_bind,Sem.run_pure,Result.andThen_ok,List.map_toArray,List.map_cons,List.map_nil,hs,hx,hr]
  exact h v' w' h2 h3 h4 h5
end
section
open Go.ChangeShapes Go.WideShapes Go.ChangeAt Go.RowKit
theorem has_snoc (l : List Int) (k : Nat) (h : k < l.length) (x : Int) (h0 : hasB (l.take k) x = false) (hx : ¬ x = l[k]) : hasB (l.take (k + 1)) x = false:=by
  rw [b2s] at h0 ⊢
  rw [List.take_succ_eq_append_getElem h,List.mem_append,List.mem_singleton]
  rintro (h | h)
  · exact h0 h
  · exact hx h
theorem has_hit (l : List Int) (k n : Nat) (h : k < l.length) (hk : k < n) (x : Int) (hx : x = l[k]) : hasB (l.take n) x = true:=by
  rw [a7j]
  subst hx
  have : (l.take n)[k]? = some l[k]:=by rw [List.getElem?_take_of_lt hk]; exact List.getElem?_eq_getElem h
  exact List.mem_of_getElem? this
set_option maxHeartbeats 400000 in
theorem c0m (ao : Option Addr) (n cap : Nat) (l : List Int) (x : Int) (w : World) (hn : n<=l.length) (hbig : n<=9223372036854775807)
    (hat : n = 0\/∃ b o,ao = some ⟨b,o,none⟩/\∀ i (h : i < l.length),w.cell? ⟨b,o + i,none⟩ = some (Vi Qi l[i])) :
    Calls Tryz.prog 78 #[Vs ao n cap,Vi Qi x] w fun e w' => ∃ i : Int,e = .returned (Vi Qi i)/\decide (0<=i) = hasB (l.take n) x/\w = w':=by
  rcases hat with rfl | ⟨b,o,rfl,hc⟩
  · go_enter Tryz.func78,Tryz.ntmps78
    go_wp2
    refine wp_loop_rounds 1 ?_
    rw [rounds_succ]
    go_wp2
    go_ret
    exact ⟨-1,rfl,by simp [hasB],rfl⟩
  · go_enter Tryz.func78,Tryz.ntmps78
    go_wp2
    go_loop [8] (fun i => ∃ k : Nat,k<=n/\i = Vi Qi k/\Hid (hasB (l.take k) x = false)) (fun i => n - (intOf i).toNat)
    case atStart => exact ⟨0,Nat.zero_le _,rfl,by show _ = _; simp [hasB]⟩
    case round =>
      obtain ⟨k,hk,rfl,HC⟩:=hrel
      by_cases hlt : k < n
      · have hkl : k < l.length:=by omega
        have hck:=hc k hkl
        clear hc
        by_cases hx : x = l[k]
        · have HH : Hid (hasB (l.take n) x = true):=has_hit l k n hkl hlt x hx
          generalize l[k] = y at hck hx
          subst hx
          go_wp2
          go_ret
          exact ⟨k,rfl,by rw [HH.out]; simp,rfl⟩
        · have HH : Hid (hasB (l.take (k + 1)) x = false):=has_snoc l k hkl x HC.out hx
          have hx' : (x == l[k]) = false:=by simpa using hx
          go_wp2
          go_round
          case rel => exact ⟨k + 1,by omega,by go_num,HH⟩
          case measure => simp [intOf]; omega
      · obtain rfl : k = n:=by omega
        go_wp2
        go_ret
        exact ⟨-1,rfl,by rw [HC.out]; rfl,rfl⟩
theorem a3o (ao : Option Addr) (n cap : Nat) (l : List Int) (x : Int) (w : World) (hn : n<=l.length) (hbig : n<=9223372036854775807)
    (hat : n = 0\/∃ b o,ao = some ⟨b,o,none⟩/\∀ i (h : i < l.length),w.cell? ⟨b,o + i,none⟩ = some (Vi Qi l[i])) :
    Calls Tryz.prog 33 #[Vs ao n cap,Vi Qi x] w fun e w' => e = .returned (.bool (hasB (l.take n) x))/\w = w':=by
  go_enter Tryz.func33,Tryz.ntmps33
  go_wp2_with (go_at_call 78; refine (c0m _ _ _ l _ _ hn hbig hat).mono ?_; rintro e w1 ⟨i,rfl,hd,rfl⟩)
  go_ret
  exact ⟨rfl,rfl⟩
end
section
open Go.ChangeShapes Go.WideShapes Go.ChangeAt Go.RowKit
theorem a1i {k : IntKind} {a b : Int} (h : a = b) : Ending.returned (.int k a) = .returned (.int k b):=by rw [h]
theorem a5r {α : Type} {f : α->Int} {l : List α} {k : Nat} (h : k < l.length) {e : Int} (he : f l[k] = e) (h0 : e ≠ 0) (H : a0l f l = a0l f (l.drop k)) : a0l f l = e:=by
  rw [H,a5k f l k h,he,if_pos h0]
theorem step_ok {α : Type} {f : α->Int} {l : List α} {k : Nat} (h : k < l.length) (he : f l[k] = 0) (H : a0l f l = a0l f (l.drop k)) : a0l f l = a0l f (l.drop (k + 1)):=by
  rw [H,a5k f l k h,he,if_neg (by simp)]
set_option maxHeartbeats 1600000 in
theorem b1c (M : Mm) (aS aH aF aL : Option Addr) (cS cH cF cL : Nat) (w : World) (A : At w aS aH aF aL cS cH cF cL M) :
    Calls Tryz.prog 86 #[.agg #[Vs aS M.slots.length cS,Vs aH M.heads.length cH,Vs aF M.free.length cF,Vs aL M.a0b.length cL,Vi Qi M.now]] w fun e w' =>
      e = .returned (Vi Qi (a0l (a2n M.heads.length M.slots.length) M.slots))/\Below w.heap.size w w':=by
  obtain ⟨S,H,F,L,now⟩:=M
  obtain ⟨rs,rh,rf,rl⟩:=A
  dsimp only at rs rh rf rl ⊢
  have m1:=rs.max; have m2:=rs.le; have m3:=rh.max; have m4:=rh.le
  have n1 : S.length<=9223372036854775807:=by omega
  have n2 : H.length<=9223372036854775807:=by omega
  obtain ⟨f,hf⟩ : ∃ f,f = a2n H.length S.length:=⟨_,rfl⟩
  have HF : Hid (f = a2n H.length S.length):=hf
  rw [<- hf]
  clear hf
  have hz:=rs.at_
  clear rh rf rl rs
  go_enter Tryz.func86,Tryz.ntmps86
  go_wp2
  rcases hz with h0 | ⟨b,o,rfl,hc⟩
  · have HE : Hid (a0l f S = 0):=by
      show _ = _
      rw [List.eq_nil_of_length_eq_zero h0]; rfl
    refine wp_loop_rounds 1 ?_
    rw [rounds_succ]
    go_wp2
    go_ret
    exact ⟨a1i HE.out.symm,a0c _ _⟩
  · go_loopw [9] (fun i wr => ∃ k : Nat,k<=S.length/\i = Vi Qi k/\Below (w.heap.size + 1) (w.alloc (.cells #[Vs (some ⟨b,o,none⟩) S.length cS,Vs aH H.length cH,Vs aF F.length cF,Vs aL L.length cL,Vi Qi now] 25)) wr/\Hid (a0l f S = a0l f (S.drop k)))
      (fun i _ => S.length - (intOf i).toNat)
    case atStart => exact ⟨0,Nat.zero_le _,rfl,Below.refl _ _,by show _ = _; rw [List.drop_zero]⟩
    case round =>
      obtain ⟨k,hk,rfl,hb,HE⟩:=hrel
      have hbw : Below w.heap.size w wr:=(a0c w _).trans (hb.mono (by omega))
      obtain ⟨q0,q1,q2,q3,q4,q5⟩:=a3f hb
      by_cases hlt : k < S.length
      · obtain ⟨c0,c1,c2,c3,c4,c5⟩:=hc k hlt
        have lt:=a0m c0
        obtain ⟨qc,-⟩:=a1z hbw
        rw [<- qc _ _ lt] at c0 c1 c2 c3 c4 c5
        clear hc qc
        have lt' : b < wr.heap.size:=a0m c0
        generalize hs : S[k] = s at c0 c1 c2 c3 c4 c5
        obtain ⟨r,a,bb,u,i,nx⟩:=s
        dsimp only at c0 c1 c2 c3 c4 c5
        have HS : Hid (S[k] = ⟨r,a,bb,u,i,nx⟩):=hs
        clear hs
        cases h1 : inB r 0 1000
        · have HV : Hid (a0l f S = 3):=a5r hlt (by rw [HS.out,HF.out]; simp [a2n,h1]) (by decide) HE.out
          go_wp2_with (go_at_call 85; refine (a0w _ _ _ _).mono ?_; rintro e w1 ⟨rfl,rfl⟩)
          go_ret
          exact ⟨a1i HV.out.symm,hbw.alloc hbw.size _⟩
        cases h2 : inB u 0 2000000
        · have HV : Hid (a0l f S = 3):=a5r hlt (by rw [HS.out,HF.out]; simp [a2n,h2]) (by decide) HE.out
          go_wp2_with (go_at_call 85; refine (a0w _ _ _ _).mono ?_; rintro e w1 ⟨rfl,rfl⟩)
          go_ret
          exact ⟨a1i HV.out.symm,hbw.alloc hbw.size _⟩
        cases h3 : keyB a bb
        · have HV : Hid (a0l f S = 3):=a5r hlt (by rw [HS.out,HF.out]; simp [a2n,h3]) (by decide) HE.out
          go_wp2_with (first | (go_at_call 85; refine (a0w _ _ _ _).mono ?_; rintro e w1 ⟨rfl,rfl⟩) | (go_at_call 96; refine (b2x _ _ _ h3).mono ?_; rintro e w1 ⟨rfl,hb1⟩))
          go_ret
          exact ⟨a1i HV.out.symm,(hbw.alloc hbw.size _).trans (hb1.mono (by have:=hbw.size; simp; omega))⟩
        go_wp2_with (go_at_call 85; refine (a0w _ _ _ _).mono ?_; rintro e w1 ⟨rfl,rfl⟩)
        refine (a7l _ _ _ h3).mono ?_
        rintro e w1 ⟨rfl,hb1⟩
        have hbx : Below w.heap.size w w1:=(hbw.alloc hbw.size _).trans (hb1.mono (by have:=hbw.size; simp; omega))
        have hby:=(hb.alloc q5 (.cells #[Vi Qi r,Vi Qi a,Vi Qi bb,Vi Qi u,.bool i,Vi Qi nx] 64)).trans (hb1.mono (by simp; omega))
        have s5 : w1.cell? ⟨wr.heap.size,5,none⟩ = some (Vi Qi nx):=((a1z hb1).1 _ _ (by simp)).trans (by simp)
        have z1 : wr.heap.size + 1<=w1.heap.size:=by have:=hb1.size; simpa using this
        clear hb1 c0 c1 c2 c3 c4 c5 q0 q1 q2 q3 q4
        obtain ⟨q0,q1,q2,q3,q4,-⟩:=a3f hby
        cases h4 : inB nx (-(H.length : Int)) S.length
        · have HV : Hid (a0l f S = 5):=a5r hlt (by rw [HS.out,HF.out]; simp [a2n,h1,h2,h3,h4]) (by decide) HE.out
          go_wp2_with (go_at_call 127; refine (a4s _ _ _ _ _ _ _ _ _ _ _ _ _ _ _ n1 n2).mono ?_; rintro e w2 ⟨rfl,hb2⟩)
          go_ret
          exact ⟨a1i HV.out.symm,hbx.trans (hb2.mono hbx.size)⟩
        · have HV : Hid (a0l f S = a0l f (S.drop (k + 1))):=step_ok hlt (by rw [HS.out,HF.out]; simp [a2n,h1,h2,h3,h4]) HE.out
          go_wp2_with (go_at_call 127; refine (a4s _ _ _ _ _ _ _ _ _ _ _ _ _ _ _ n1 n2).mono ?_; rintro e w2 ⟨rfl,hb2⟩)
          go_roundw
          case rel => exact ⟨k + 1,by omega,by go_num,hby.trans (hb2.mono (by omega)),HV⟩
          case measure => simp [intOf]; omega
      · have HV : Hid (a0l f S = 0):=by
          show _ = _
          rw [HE.out,a8l f S k (by omega)]
        go_wp2
        go_ret
        exact ⟨a1i HV.out.symm,hbw⟩
end
section
open Go.ChangeShapes Go.WideShapes Go.ChangeAt Go.RowKit
set_option maxHeartbeats 1600000 in
theorem b0a (M : Mm) (aS aH aF aL : Option Addr) (cS cH cF cL : Nat) (w : World) (A : At w aS aH aF aL cS cH cF cL M) (hl : M.a0b.length = M.heads.length) :
    Calls Tryz.prog 87 #[.agg #[Vs aS M.slots.length cS,Vs aH M.heads.length cH,Vs aF M.free.length cF,Vs aL M.a0b.length cL,Vi Qi M.now]] w fun e w' =>
      e = .returned (Vi Qi (a0l (a2f M.heads.length M.slots.length) (M.heads.zip M.a0b)))/\Below w.heap.size w w':=by
  obtain ⟨S,H,F,L,now⟩:=M
  obtain ⟨rs,rh,rf,rl⟩:=A
  dsimp only at rs rh rf rl hl ⊢
  have m1:=rs.max; have m2:=rs.le; have m3:=rh.max; have m4:=rh.le
  have n1 : S.length<=9223372036854775807:=by omega
  have n2 : H.length<=9223372036854775807:=by omega
  have hzl : (H.zip L).length = H.length:=by rw [List.length_zip]; omega
  obtain ⟨f,hf⟩ : ∃ f,f = a2f H.length S.length:=⟨_,rfl⟩
  have HF : Hid (f = a2f H.length S.length):=hf
  rw [<- hf]
  clear hf
  obtain ⟨Z,hZ⟩ : ∃ Z,Z = H.zip L:=⟨_,rfl⟩
  have HZ : Hid (Z = H.zip L):=hZ
  rw [<- hZ] at hzl ⊢
  clear hZ
  have HL : Hid (Z.length = H.length):=hzl
  have HLL : Hid (L.length = H.length):=hl
  clear hzl hl
  have hz:=rh.at_
  have hz2:=rl.at_
  clear rh rf rl rs
  go_enter Tryz.func87,Tryz.ntmps87
  go_wp2
  rcases hz with h0 | ⟨b,o,rfl,hc⟩
  · have HE : Hid (a0l f Z = 0):=by
      show _ = _
      rw [List.eq_nil_of_length_eq_zero (HL.out.trans h0)]; rfl
    refine wp_loop_rounds 1 ?_
    rw [rounds_succ]
    go_wp2
    go_ret
    exact ⟨a1i HE.out.symm,a0c _ _⟩
  · rcases hz2 with h0 | ⟨b2,o2,rfl,hc2⟩
    · have h0' : H.length = 0:=by rw [<- HLL.out]; exact h0
      have HE : Hid (a0l f Z = 0):=by
        show _ = _
        rw [List.eq_nil_of_length_eq_zero (HL.out.trans h0')]; rfl
      refine wp_loop_rounds 1 ?_
      rw [rounds_succ]
      go_wp2
      go_ret
      exact ⟨a1i HE.out.symm,a0c _ _⟩
    go_loopw [8] (fun i wr => ∃ k : Nat,k<=H.length/\i = Vi Qi k/\Below (w.heap.size + 1) (w.alloc (.cells #[Vs aS S.length cS,Vs (some ⟨b,o,none⟩) H.length cH,Vs aF F.length cF,Vs (some ⟨b2,o2,none⟩) L.length cL,Vi Qi now] 25)) wr/\Hid (a0l f Z = a0l f (Z.drop k)))
      (fun i _ => H.length - (intOf i).toNat)
    case atStart => exact ⟨0,Nat.zero_le _,rfl,Below.refl _ _,by show _ = _; rw [List.drop_zero]⟩
    case round =>
      obtain ⟨k,hk,rfl,hb,HE⟩:=hrel
      have hbw : Below w.heap.size w wr:=(a0c w _).trans (hb.mono (by omega))
      obtain ⟨q0,q1,q2,q3,q4,q5⟩:=a3f hb
      by_cases hlt : k < H.length
      · have hltL : k < L.length:=by have:=HLL.out; omega
        have hltZ : k < Z.length:=by have:=HL.out; omega
        have c0:=hc k hlt
        have d0:=hc2 k hltL
        have lt:=a0m c0
        have lt2:=a0m d0
        obtain ⟨qc,-⟩:=a1z hbw
        rw [<- qc _ _ lt] at c0
        rw [<- qc _ _ lt2] at d0
        clear hc hc2 qc
        generalize hx : H[k] = x at c0
        generalize hy : L[k] = y at d0
        have HS : Hid (Z[k] = (x,y)):=by
          show _ = _
          have e : Z[k]? = some (x,y):=by rw [HZ.out,List.getElem?_zip_eq_some]; exact ⟨by rw [List.getElem?_eq_getElem hlt,hx],by rw [List.getElem?_eq_getElem hltL,hy]⟩
          rw [List.getElem?_eq_getElem hltZ] at e
          exact Option.some.inj e
        clear hx hy
        by_cases hx0 : x = 0
        · have HV : Hid (a0l f Z = 5):=a5r hltZ (by rw [HS.out,HF.out]; simp [a2f,hx0]) (by decide) HE.out
          subst hx0
          go_wp2
          go_ret
          exact ⟨a1i HV.out.symm,hbw⟩
        have hx1 : (x == 0) = false:=by simpa using hx0
        cases h1 : inB x (-(H.length : Int)) S.length
        · have HV : Hid (a0l f Z = 5):=a5r hltZ (by rw [HS.out,HF.out]; simp [a2f,h1]) (by decide) HE.out
          go_wp2_with (go_at_call 127; refine (a4s _ _ _ _ _ _ _ _ _ _ _ _ _ _ _ n1 n2).mono ?_; rintro e w2 ⟨rfl,hb2⟩)
          go_ret
          exact ⟨a1i HV.out.symm,hbw.trans (hb2.mono hbw.size)⟩
        go_wp2_with fail
        refine (a4s _ _ _ _ _ _ _ _ _ _ _ _ _ _ _ n1 n2).mono ?_
        rintro e w2 ⟨rfl,hb2⟩
        have hbx:=hbw.trans (hb2.mono hbw.size)
        have hby:=hb.trans (hb2.mono q5)
        replace d0:=((a1z hb2).1 _ _ (a0m d0)).trans d0
        clear hb2 q0 q1 q2 q3 q4
        obtain ⟨q0,q1,q2,q3,q4,-⟩:=a3f hby
        cases h2 : inB y (-1) 4
        · have HV : Hid (a0l f Z = 3):=a5r hltZ (by rw [HS.out,HF.out]; simp [a2f,hx0,h1,h2]) (by decide) HE.out
          go_wp2_with (go_at_call 85; refine (a0w _ _ _ _).mono ?_; rintro e w1 ⟨rfl,rfl⟩)
          go_ret
          exact ⟨a1i HV.out.symm,hbx⟩
        · have HV : Hid (a0l f Z = a0l f (Z.drop (k + 1))):=step_ok hltZ (by rw [HS.out,HF.out]; simp [a2f,hx0,h1,h2]) HE.out
          go_wp2_with (go_at_call 85; refine (a0w _ _ _ _).mono ?_; rintro e w1 ⟨rfl,rfl⟩)
          go_roundw
          case rel => exact ⟨k + 1,by omega,by go_num,hby,HV⟩
          case measure => simp [intOf]; omega
      · have HV : Hid (a0l f Z = 0):=by
          show _ = _
          rw [HE.out,a8l f Z k (by have:=HL.out; omega)]
        go_wp2
        go_ret
        exact ⟨a1i HV.out.symm,hbw⟩
end
section
open Go.ChangeShapes Go.WideShapes Go.ChangeAt Go.RowKit
theorem c0c {S : List Sl} {a : Int} {k : Nat} (h : k < S.length) (ha : a = k) : a4e S a = decide (S[k].refs = 0):=by
  subst ha
  simp [a4e,h]
theorem b9z {S : List Sl} {a : Int} (h : inB a 0 ((S.length : Int) - 1) = false) : a4e S a = false:=by
  have : ¬ (0<=a/\a<=(S.length : Int) - 1):=fun hh => by rw [(a0h _ _ _).2 hh] at h; cases h
  rw [Bool.eq_false_iff]
  intro hh
  rw [a2a] at hh
  omega
theorem a8u (ao : Option Addr) (cap : Nat) (l : List Int) (x : Int) (w : World) (r : IRow w ao cap l) :
    Calls Tryz.prog 33 #[Vs ao l.length cap,Vi Qi x] w fun e w' => e = .returned (.bool (hasB l x))/\w = w':=by
  have:=a3o ao l.length cap l x w (Nat.le_refl _) (by have:=r.max; omega) r.at_
  rwa [List.take_length] at this
theorem b1o {S : List Sl} {F : List Int} {k : Nat} (h : k < F.length) (h0 : a4e S F[k] = false) (H : a1d S [] F = a1d S (F.take k) (F.drop k)) : a1d S [] F = 5:=by
  rw [H,a6d S F k h,h0]; rfl
theorem b7h {S : List Sl} {F : List Int} {k : Nat} (h : k < F.length) (h0 : a4e S F[k] = true) (h1 : hasB (F.take k) F[k] = true) (H : a1d S [] F = a1d S (F.take k) (F.drop k)) : a1d S [] F = 6:=by
  rw [H,a6d S F k h,h0,h1]; rfl
theorem b9u {S : List Sl} {F : List Int} {k : Nat} (h : k < F.length) (h0 : a4e S F[k] = true) (h1 : hasB (F.take k) F[k] = false) (H : a1d S [] F = a1d S (F.take k) (F.drop k)) : a1d S [] F = a1d S (F.take (k + 1)) (F.drop (k + 1)):=by
  rw [H,a6d S F k h,h0,h1]; rfl
theorem b7w {S : List Sl} {F : List Int} {k : Nat} (h : k < S.length) (h0 : S[k].refs = 0) (h1 : hasB F (k : Int) = false) (H : a1p F 0 S = a1p F k (S.drop k)) : a1p F 0 S = 4:=by
  rw [H,a8y F S k h,h0,h1]; rfl
theorem b4e {S : List Sl} {F : List Int} {k : Nat} (h : k < S.length) (h0 : S[k].refs ≠ 0\/hasB F (k : Int) = true) (H : a1p F 0 S = a1p F k (S.drop k)) : a1p F 0 S = a1p F (k + 1) (S.drop (k + 1)):=by
  rw [H,a8y F S k h]
  rcases h0 with h0 | h0
  · rw [if_neg (by simp [h0])]
  · rw [if_neg (by simp [h0])]
set_option maxHeartbeats 3200000 in
theorem b2m (M : Mm) (aS aH aF aL : Option Addr) (cS cH cF cL : Nat) (w : World) (A : At w aS aH aF aL cS cH cF cL M) :
    Calls Tryz.prog 88 #[.agg #[Vs aS M.slots.length cS,Vs aH M.heads.length cH,Vs aF M.free.length cF,Vs aL M.a0b.length cL,Vi Qi M.now]] w fun e w' =>
      e = .returned (Vi Qi (if a1d M.slots [] M.free ≠ 0 then a1d M.slots [] M.free else a1p M.free 0 M.slots))/\Below w.heap.size w w':=by
  obtain ⟨S,H,F,L,now⟩:=M
  obtain ⟨rs,rh,rf,rl⟩:=A
  dsimp only at rs rh rf rl ⊢
  have m1:=rs.max; have m2:=rs.le; have m3:=rf.max; have m4:=rf.le
  have n1 : S.length<=9223372036854775807:=by omega
  have n2 : F.length<=9223372036854775807:=by omega
  obtain ⟨Z,hZ⟩ : ∃ Z : Int,Z = (if a1d S [] F ≠ 0 then a1d S [] F else a1p F 0 S):=⟨_,rfl⟩
  have HZ : Hid (Z = (if a1d S [] F ≠ 0 then a1d S [] F else a1p F 0 S)):=hZ
  rw [<- hZ]
  clear hZ
  have HRS : Hid (SRow w aS cS S):=rs
  have HRF : Hid (IRow w aF cF F):=rf
  clear rh rf rl rs
  go_enter Tryz.func88,Tryz.ntmps88
  go_wp2
  go_loopw [10] (fun i wr => ∃ k : Nat,k<=F.length/\i = Vi Qi k/\Below (w.heap.size + 1) (w.alloc (.cells #[Vs aS S.length cS,Vs aH H.length cH,Vs aF F.length cF,Vs aL L.length cL,Vi Qi now] 25)) wr/\Hid (a1d S [] F = a1d S (F.take k) (F.drop k)))
    (fun i _ => F.length - (intOf i).toNat)
  case atStart => exact ⟨0,Nat.zero_le _,rfl,Below.refl _ _,by show _ = _; rw [List.drop_zero,List.take_zero]⟩
  case round =>
    obtain ⟨k,hk,rfl,hb,HE⟩:=hrel
    have hbw : Below w.heap.size w wr:=(a0c w _).trans (hb.mono (by omega))
    obtain ⟨q0,q1,q2,q3,q4,q5⟩:=a3f hb
    by_cases hlt : k < F.length
    · rcases HRF.out.at_ with h0 | ⟨b,o,rfl,hc⟩
      · omega
      have c0:=hc k hlt
      have lt:=a0m c0
      rw [<- (a1z hbw).1 _ _ lt] at c0
      generalize hx : F[k] = x at c0
      have HX : Hid (F[k] = x):=hx
      clear hx
      cases h1 : inB x 0 ((S.length : Int) - 1)
      · have HV : Hid (Z = 5):=by
          show _ = _
          rw [HZ.out,b1o hlt (by rw [HX.out]; exact b9z h1) HE.out]; rfl
        go_wp2_with (go_at_call 111; refine (a2m _ _ _ _ _ _ _ _ _ _ _ _ _ _ _ n1).mono ?_; rintro e w2 ⟨rfl,hb2⟩)
        go_ret
        exact ⟨a1i HV.out.symm,hbw.trans (hb2.mono hbw.size)⟩
      have hxb:=(a0h _ _ _).1 h1
      obtain ⟨j,rfl⟩ : ∃ j : Nat,x = j:=⟨x.toNat,by omega⟩
      have hj : j < S.length:=by omega
      rcases HRS.out.at_ with h0 | ⟨b2,o2,rfl,hc2⟩
      · omega
      have d0:=(hc2 j hj).1
      have lt2:=a0m d0
      rw [<- (a1z hbw).1 _ _ lt2] at d0
      generalize hr : S[j].refs = r at d0
      have HOK : Hid (a4e S (F[k]'hlt) = decide (r = 0)):=by
        show _ = _
        rw [HX.out,c0c hj rfl,hr]
      clear hr hc2
      go_wp2_with fail
      refine (a2m _ _ _ _ _ _ _ _ _ _ _ _ _ _ _ n1).mono ?_
      rintro e w2 ⟨rfl,hb2⟩
      have hbx:=hbw.trans (hb2.mono hbw.size)
      have hby:=hb.trans (hb2.mono q5)
      replace d0:=((a1z hb2).1 _ _ (a0m d0)).trans d0
      clear hb2 q0 q1 q2 q3 q4 c0
      obtain ⟨q0,q1,q2,q3,q4,-⟩:=a3f hby
      by_cases hr0 : r = 0
      · subst hr0
        have HAT : Hid (k = 0\/∃ b' o',(some ⟨b,o,none⟩ : Option Addr) = some ⟨b',o',none⟩/\∀ i (h : i < F.length),w2.cell? ⟨b',o' + i,none⟩ = some (Vi Qi F[i])) :=
          .inr ⟨b,o,rfl,fun i hi => ((a1z hbx).1 _ _ (a0m (hc i hi))).trans (hc i hi)⟩
        clear hc
        cases h2 : hasB (F.take k) j
        · have HV : Hid (a1d S [] F = a1d S (F.take (k + 1)) (F.drop (k + 1))):=b9u hlt (by rw [HOK.out]; rfl) (by rw [HX.out]; exact h2) HE.out
          go_wp2_with (go_at_call 33; refine (a3o _ _ _ F _ _ hk (by omega) HAT.out).mono ?_; rintro e w1 ⟨rfl,rfl⟩)
          go_roundw
          case rel => exact ⟨k + 1,by omega,by go_num,hby,HV⟩
          case measure => simp [intOf]; omega
        · have HV : Hid (Z = 6):=by
            show _ = _
            rw [HZ.out,b7h hlt (by rw [HOK.out]; rfl) (by rw [HX.out]; exact h2) HE.out]; rfl
          go_wp2_with (go_at_call 33; refine (a3o _ _ _ F _ _ hk (by omega) HAT.out).mono ?_; rintro e w1 ⟨rfl,rfl⟩)
          go_ret
          exact ⟨a1i HV.out.symm,hbx⟩
      · have hr1 : (r != 0) = true:=by simpa using hr0
        have HV : Hid (Z = 5):=by
          show _ = _
          rw [HZ.out,b1o hlt (by rw [HOK.out]; simpa using hr0) HE.out]; rfl
        go_wp2
        go_ret
        exact ⟨a1i HV.out.symm,hbx⟩
    · have HZ2 : Hid (Z = a1p F 0 S):=by
        show _ = _
        rw [HZ.out,HE.out,b5b S F k (by omega)]; rfl
      clear HZ HE
      go_wp2
      go_loopw [38] (fun i wr => ∃ k : Nat,k<=S.length/\i = Vi Qi k/\Below (w.heap.size + 1) (w.alloc (.cells #[Vs aS S.length cS,Vs aH H.length cH,Vs aF F.length cF,Vs aL L.length cL,Vi Qi now] 25)) wr/\Hid (a1p F 0 S = a1p F k (S.drop k)))
        (fun i _ => S.length - (intOf i).toNat)
      case atStart => exact ⟨0,Nat.zero_le _,rfl,hb,by show _ = _; rw [List.drop_zero]⟩
      case round =>
        obtain ⟨k2,hk2,rfl,hb3,HE⟩:=hrel
        clear hbw hb q0 q1 q2 q3 q4 q5
        have hbw : Below w.heap.size w wr:=(a0c w _).trans (hb3.mono (by omega))
        obtain ⟨q0,q1,q2,q3,q4,q5⟩:=a3f hb3
        have q6 : w.heap.size < wr.heap.size:=q5
        by_cases hlt2 : k2 < S.length
        · rcases HRS.out.at_ with h0 | ⟨b,o,rfl,hc⟩
          · omega
          obtain ⟨c0,c1,c2,c3,c4,c5⟩:=hc k2 hlt2
          have lt:=a0m c0
          rw [<- (a1z hbw).1 _ _ lt] at c0 c1 c2 c3 c4 c5
          clear hc
          generalize hs : S[k2] = s at c0 c1 c2 c3 c4 c5
          obtain ⟨r,a,bb,u,i,nx⟩:=s
          dsimp only at c0 c1 c2 c3 c4 c5
          have HS : Hid (S[k2] = ⟨r,a,bb,u,i,nx⟩):=hs
          clear hs
          have hbx:=hbw.alloc hbw.size (.cells #[Vi Qi r,Vi Qi a,Vi Qi bb,Vi Qi u,.bool i,Vi Qi nx] 64)
          have hby:=hb3.alloc q5 (.cells #[Vi Qi r,Vi Qi a,Vi Qi bb,Vi Qi u,.bool i,Vi Qi nx] 64)
          have HRF2 : Hid _:=HRF.out.below hbx
          by_cases hr0 : r = 0
          · subst hr0
            cases h2 : hasB F k2
            · have HV : Hid (Z = 4):=by
                show _ = _
                rw [HZ2.out,b7w hlt2 (by rw [HS.out]) h2 HE.out]
              go_wp2_with (go_at_call 33; refine (a8u _ _ F _ _ HRF2.out).mono ?_; rintro e w1 ⟨rfl,rfl⟩)
              go_ret
              exact ⟨a1i HV.out.symm,hbx⟩
            · have HV : Hid (a1p F 0 S = a1p F (k2 + 1) (S.drop (k2 + 1))):=b4e hlt2 (.inr h2) HE.out
              go_wp2_with (go_at_call 33; refine (a8u _ _ F _ _ HRF2.out).mono ?_; rintro e w1 ⟨rfl,rfl⟩)
              go_roundw
              case rel => exact ⟨k2 + 1,by omega,by go_num,hby,HV⟩
              case measure => simp [intOf]; omega
          · have hr1 : (r == 0) = false:=by simpa using hr0
            have HV : Hid (a1p F 0 S = a1p F (k2 + 1) (S.drop (k2 + 1))):=b4e hlt2 (.inl (by rw [HS.out]; exact hr0)) HE.out
            go_wp2
            go_roundw
            case rel => exact ⟨k2 + 1,by omega,by go_num,hby,HV⟩
            case measure => simp [intOf]; omega
        · have HV : Hid (Z = 0):=by
            show _ = _
            rw [HZ2.out,HE.out,b5f F S k2 (by omega)]
          go_wp2
          go_ret
          exact ⟨a1i HV.out.symm,hbw⟩
end
section
open Go.ChangeShapes Go.WideShapes Go.ChangeAt Go.RowKit
set_option maxHeartbeats 1600000 in
theorem b3o (M : Mm) (aS aH aF aL : Option Addr) (cS cH cF cL : Nat) (w : World) (A : At w aS aH aF aL cS cH cF cL M) :
    Calls Tryz.prog 40 #[.agg #[Vs aS M.slots.length cS,Vs aH M.heads.length cH,Vs aF M.free.length cF,Vs aL M.a0b.length cL,Vi Qi M.now]] w fun e w' =>
      e = .returned (Vi Qi (chk M))/\Below w.heap.size w w':=by
  have m1:=A.s.max; have m2:=A.s.le; have m3:=A.h.max; have m4:=A.h.le; have m5:=A.l.max; have m6:=A.l.le
  have n1 : M.slots.length<=9223372036854775807:=by omega
  have n2 : M.heads.length<=9223372036854775807:=by omega
  have n3 : M.a0b.length<=9223372036854775807:=by omega
  clear m1 m2 m3 m4 m5 m6
  by_cases h1 : 12 < M.slots.length
  · have HV : Hid (chk M = 2):=by show _ = _; unfold chk; rw [if_pos (.inl h1)]
    go_enter Tryz.func40,Tryz.ntmps40
    go_wp2
    go_ret
    exact ⟨a1i HV.out.symm,a0c _ _⟩
  cases h2 : inB (M.heads.length : Int) 1 4
  · have HV : Hid (chk M = 2):=by
      show _ = _; unfold chk
      have : ¬ (1<=(M.heads.length : Int)/\(M.heads.length : Int)<=4):=fun hh => by rw [(a0h _ _ _).2 hh] at h2; cases h2
      rw [if_pos (by omega)]
    go_enter Tryz.func40,Tryz.ntmps40
    go_wp2_with (go_at_call 85; refine (a0w _ _ _ _).mono ?_; rintro e w1 ⟨rfl,rfl⟩)
    go_ret
    exact ⟨a1i HV.out.symm,a0c _ _⟩
  have h2':=(a0h _ _ _).1 h2
  by_cases h3 : M.a0b.length = M.heads.length
  rotate_left
  · have HV : Hid (chk M = 4):=by
      show _ = _; unfold chk
      rw [if_neg (by omega),if_pos h3]
    have h3' : ((M.a0b.length : Int) != (M.heads.length : Int)) = true:=by rw [bne_iff_ne]; omega
    go_enter Tryz.func40,Tryz.ntmps40
    go_wp2_with (go_at_call 85; refine (a0w _ _ _ _).mono ?_; rintro e w1 ⟨rfl,rfl⟩)
    go_ret
    exact ⟨a1i HV.out.symm,a0c _ _⟩
  have h3' : ((M.a0b.length : Int) != (M.heads.length : Int)) = false:=by rw [h3]; simp
  have H3 : Hid (M.a0b.length = M.heads.length):=h3
  clear h3
  cases h4 : inB M.now 0 1000000
  · have HV : Hid (chk M = 3):=by
      show _ = _; unfold chk
      rw [if_neg (by omega),if_neg (by simpa using H3.out),if_pos h4]
    go_enter Tryz.func40,Tryz.ntmps40
    go_wp2_with (go_at_call 85; refine (a0w _ _ _ _).mono ?_; rintro e w1 ⟨rfl,rfl⟩)
    go_ret
    exact ⟨a1i HV.out.symm,a0c _ _⟩
  have HC : Hid (chk M = (if a0l (a2n M.heads.length M.slots.length) M.slots ≠ 0 then a0l (a2n M.heads.length M.slots.length) M.slots
      else if a0l (a2f M.heads.length M.slots.length) (M.heads.zip M.a0b) ≠ 0 then a0l (a2f M.heads.length M.slots.length) (M.heads.zip M.a0b)
      else if a1d M.slots [] M.free ≠ 0 then a1d M.slots [] M.free
      else a1p M.free 0 M.slots)):=by
    show _ = _
    unfold chk
    rw [if_neg (by omega),if_neg (by simpa using H3.out),if_neg (by rw [h4]; simp)]
  have A1:=A.below (a0c w (.cells #[Vs aS M.slots.length cS,Vs aH M.heads.length cH,Vs aF M.free.length cF,Vs aL M.a0b.length cL,Vi Qi M.now] 25))
  have HA1 : Hid _:=A1
  clear A A1
  go_enter Tryz.func40,Tryz.ntmps40
  go_wp2_with (go_at_call 85; refine (a0w _ _ _ _).mono ?_; rintro e w1 ⟨rfl,rfl⟩)
  refine (b1c M aS aH aF aL cS cH cF cL _ HA1.out).mono ?_
  rintro e w1 ⟨rfl,hb1⟩
  have HA2 : Hid _:=HA1.out.below hb1
  have hx1:=(a0c w (.cells #[Vs aS M.slots.length cS,Vs aH M.heads.length cH,Vs aF M.free.length cF,Vs aL M.a0b.length cL,Vi Qi M.now] 25)).trans (hb1.mono (by simp))
  have hy1:=hb1.mono (show w.heap.size + 1<=_ by simp)
  clear hb1 HA1
  obtain ⟨q0,q1,q2,q3,q4,q5⟩:=a3f hy1
  generalize hE1 : a0l (a2n M.heads.length M.slots.length) M.slots = E1
  have HE1 : Hid _:=hE1
  clear hE1
  by_cases e1 : E1 = 0
  rotate_left
  · have e1' : (E1 != 0) = true:=by simpa using e1
    have HV : Hid (chk M = E1):=by
      show _ = _
      rw [HC.out,HE1.out,if_pos e1]
    go_wp2
    go_ret
    exact ⟨a1i HV.out.symm,hx1⟩
  subst e1
  go_wp2_with fail
  refine (b0a M aS aH aF aL cS cH cF cL _ HA2.out H3.out).mono ?_
  rintro e w2 ⟨rfl,hb2⟩
  have HA3 : Hid _:=HA2.out.below hb2
  have hx2:=hx1.trans (hb2.mono hx1.size)
  have hy2:=hy1.trans (hb2.mono q5)
  clear hb2 HA2 q0 q1 q2 q3 q4 q5
  obtain ⟨q0,q1,q2,q3,q4,q5⟩:=a3f hy2
  generalize hE2 : a0l (a2f M.heads.length M.slots.length) (M.heads.zip M.a0b) = E2
  have HE2 : Hid _:=hE2
  clear hE2
  by_cases e2 : E2 = 0
  rotate_left
  · have e2' : (E2 != 0) = true:=by simpa using e2
    have HV : Hid (chk M = E2):=by
      show _ = _
      rw [HC.out,HE1.out,HE2.out,if_neg (by simp),if_pos e2]
    go_wp2
    go_ret
    exact ⟨a1i HV.out.symm,hx2⟩
  subst e2
  go_wp2_with fail
  refine (b2m M aS aH aF aL cS cH cF cL _ HA3.out).mono ?_
  rintro e w3 ⟨rfl,hb3⟩
  have hx3:=hx2.trans (hb3.mono hx2.size)
  generalize hE3 : (if a1d M.slots [] M.free ≠ 0 then a1d M.slots [] M.free else a1p M.free 0 M.slots) = E3
  have HV : Hid (chk M = E3):=by
    show _ = _
    rw [HC.out,HE1.out,HE2.out,if_neg (by simp),if_neg (by simp),hE3]
  clear hE3
  go_wp2
  go_ret
  exact ⟨a1i HV.out.symm,hx3⟩
end
section
open Go.ChangeShapes Go.WideShapes Go.ChangeAt Go.RowKit Go.Maps
theorem wf64 {x : Int} (h0 : -9223372036854775808<=x) (h1 : x<=9223372036854775807) : (Lit.int .i64 x).wf = true:=by
  have e1 : IntKind.i64.min = -9223372036854775808:=by decide
  have e2 : IntKind.i64.max = 9223372036854775807:=by decide
  simp [Lit.wf,e1,e2]
  omega
end
section
open Go.ChangeShapes Go.WideShapes Go.ChangeAt Go.RowKit Go.Maps
theorem b3j (a b : Int) (n : Nat) (w : World) (hk : keyB a b = true) (n0 : 1<=n) (n1 : n<=4) :
    Calls Tryz.prog 49 #[.agg #[.int .i64 a,.int .i64 b],.int .i64 n] w fun e w' => e = .returned (.tuple #[.int .i64 (a2z a b n),.int .i64 0])/\Below w.heap.size w w':=by
  obtain ⟨⟨h0,h1⟩,h2,h3⟩:=(a9o a b).1 hk
  have hab0 : 0<=a * b:=Int.mul_nonneg h0 h2
  have hab1 : a * b<=15 * 15:=Int.mul_le_mul h1 h3 h2 (by omega)
  have e1 : wrap64 (a * b) = a * b:=by unfold wrap64; omega
  have e2 : wrap64 (7 * a + 3 * b + a * b) = 7 * a + 3 * b + a * b:=by unfold wrap64; omega
  have e3 : (7 * a + 3 * b + a * b).tmod n = (7 * a + 3 * b + a * b) % n:=Int.tmod_eq_emod_of_nonneg (by omega)
  have H1 : Hid ((wrap64 (7 * a + 3 * b + wrap64 (a * b))).tmod n = a2z a b n):=by rw [e1,e2,e3]; trivial
  clear e1 e2 e3 hab0 hab1
  have HK : Hid (keyB a b = true):=hk
  clear hk
  go_enter Tryz.func49,Tryz.ntmps49
  go_wp2_with fail
  refine (a7l _ _ _ HK.out).mono ?_
  rintro e w1 ⟨rfl,hb1⟩
  have c0 : w1.cell? ⟨w.heap.size,0,none⟩ = some (.int .i64 a):=(hb1.cell (p:=⟨w.heap.size,0,none⟩) (by simp)).trans (by simp)
  have c1 : w1.cell? ⟨w.heap.size,1,none⟩ = some (.int .i64 b):=(hb1.cell (p:=⟨w.heap.size,1,none⟩) (by simp)).trans (by simp)
  go_wp2
  go_ret2
  refine ⟨?_,((Below.refl _ _).alloc (Nat.le_refl _) _).trans (hb1.mono (by simp))⟩
  show Ending.returned (.tuple #[.int .i64 ((wrap64 (7 * a + 3 * b + wrap64 (a * b))).tmod n),.int .i64 0]) = _
  rw [H1.out]
theorem b7e (a b : Int) (n : Int) (w : World) (h : keyB a b = false) :
    Calls Tryz.prog 49 #[.agg #[.int .i64 a,.int .i64 b],.int .i64 n] w fun e w' => e = .returned (.tuple #[.int .i64 0,.int .i64 3])/\Below w.heap.size w w':=by
  go_enter Tryz.func49,Tryz.ntmps49
  go_wp2_with (first | (go_at_call 96; refine (b2x _ _ _ h).mono ?_; rintro e w1 ⟨rfl,hb1⟩))
  go_ret2
  exact ⟨rfl,((Below.refl _ _).alloc (Nat.le_refl _) _).trans (hb1.mono (by simp))⟩
theorem laid : laidOutB Tryz.prog = true:=by kernel_rfl
theorem row37 : (30 : TypeId) < Tryz.prog.types.size:=of_decide_eq_true (by kernel_rfl)
theorem wide37 : (match Tryz.prog.underlying 30 with | some (.array _ _) | some (.struct _) => true | _ => false) = true:=by rw [Tryz.underlying30]
theorem law37 : Keyed Tryz.prog 30:=Keyed.of_law (deep_law_laid laid (m:=3) (by omega) row37 (by kernel_rfl) wide37)
theorem b6w : Tryz.prog.underlying 121 = some (.map 30 3):=by kernel_rfl
theorem zero3 (w : World) : (zeroValue 3).run Tryz.prog w = .ok (.int .i64 0) w:=by kernel_rfl
theorem c0n : Tryz.prog.keyType 30 = true:=by kernel_rfl
theorem b6j : Tryz.prog.cellsOf 30 = 2:=by kernel_rfl
theorem kcells3 : Tryz.prog.cellsOf 3 = 1:=by kernel_rfl
theorem ksize : ∃ m,Tryz.prog.types.size = m + 1:=by
  have h : 0 < Tryz.prog.types.size:=Nat.lt_of_le_of_lt (Nat.zero_le _) (show 30 < Tryz.prog.types.size from row37)
  exact ⟨Tryz.prog.types.size - 1,by omega⟩
def kl (k : Int × Int) : Lit:=.string (keyBytes [.int .i64 k.1,.int .i64 k.2])
theorem a9p {a b : Int} (wa : (Lit.int .i64 a).wf = true) (wb : (Lit.int .i64 b).wf = true) : keyOf Tryz.prog 30 (.agg #[.int .i64 a,.int .i64 b]) = some (kl (a,b)):=by
  obtain ⟨m,hm⟩:=ksize
  unfold keyOf
  simp only [Tryz.underlying30]
  rw [if_pos (by simp [c0n,Value.formed,Tryz.underlying30,b6j]),hm]
  unfold Program.keyLits
  simp only [Tryz.underlying30,Value.cells]
  rw [if_pos (by rw [b6j]; exact ⟨rfl,by kernel_rfl⟩)]
  simp [kcells3,Program.keyLits,Tryz.underlying3,wa,wb,kl]
theorem a6e {a b : Int} (h : keyB a b = true) : (Lit.int .i64 a).wf = true/\(Lit.int .i64 b).wf = true:=by
  obtain ⟨⟨h0,h1⟩,h2,h3⟩:=(a9o a b).1 h
  exact ⟨wf64 (by omega) (by omega),wf64 (by omega) (by omega)⟩
theorem kl_inj {k k' : Int × Int} (h : keyB k.1 k.2 = true) (h' : keyB k'.1 k'.2 = true) (e : kl k = kl k') : k = k':=by
  have h1:=a9p (a6e h).1 (a6e h).2
  have h2:=a9p (a6e h').1 (a6e h').2
  have : (k.1,k.2) = k:=rfl
  rw [this] at h1
  have : (k'.1,k'.2) = k':=rfl
  rw [this,<- e] at h2
  have:=law37.inj h1 h2
  simp at this
  exact Prod.ext this.1 this.2
def MapAt (M : Mm) (w : World) (g : Nat) (all : List Int) : Prop :=
  ∃ n,n<=all.length/\∃ D : DataW Unit,w.ownsMap Tryz.prog 30 (plainElem Tryz.prog 3) g n D/\∀ k : Int × Int,keyB k.1 k.2 = true->D.atKey (kl k) (.lit (.int .i64 0)) = .lit (.int .i64 (whoK M all k))/\Maps.has D (kl k) = hasK M all k
theorem MapAt.made (M : Mm) (w : World) : MapAt M (w.alloc (.map #[] 0)) w.heap.size [] :=
  ⟨0,Nat.le_refl _,_,World.ownsMap_made w Tryz.prog 30 _,fun k hk => ⟨by simp [whoK,DataW.atKey],by simp [hasK,Maps.has]⟩⟩
theorem MapAt.kept {M : Mm} {w w' : World} {g : Nat} {l : List Int} (h : MapAt M w g l) (hb : w'.heap[g]? = w.heap[g]?) : MapAt M w' g l:=by
  obtain ⟨n,hn,D,⟨es,clock,hg,F,hs,hD⟩,hat⟩:=h
  exact ⟨n,hn,D,⟨es,clock,hb.trans hg,F,hs,hD⟩,hat⟩
theorem MapAt.lt {M : Mm} {w : World} {g : Nat} {l : List Int} (h : MapAt M w g l) : g < w.heap.size:=by
  obtain ⟨n,hn,D,⟨es,clock,hg,F,hs,hD⟩,hat⟩:=h
  exact lt_of_block hg
theorem MapAt.look {M : Mm} {w : World} {g : Nat} {l : List Int} (h : MapAt M w g l) {a b : Int} (hk : keyB a b = true) : (Instr.lookup 121 (.map (some g)) (.agg #[.int .i64 a,.int .i64 b]) true).run Tryz.prog w = .ok (.tuple #[.int .i64 (whoK M l (a,b)),.bool (hasK M l (a,b))]) w:=by
  obtain ⟨n,hn,D,ho,hat⟩:=h
  have hw0 : (Lit.int .i64 0).wf = true:=by decide
  obtain ⟨v,ps,hrun,hv⟩:=ho.look_ok law37 b6w (zero3 w) (plainElem_int Tryz.underlying3 hw0) (a9p (a6e hk).1 (a6e hk).2)
  rw [(hat (a,b) hk).1] at hv
  obtain ⟨c,rfl,hc,hwc⟩:=_root_.Go.plainElem_int_inv Tryz.underlying3 hv
  rw [hrun,(hat (a,b) hk).2]
  injection hc with h1 h2
  injection h1 with h1
  injection h1 with _ h1
  rw [h1]
theorem c2w {M : Mm} {l : List Int} {a : Int} {k : Int × Int} (h : hasK M l (a0t M a) = false) : whoK M (l ++ [a]) k = if k = a0t M a then a else whoK M l k:=by
  unfold whoK
  rw [List.find?_append]
  by_cases e : k = a0t M a
  · subst e
    rw [if_pos rfl]
    have : l.find? (fun x => a0t M x == a0t M a) = none:=by
      rw [List.find?_eq_none]
      intro x hx hh
      rw [beq_iff_eq] at hh
      have:=(a5l M l (a0t M a)).2 (by rw [<- hh]; exact List.mem_map_of_mem hx)
      rw [h] at this
      cases this
    rw [this]
    simp
  · rw [if_neg e]
    have : [a].find? (fun x => a0t M x == k) = none:=by
      simp only [List.find?_cons,List.find?_nil]
      rw [show (a0t M a == k) = false by simpa using fun hh => e (Eq.symm hh)]
    rw [this]
    simp
theorem c0g (M : Mm) (l : List Int) (a : Int) (k : Int × Int) : hasK M (l ++ [a]) k = (hasK M l k || decide (k = a0t M a)):=by
  rw [Bool.eq_iff_iff,a5l,List.map_append,List.mem_append,Bool.or_eq_true,a5l]
  simp
theorem MapAt.put {M : Mm} {w' : World} {g n : Nat} {l : List Int} {D : DataW Unit} {a : Int} (hn : n<=l.length) (ht : IsMap D) (hat : ∀ k : Int × Int,keyB k.1 k.2 = true->D.atKey (kl k) (.lit (.int .i64 0)) = .lit (.int .i64 (whoK M l k))/\Maps.has D (kl k) = hasK M l k)
    (hk : keyB (a0d M a).a (a0d M a).b = true) (h0 : hasK M l (a0t M a) = false)
    (h : w'.ownsMap Tryz.prog 30 (plainElem Tryz.prog 3) g (n + 1) (D.put (kl (a0t M a)) (.lit (.int .i64 a)))) : MapAt M w' g (l ++ [a]):=by
  refine ⟨n + 1,by simp; omega,_,h,fun k hk' => ?_⟩
  have hkl : WideAt.IsKeyLit (kl (a0t M a)):=by simp [kl,WideAt.IsKeyLit]
  rw [c2w h0,c0g]
  by_cases e : k = a0t M a
  · subst e
    rw [atKey_put_same ht hkl,has_put_same ht hkl]
    simp
  · have hne : kl k ≠ kl (a0t M a):=fun hh => e (kl_inj hk' hk hh)
    rw [atKey_put_other hne,has_put_other hne,(hat k hk').1,(hat k hk').2]
    simp [e]
end
section
open Go.ChangeShapes Go.WideShapes Go.ChangeAt Go.RowKit Go.Joins
def Sl.enc (s : Sl) : List Value:=[Vi Qi s.refs,Vi Qi s.a,Vi Qi s.b,Vi Qi s.unt,.bool s.inn,Vi Qi s.next]
def encS (l : List Sl) : List Value:=l.flatMap Sl.enc
def encI (l : List Int) : List Value:=l.map (Value.int .i64)
theorem a2g (s : Sl) (l : List Sl) : encS (s :: l) = s.enc ++ encS l:=by simp [encS]
theorem a4n (l : List Sl) : (encS l).length = l.length * 6:=by
  induction l with
  | nil => rfl
  | cons s l ih => rw [a2g,List.length_append,ih]; simp [Sl.enc]; omega
theorem a3u (l : List Int) : (encI l).length = l.length:=by simp [encI]
theorem a9j (l : List Sl) (i q : Nat) (h : i < l.length) (hq : q < 6) : (encS l)[i * 6 + q]? = (l[i].enc)[q]?:=by
  induction l generalizing i with
  | nil => simp at h
  | cons s l ih =>
    rw [a2g]
    match i with
    | 0 =>
      rw [List.getElem?_append_left (by simp [Sl.enc]; omega)]
      simp
    | i + 1 =>
      rw [List.getElem?_append_right (by simp [Sl.enc]; omega)]
      have hl : s.enc.length = 6:=rfl
      rw [hl,show (i + 1) * 6 + q - 6 = i * 6 + q by omega,ih i (by simpa using h)]
      simp
theorem encS_one (l : List Sl) : ∀ u ∈ encS l,u.oneCell' = true:=by
  intro u hu
  simp only [encS,List.mem_flatMap,Sl.enc,List.mem_cons,List.not_mem_nil,or_false] at hu
  obtain ⟨s,_,h | h | h | h | h | h⟩:=hu <;> (subst h; rfl)
theorem b6a (l : List Int) : ∀ u ∈ encI l,u.oneCell' = true:=by
  intro u hu
  simp only [encI,List.mem_map] at hu
  obtain ⟨s,_,rfl⟩:=hu; rfl
theorem SRow.flat {w : World} {b o cap : Nat} {S : List Sl} (r : SRow w (some ⟨b,o,none⟩) cap S) : ∀ j u,(encS S)[j]? = some u->w.cell? ((⟨b,o,none⟩ : Addr).add j) = some u:=by
  intro j u hu
  have hj : j < S.length * 6:=by
    rw [<- a4n]
    exact (List.getElem?_eq_some_iff.1 hu).1
  rcases r.at_ with h0 | ⟨b',o',e,hc⟩
  · omega
  cases e
  have hi : j / 6 < S.length:=by omega
  have e6 : j / 6 * 6 + j % 6 = j:=by omega
  have hq : j % 6 < 6:=by omega
  obtain ⟨c0,c1,c2,c3,c4,c5⟩:=hc (j / 6) hi
  rw [<- e6,a9j S _ _ hi hq] at hu
  rw [Addr.add_lit,<- e6]
  generalize j / 6 = i at *
  generalize j % 6 = q at *
  rw [<- Nat.add_assoc]
  simp only [Sl.enc] at hu
  match q,hq with
  | 0,_ => simp at hu; subst hu; exact c0
  | 1,_ => simp at hu; subst hu; exact c1
  | 2,_ => simp at hu; subst hu; exact c2
  | 3,_ => simp at hu; subst hu; exact c3
  | 4,_ => simp at hu; subst hu; exact c4
  | 5,_ => simp at hu; subst hu; exact c5
theorem IRow.flat {w : World} {b o cap : Nat} {l : List Int} (r : IRow w (some ⟨b,o,none⟩) cap l) : ∀ j u,(encI l)[j]? = some u->w.cell? ((⟨b,o,none⟩ : Addr).add j) = some u:=by
  intro j u hu
  have hj : j < l.length:=by
    rw [<- a3u]
    exact (List.getElem?_eq_some_iff.1 hu).1
  rcases r.at_ with h0 | ⟨b',o',e,hc⟩
  · omega
  cases e
  simp only [encI,List.getElem?_map,List.getElem?_eq_getElem hj,Option.map_some,Option.some.injEq] at hu
  subst hu
  rw [Addr.add_lit]
  exact hc j hj
theorem SRow.src {w : World} {ao : Option Addr} {cap : Nat} {S : List Sl} (r : SRow w ao cap S) : ∀ ad,ao = some ad->∀ j u,(encS S)[j]? = some u->w.cell? (ad.add j) = some u:=by
  rintro ad rfl j u hu
  rcases r.at_ with h0 | ⟨b,o,e,hc⟩
  · have:=(List.getElem?_eq_some_iff.1 hu).1
    rw [a4n] at this
    omega
  · cases e
    exact r.flat j u hu
theorem IRow.src {w : World} {ao : Option Addr} {cap : Nat} {l : List Int} (r : IRow w ao cap l) : ∀ ad,ao = some ad->∀ j u,(encI l)[j]? = some u->w.cell? (ad.add j) = some u:=by
  rintro ad rfl j u hu
  rcases r.at_ with h0 | ⟨b,o,e,hc⟩
  · have:=(List.getElem?_eq_some_iff.1 hu).1
    rw [a3u] at this
    omega
  · cases e
    exact r.flat j u hu
theorem SRow.a7r {w : World} {b cap : Nat} {S : List Sl} (hl : S.length<=cap) (hm : S.length * 48<=140737488351232) (hc : ∀ j,j < S.length * 6->w.cell? ⟨b,j,none⟩ = (encS S)[j]?) : SRow w (some ⟨b,0,none⟩) cap S:=by
  refine ⟨hl,hm,(fun h => by cases h),.inr ⟨b,0,rfl,fun i hi => ?_⟩⟩
  have e : ∀ q,q < 6->w.cell? ⟨b,0 + i * 6 + q,none⟩ = (S[i].enc)[q]?:=fun q hq => by
    rw [Nat.zero_add,hc _ (by omega),a9j S i q hi hq]
  exact ⟨e 0 (by omega),e 1 (by omega),e 2 (by omega),e 3 (by omega),e 4 (by omega),e 5 (by omega)⟩
theorem IRow.a7r {w : World} {b cap : Nat} {l : List Int} (hl : l.length<=cap) (hm : l.length * 8<=140737488351232) (hc : ∀ j,j < l.length->w.cell? ⟨b,j,none⟩ = (encI l)[j]?) : IRow w (some ⟨b,0,none⟩) cap l:=by
  refine ⟨hl,hm,(fun h => by cases h),.inr ⟨b,0,rfl,fun i hi => ?_⟩⟩
  rw [Nat.zero_add,hc i hi]
  simp [encI,hi]
theorem SRow.a6h {w : World} {base n : Nat} {v : Value} {S : List Sl} (h : w.ownsRow base 64 6 v n (encS S)) (hm : S.length * 48<=140737488351232) : ∃ ao cap,v = Vs ao S.length cap/\SRow w ao cap S:=by
  have hl:=h.1
  rw [a4n] at hl
  have hn : S.length = n:=by omega
  subst hn
  rcases h.2 with ⟨rfl,h0⟩ | ⟨g,cap,cur,rfl,hg,hb,hc,-,hs,ht⟩
  · exact ⟨none,0,by rw [h0],by omega,hm,fun _ => rfl,.inl h0⟩
  · exact ⟨_,_,rfl,.a7r hc hm fun j hj => h.cellAt j hj⟩
theorem IRow.a6h {w : World} {base n : Nat} {v : Value} {l : List Int} (h : w.ownsRow base 3 1 v n (encI l)) (hm : l.length * 8<=140737488351232) : ∃ ao cap,v = Vs ao l.length cap/\IRow w ao cap l:=by
  have hl:=h.1
  rw [a3u] at hl
  have hn : l.length = n:=by omega
  subst hn
  rcases h.2 with ⟨rfl,h0⟩ | ⟨g,cap,cur,rfl,hg,hb,hc,-,hs,ht⟩
  · exact ⟨none,0,by rw [h0],by omega,hm,fun _ => rfl,.inl h0⟩
  · exact ⟨_,_,rfl,.a7r hc hm fun j hj => h.cellAt j (by omega)⟩
theorem iI : (Tryz.prog.info? 3).map (fun i => (i.zero,i.size,i.bytes)) = some (some (Vi Qi 0),1,8):=by kernel_rfl
theorem iS : (Tryz.prog.info? 64).map (fun i => (i.zero,i.size,i.bytes)) = some (some (.agg #[Vi Qi 0,Vi Qi 0,Vi Qi 0,Vi Qi 0,.bool false,Vi Qi 0]),6,48):=by kernel_rfl
theorem own_below {w w' : World} {lo size n : Nat} {e : TypeId} {v : Value} {xs : List Value} (h : w.ownsRow lo e size v n xs) (hb : Below w.heap.size w w') : w'.ownsRow lo e size v n xs :=
  h.kept (row:=none) ⟨hb.os,hb.tape,hb.output,hb.size,fun k hk _ => hb.block k hk⟩ (by cases hv : v.ownBlock <;> simp)
set_option maxHeartbeats 800000 in
theorem b7r (ad : Addr) (cap : Nat) (l : List Int) (w : World) (r : IRow w (some ad) cap l) :
    Calls Tryz.prog 103 #[Vs (some ad) l.length cap] w fun e w' => e = .returned (Vs (some ⟨w.heap.size,0,none⟩) l.length l.length)/\w'.ownsRow w.heap.size 3 1 (Vs (some ⟨w.heap.size,0,none⟩) l.length l.length) l.length (encI l)/\Below w.heap.size w w':=by
  obtain ⟨i0,hi,hz0,hz1,hz2⟩:=info_parts iI
  have m1:=r.max
  have m2:=r.le
  have HS : Hid _:=r.src
  have HN : Hid _:=r.nil
  clear r
  have q24 : ∀ (w : World) (a : Option Addr) (n c : Nat),(binOp .eql 23 (Vs a n c) (Vs none 0 0)).run Tryz.prog w = .ok (.bool a.isNone) w:=fun w a n c => Lib.run_eql_slice_nil w _ _ a n c 0 0 Tryz.underlying23
  go_enter Tryz.func103,Tryz.ntmps103
  go_wp2_with (first
    | (at_make; refine wpList_make_own _ rfl _ _ 23 rfl w.heap.size 3 i0 (Vi Qi 0) 1 Tryz.underlying23 hi hz0 hz1 .i64 .i64 _ l.length rfl rfl rfl (by rw [hz2]; omega) (by unfold maxLen; omega) (Nat.le_refl _) ?_; intro w1 hown hgrow)
    | (at_builtin; refine wpList_append_fits_any _ rfl _ _ 23 rfl w.heap.size 3 i0 1 Tryz.underlying23 hi hz1 w.heap.size 0 l.length _ rfl hown (some ad) l.length cap (encI l) rfl (by rw [a3u]; omega) (fun h => by have:=HN.out h; omega) (fun ad h j u hj => hgrow.cell (HS.out ad h j u hj) (by intro hh; cases hh)) (b6a l) (by omega) ?_; intro w2 hown2 hgrow2))
  go_ret
  simp only [Nat.zero_add,List.nil_append] at hown2
  refine ⟨by simp,hown2,?_⟩
  have:=((Below.refl w.heap.size w).grown hgrow (Nat.le_refl _) (fun k h => by cases h))
  exact this.grown hgrow2 hgrow.size (fun k h => by cases h; exact Nat.le_refl _)
set_option maxHeartbeats 800000 in
theorem b7t (ad : Addr) (cap : Nat) (l : List Sl) (w : World) (r : SRow w (some ad) cap l) :
    Calls Tryz.prog 141 #[Vs (some ad) l.length cap] w fun e w' => e = .returned (Vs (some ⟨w.heap.size,0,none⟩) l.length l.length)/\w'.ownsRow w.heap.size 64 6 (Vs (some ⟨w.heap.size,0,none⟩) l.length l.length) l.length (encS l)/\Below w.heap.size w w':=by
  obtain ⟨i0,hi,hz0,hz1,hz2⟩:=info_parts iS
  have m1:=r.max
  have m2:=r.le
  have HS : Hid _:=r.src
  have HN : Hid _:=r.nil
  clear r
  have q27 : ∀ (w : World) (a : Option Addr) (n c : Nat),(binOp .eql 22 (Vs a n c) (Vs none 0 0)).run Tryz.prog w = .ok (.bool a.isNone) w:=fun w a n c => Lib.run_eql_slice_nil w _ _ a n c 0 0 Tryz.underlying22
  go_enter Tryz.func141,Tryz.ntmps141
  go_wp2_with (first
    | (at_make; refine wpList_make_own _ rfl _ _ 22 rfl w.heap.size 64 i0 (.agg #[Vi Qi 0,Vi Qi 0,Vi Qi 0,Vi Qi 0,.bool false,Vi Qi 0]) 6 Tryz.underlying22 hi hz0 hz1 .i64 .i64 _ l.length rfl rfl rfl (by rw [hz2]; omega) (by unfold maxLen; omega) (Nat.le_refl _) ?_; intro w1 hown hgrow)
    | (at_builtin; refine wpList_append_fits_any _ rfl _ _ 22 rfl w.heap.size 64 i0 6 Tryz.underlying22 hi hz1 w.heap.size 0 l.length _ rfl hown (some ad) l.length cap (encS l) rfl (a4n l) (fun h => by have:=HN.out h; omega) (fun ad h j u hj => hgrow.cell (HS.out ad h j u hj) (by intro hh; cases hh)) (encS_one l) (by omega) ?_; intro w2 hown2 hgrow2))
  go_ret
  simp only [Nat.zero_add,List.nil_append] at hown2
  refine ⟨by simp,hown2,?_⟩
  have:=((Below.refl w.heap.size w).grown hgrow (Nat.le_refl _) (fun k h => by cases h))
  exact this.grown hgrow2 hgrow.size (fun k h => by cases h; exact Nat.le_refl _)
theorem b7q (w : World) : Calls Tryz.prog 103 #[Vs none 0 0] w fun e w' => e = .returned (Vs none 0 0)/\w = w':=by
  have q24 : ∀ (w : World) (a : Option Addr) (n c : Nat),(binOp .eql 23 (Vs a n c) (Vs none 0 0)).run Tryz.prog w = .ok (.bool a.isNone) w:=fun w a n c => Lib.run_eql_slice_nil w _ _ a n c 0 0 Tryz.underlying23
  go_enter Tryz.func103,Tryz.ntmps103
  go_wp2
  go_ret
  exact ⟨rfl,rfl⟩
theorem b7s (w : World) : Calls Tryz.prog 141 #[Vs none 0 0] w fun e w' => e = .returned (Vs none 0 0)/\w = w':=by
  have q27 : ∀ (w : World) (a : Option Addr) (n c : Nat),(binOp .eql 22 (Vs a n c) (Vs none 0 0)).run Tryz.prog w = .ok (.bool a.isNone) w:=fun w a n c => Lib.run_eql_slice_nil w _ _ a n c 0 0 Tryz.underlying22
  go_enter Tryz.func141,Tryz.ntmps141
  go_wp2
  go_ret
  exact ⟨rfl,rfl⟩
theorem a7n (ao : Option Addr) (cap : Nat) (l : List Int) (w : World) (r : IRow w ao cap l) :
    Calls Tryz.prog 103 #[Vs ao l.length cap] w fun e w' => ∃ a c,e = .returned (Vs a l.length c)/\w'.ownsRow w.heap.size 3 1 (Vs a l.length c) l.length (encI l)/\Below w.heap.size w w':=by
  cases ao with
  | some ad =>
    refine (b7r ad cap l w r).mono ?_
    rintro e w' ⟨rfl,h1,h2⟩
    exact ⟨_,_,rfl,h1,h2⟩
  | none =>
    have hc:=r.nil rfl
    have hl : l = []:=List.eq_nil_of_length_eq_zero (by have:=r.le; omega)
    subst hc hl
    refine (b7q w).mono ?_
    rintro e w' ⟨rfl,rfl⟩
    exact ⟨_,_,rfl,World.ownsRow_nil _ _ _ _,Below.refl _ _⟩
theorem c0u (ao : Option Addr) (cap : Nat) (l : List Sl) (w : World) (r : SRow w ao cap l) :
    Calls Tryz.prog 141 #[Vs ao l.length cap] w fun e w' => ∃ a c,e = .returned (Vs a l.length c)/\w'.ownsRow w.heap.size 64 6 (Vs a l.length c) l.length (encS l)/\Below w.heap.size w w':=by
  cases ao with
  | some ad =>
    refine (b7t ad cap l w r).mono ?_
    rintro e w' ⟨rfl,h1,h2⟩
    exact ⟨_,_,rfl,h1,h2⟩
  | none =>
    have hc:=r.nil rfl
    have hl : l = []:=List.eq_nil_of_length_eq_zero (by have:=r.le; omega)
    subst hc hl
    refine (b7s w).mono ?_
    rintro e w' ⟨rfl,rfl⟩
    exact ⟨_,_,rfl,World.ownsRow_nil _ _ _ _,Below.refl _ _⟩
end
section
open Go.ChangeShapes Go.WideShapes Go.ChangeAt Go.RowKit Go.Joins
structure Ex where
  rs : List Value
  rt : TypeId
  ne : ∀ t ∈ [(3 : TypeId),64 ,30 ,47 ,61 ],t ≠ rt
variable {Xb : Ex}
@[reducible] def X0 : Ex:=⟨[],25,by decide⟩
theorem boxf {w : World} {B : Nat} {v0 v1 v2 v3 v4 : Value} {rs : List Value} {t : TypeId} (h : w.heap[B]? = some (.cells (List.toArray (v0 :: v1 :: v2 :: v3 :: v4 :: rs)) t (0,0))) :
    w.cell? ⟨B,0,none⟩ = some v0/\w.cell? ⟨B,1,none⟩ = some v1/\w.cell? ⟨B,2,none⟩ = some v2/\w.cell? ⟨B,3,none⟩ = some v3/\w.cell? ⟨B,4,none⟩ = some v4 /\
    w.frozen? ⟨B,0,none⟩ = false/\w.frozen? ⟨B,1,none⟩ = false/\w.frozen? ⟨B,2,none⟩ = false/\w.frozen? ⟨B,3,none⟩ = false/\w.frozen? ⟨B,4,none⟩ = false/\B < w.heap.size :=
  ⟨by rw [cell_of_block h]; rfl,by rw [cell_of_block h]; rfl,by rw [cell_of_block h]; rfl,by rw [cell_of_block h]; rfl,by rw [cell_of_block h]; rfl,
    unfrozen_of_block h _,unfrozen_of_block h _,unfrozen_of_block h _,unfrozen_of_block h _,unfrozen_of_block h _,lt_of_block h⟩
def Dj (v v' : Value) : Prop:=∀ g,v.ownBlock = some g->v'.ownBlock ≠ some g
theorem Dj.symm {v v' : Value} (h : Dj v v') : Dj v' v:=fun g e e' => h g e' e
theorem a2c {w : World} {lo size n : Nat} {e : TypeId} {v : Value} {xs : List Value} (h : w.ownsRow lo e size v n xs) : ∃ ao cap,v = Vs ao n cap:=by
  rcases ownsRow_forms h with ⟨rfl,rfl⟩ | ⟨g,cap,rfl⟩
  · exact ⟨_,_,rfl⟩
  · exact ⟨_,_,rfl⟩
theorem c1l {w : World} {lo size n g : Nat} {e : TypeId} {v : Value} {xs : List Value} (h : w.ownsRow lo e size v n xs) (hg : v.ownBlock = some g) : ∃ cur,w.heap[g]? = some (.cells cur e (0,0)):=by
  rcases h.2 with ⟨rfl,_⟩ | ⟨g',cap,cur,rfl,_,hb,_⟩
  · cases hg
  · cases hg
    exact ⟨_,hb⟩
theorem own_ne {w : World} {lo size n B : Nat} {e t : TypeId} {v : Value} {xs : List Value} {cs : Array Value} (h : w.ownsRow lo e size v n xs) (hB : w.heap[B]? = some (.cells cs t (0,0))) (ne : e ≠ t) : v.ownBlock ≠ some B:=by
  intro hg
  obtain ⟨cur,hc⟩:=c1l h hg
  rw [hB] at hc
  injection hc with hc
  injection hc with _ hc
  exact ne hc.symm
theorem a4i {w : World} {lo size n lo' size' n' : Nat} {e e' : TypeId} {v v' : Value} {xs xs' : List Value} (h : w.ownsRow lo e size v n xs) (h' : w.ownsRow lo' e' size' v' n' xs') (ne : e ≠ e') : Dj v v':=by
  intro g hg hg'
  obtain ⟨cur,hc⟩:=c1l h hg
  exact own_ne h' hc (Ne.symm ne) hg'
theorem Dj.grown {w : World} {v u u' : Value} (h : Dj v u) (hv : ∀ g,v.ownBlock = some g->g < w.heap.size) (hloc : u'.ownBlock = u.ownBlock\/u'.ownBlock = some w.heap.size) : Dj v u':=by
  intro g hg hg'
  rcases hloc with e | e
  · exact h g hg (e ▸ hg')
  · have:=hv g hg
    rw [e] at hg'
    injection hg' with hg'
    omega
theorem Dj.ne {v u : Value} (h : Dj v u) : v.ownBlock = none\/v.ownBlock ≠ u.ownBlock:=by
  cases hv : v.ownBlock with
  | none => exact .inl rfl
  | some g => exact .inr (fun e => h g hv e.symm)
theorem b1m {a b : Option Addr} {n c m d n' c' m' d' : Nat} (h : Dj (Vs a n c) (Vs b m d)) : Dj (Vs a n' c') (Vs b m' d'):=by
  cases a <;> cases b <;> exact h
structure Hi4 (lo : Nat) (aS aH aF aL : Option Addr) : Prop where
  s : ∀ ad,aS = some ad->lo<=ad.block
  h : ∀ ad,aH = some ad->lo<=ad.block
  f : ∀ ad,aF = some ad->lo<=ad.block
  l : ∀ ad,aL = some ad->lo<=ad.block
theorem hi_some {lo g : Nat} (h : lo<=g) : ∀ ad,(some ⟨g,0,none⟩ : Option Addr) = some ad->lo<=ad.block:=by
  rintro ad ⟨⟩
  exact h
def Ans (lo : Nat) (w : World) (v : Value) (M : Mm) : Prop :=
  ∃ aS aH aF aL cS cH cF cL,v = .agg #[Vs aS M.slots.length cS,Vs aH M.heads.length cH,Vs aF M.free.length cF,Vs aL M.a0b.length cL,Vi Qi M.now]/\At w aS aH aF aL cS cH cF cL M/\Hi4 lo aS aH aF aL
theorem Hi4.mono {lo lo' : Nat} {aS aH aF aL : Option Addr} (h : Hi4 lo aS aH aF aL) (hl : lo'<=lo) : Hi4 lo' aS aH aF aL :=
  ⟨fun a e => Nat.le_trans hl (h.s a e),fun a e => Nat.le_trans hl (h.h a e),fun a e => Nat.le_trans hl (h.f a e),fun a e => Nat.le_trans hl (h.l a e)⟩
theorem Ans.below {lo : Nat} {w w' : World} {v : Value} {M : Mm} (h : Ans lo w v M) (hb : Below w.heap.size w w') : Ans lo w' v M:=by
  obtain ⟨aS,aH,aF,aL,cS,cH,cF,cL,e,A,hi⟩:=h
  exact ⟨aS,aH,aF,aL,cS,cH,cF,cL,e,A.below hb,hi⟩
theorem Ans.mono {lo lo' : Nat} {w : World} {v : Value} {M : Mm} (h : Ans lo w v M) (hl : lo'<=lo) : Ans lo' w v M:=by
  obtain ⟨aS,aH,aF,aL,cS,cH,cF,cL,e,A,hi⟩:=h
  exact ⟨aS,aH,aF,aL,cS,cH,cF,cL,e,A,hi.mono hl⟩
def set5 (w : World) (g : Nat) (v0 v1 v2 v3 v4 : Value) : World :=
  ((((w.setCell ⟨g,0,none⟩ v0).setCell ⟨g,1,none⟩ v1).setCell ⟨g,2,none⟩ v2).setCell ⟨g,3,none⟩ v3).setCell ⟨g,4,none⟩ v4
theorem b8e {w : World} {g : Nat} {u0 u1 u2 u3 u4 : Value} {rs : List Value} {t : TypeId} (h : w.heap[g]? = some (.cells (List.toArray (u0 :: u1 :: u2 :: u3 :: u4 :: rs)) t (0,0))) (v0 v1 v2 v3 v4 : Value) : (set5 w g v0 v1 v2 v3 v4).heap[g]? = some (.cells (List.toArray (v0 :: v1 :: v2 :: v3 :: v4 :: rs)) t (0,0)):=by
  have:=block_setCell (i:=4) (block_setCell (i:=3) (block_setCell (i:=2) (block_setCell (i:=1) (block_setCell (i:=0) h v0) v1) v2) v3) v4
  rw [set5,this]
  simp
theorem b1y {w : World} {g k : Nat} {v0 v1 v2 v3 v4 : Value} (h : k ≠ g) : (set5 w g v0 v1 v2 v3 v4).heap[k]? = w.heap[k]?:=by
  unfold set5
  repeat rw [Below.heap_setCell _ _ _ _ (by dsimp only; exact h)]
theorem a8r (w : World) (g B : Nat) (v0 v1 v2 v3 v4 : Value) (h : B<=g) : Below B w (set5 w g v0 v1 v2 v3 v4):=by
  unfold set5
  iterate 5 (refine Below.setCell ?_ (by dsimp only; exact h) _)
  exact Below.refl _ _
theorem b4m (w : World) (g : Nat) (v0 v1 v2 v3 v4 : Value) : (set5 w g v0 v1 v2 v3 v4).heap.size = w.heap.size:=by simp [set5]
theorem a9s {w : World} {lo size n g : Nat} {e : TypeId} {v : Value} {xs : List Value} (h : w.ownsRow lo e size v n xs) (hne : v.ownBlock ≠ some g) (v0 v1 v2 v3 v4 : Value) : (set5 w g v0 v1 v2 v3 v4).ownsRow lo e size v n xs:=by
  unfold set5
  iterate 5 (refine ownsRow_setCell_other ?_ hne _)
  exact h
theorem SRow.off {w w' : World} {ao : Option Addr} {cap : Nat} {l : List Sl} (r : SRow w ao cap l) (g : Nat) (hg : ∀ ad,ao = some ad->ad.block ≠ g) (h : ∀ k,k ≠ g->w'.heap[k]? = w.heap[k]?) : SRow w' ao cap l:=by
  refine ⟨r.le,r.max,r.nil,?_⟩
  rcases r.at_ with h0 | ⟨b,o,e,hc⟩
  · exact .inl h0
  · by_cases h0 : l.length = 0
    · exact .inl h0
    refine .inr ⟨b,o,e,fun i hi => ?_⟩
    have q : ∀ x,w'.cell? ⟨b,x,none⟩ = w.cell? ⟨b,x,none⟩:=fun x => World.cell?_of_block (a:=⟨b,x,none⟩) (h b (hg _ e))
    rw [q,q,q,q,q,q]
    exact hc i hi
theorem IRow.off {w w' : World} {ao : Option Addr} {cap : Nat} {l : List Int} (r : IRow w ao cap l) (g : Nat) (hg : ∀ ad,ao = some ad->ad.block ≠ g) (h : ∀ k,k ≠ g->w'.heap[k]? = w.heap[k]?) : IRow w' ao cap l:=by
  refine ⟨r.le,r.max,r.nil,?_⟩
  rcases r.at_ with h0 | ⟨b,o,e,hc⟩
  · exact .inl h0
  · by_cases h0 : l.length = 0
    · exact .inl h0
    refine .inr ⟨b,o,e,fun i hi => ?_⟩
    rw [World.cell?_of_block (a:=⟨b,o + i,none⟩) (h b (hg _ e))]
    exact hc i hi
theorem At.off {w w' : World} {aS aH aF aL : Option Addr} {cS cH cF cL lo g : Nat} {M : Mm} (A : At w aS aH aF aL cS cH cF cL M) (hi : Hi4 lo aS aH aF aL) (hg : g < lo) (h : ∀ k,k ≠ g->w'.heap[k]? = w.heap[k]?) : At w' aS aH aF aL cS cH cF cL M :=
  ⟨A.s.off g (fun ad e => by have:=hi.s ad e; omega) h,A.h.off g (fun ad e => by have:=hi.h ad e; omega) h,A.f.off g (fun ad e => by have:=hi.f ad e; omega) h,A.l.off g (fun ad e => by have:=hi.l ad e; omega) h⟩
structure Rw (w : World) (lo : Nat) (aS aH aF aL : Option Addr) (cS cH cF cL : Nat) (M : Mm) : Prop where
  s : w.ownsRow lo 64 6 (Vs aS M.slots.length cS) M.slots.length (encS M.slots)
  h : w.ownsRow lo 3 1 (Vs aH M.heads.length cH) M.heads.length (encI M.heads)
  f : w.ownsRow lo 3 1 (Vs aF M.free.length cF) M.free.length (encI M.free)
  l : w.ownsRow lo 3 1 (Vs aL M.a0b.length cL) M.a0b.length (encI M.a0b)
  hf : Dj (Vs aH M.heads.length cH) (Vs aF M.free.length cF)
  hl : Dj (Vs aH M.heads.length cH) (Vs aL M.a0b.length cL)
  fl : Dj (Vs aF M.free.length cF) (Vs aL M.a0b.length cL)
  lz : lo<=w.heap.size
theorem Rw.below {w w' : World} {lo : Nat} {aS aH aF aL : Option Addr} {cS cH cF cL : Nat} {M : Mm} (r : Rw w lo aS aH aF aL cS cH cF cL M) (hb : Below w.heap.size w w') : Rw w' lo aS aH aF aL cS cH cF cL M :=
  ⟨own_below r.s hb,own_below r.h hb,own_below r.f hb,own_below r.l hb,r.hf,r.hl,r.fl,Nat.le_trans r.lz hb.size⟩
theorem Rw.set5 {w : World} {lo B : Nat} {aS aH aF aL : Option Addr} {cS cH cF cL : Nat} {M : Mm} {cs : Array Value} (r : Rw w lo aS aH aF aL cS cH cF cL M) (hB : w.heap[B]? = some (.cells cs Xb.rt (0,0))) (v0 v1 v2 v3 v4 : Value) : Rw (mm.set5 w B v0 v1 v2 v3 v4) lo aS aH aF aL cS cH cF cL M :=
  ⟨a9s r.s (own_ne r.s hB (by first | decide | exact Ex.ne _ _ (by decide))) _ _ _ _ _,a9s r.h (own_ne r.h hB (by first | decide | exact Ex.ne _ _ (by decide))) _ _ _ _ _,a9s r.f (own_ne r.f hB (by first | decide | exact Ex.ne _ _ (by decide))) _ _ _ _ _,a9s r.l (own_ne r.l hB (by first | decide | exact Ex.ne _ _ (by decide))) _ _ _ _ _,r.hf,r.hl,r.fl,by rw [b4m]; exact r.lz⟩
theorem SRow.own {w : World} {lo n cap : Nat} {ao : Option Addr} {S : List Sl} (h : w.ownsRow lo 64 6 (Vs ao n cap) n (encS S)) (hm : S.length * 48<=140737488351232) : SRow w ao cap S:=by
  obtain ⟨a,c,e,r⟩:=SRow.a6h h hm
  injection e with e1 e2 e3
  subst e1 e3
  exact r
theorem IRow.own {w : World} {lo n cap : Nat} {ao : Option Addr} {l : List Int} (h : w.ownsRow lo 3 1 (Vs ao n cap) n (encI l)) (hm : l.length * 8<=140737488351232) : IRow w ao cap l:=by
  obtain ⟨a,c,e,r⟩:=IRow.a6h h hm
  injection e with e1 e2 e3
  subst e1 e3
  exact r
theorem b4i {w : World} {lo size n m cap : Nat} {ao : Option Addr} {e : TypeId} {xs : List Value} (h : w.ownsRow lo e size (Vs ao m cap) n xs) : ∀ ad,ao = some ad->lo<=ad.block:=by
  rintro ad rfl
  exact (h.lt ad.block rfl).1
theorem Rw.hi {w : World} {lo : Nat} {aS aH aF aL : Option Addr} {cS cH cF cL : Nat} {M : Mm} (r : Rw w lo aS aH aF aL cS cH cF cL M) : Hi4 lo aS aH aF aL :=
  ⟨b4i r.s,b4i r.h,b4i r.f,b4i r.l⟩
theorem Rw.at {w : World} {lo : Nat} {aS aH aF aL : Option Addr} {cS cH cF cL : Nat} {M : Mm} (r : Rw w lo aS aH aF aL cS cH cF cL M)
    (m1 : M.slots.length * 48<=140737488351232) (m2 : M.heads.length * 8<=140737488351232) (m3 : M.free.length * 8<=140737488351232) (m4 : M.a0b.length * 8<=140737488351232) : At w aS aH aF aL cS cH cF cL M :=
  ⟨.own r.s m1,.own r.h m2,.own r.f m3,.own r.l m4⟩
structure Mine (Xb : Ex) (w : World) (B lo : Nat) (aS aH aF aL : Option Addr) (cS cH cF cL : Nat) (M : Mm) : Prop where
  box : w.heap[B]? = some (.cells (List.toArray (Vs aS M.slots.length cS :: Vs aH M.heads.length cH :: Vs aF M.free.length cF :: Vs aL M.a0b.length cL :: Vi Qi M.now :: Xb.rs)) Xb.rt (0,0))
  c : Rw w lo aS aH aF aL cS cH cF cL M
  m1 : M.slots.length * 48<=140737488351232
  m2 : M.heads.length * 8<=140737488351232
  m3 : M.free.length * 8<=140737488351000
  m4 : M.a0b.length * 8<=140737488351232
theorem Mine.at {w : World} {B lo : Nat} {aS aH aF aL : Option Addr} {cS cH cF cL : Nat} {M : Mm} (m : Mine Xb w B lo aS aH aF aL cS cH cF cL M) : At w aS aH aF aL cS cH cF cL M :=
  m.c.at m.m1 m.m2 (by have:=m.m3; omega) m.m4
theorem Mine.below {w w' : World} {B lo : Nat} {aS aH aF aL : Option Addr} {cS cH cF cL : Nat} {M : Mm} (m : Mine Xb w B lo aS aH aF aL cS cH cF cL M) (hb : Below w.heap.size w w') : Mine Xb w' B lo aS aH aF aL cS cH cF cL M :=
  ⟨(hb.block _ (lt_of_block m.box)).trans m.box,m.c.below hb,m.m1,m.m2,m.m3,m.m4⟩
structure Kept (w w' : World) (B lo : Nat) : Prop where
  os : w'.os = w.os
  tape : w'.tape = w.tape
  output : w'.output = w.output
  size : w.heap.size<=w'.heap.size
  block : ∀ k,k < lo->k ≠ B->w'.heap[k]? = w.heap[k]?
theorem Kept.trans {w w1 w2 : World} {B lo : Nat} (h : Kept w w1 B lo) (h' : Kept w1 w2 B lo) : Kept w w2 B lo :=
  ⟨h'.os.trans h.os,h'.tape.trans h.tape,h'.output.trans h.output,Nat.le_trans h.size h'.size,fun k h1 h2 => (h'.block k h1 h2).trans (h.block k h1 h2)⟩
theorem Kept.of_below {w w' : World} {B lo n : Nat} (hb : Below n w w') (h : lo<=n) : Kept w w' B lo:=⟨hb.os,hb.tape,hb.output,hb.size,fun k h1 h2 => hb.block k (by omega)⟩
theorem Kept.c1y {w w1 : World} {B lo j : Nat} (h : Kept w w1 B lo) (v : Value) : Kept w (w1.setCell ⟨B,j,none⟩ v) B lo :=
  h.trans ⟨rfl,rfl,rfl,by simp,fun k h1 h2 => Below.heap_setCell _ _ _ _ (by dsimp only; exact h2)⟩
theorem Kept.down {w w1 : World} {B lo : Nat} (h : Kept w w1 B lo) {n : Nat} (h1 : n<=lo) (h2 : n<=B) : Below n w w1 :=
  ⟨h.os,h.tape,h.output,h.size,fun k hk => h.block k (by omega) (by omega)⟩
theorem Mine.setS {w : World} {B lo g : Nat} {aH aF aL : Option Addr} {cS cH cF cL : Nat} {M : Mm} (m : Mine Xb w B lo (some ⟨g,0,none⟩) aH aF aL cS cH cF cL M) (j : Nat) (u : Value) (S' : List Sl) (hS : (encS M.slots).set j u = encS S') :
    Mine Xb (w.setCell ⟨g,j,none⟩ u) B lo (some ⟨g,0,none⟩) aH aF aL cS cH cF cL { M with slots:=S' }:=by
  have hl : S'.length = M.slots.length:=by
    have:=congrArg List.length hS
    rw [List.length_set,a4n,a4n] at this
    omega
  obtain ⟨hB,⟨s,h,f,l,hf,hl',fl,lz⟩,m1,m2,m3,m4⟩:=m
  have hg : (Value.slice (some ⟨g,0,none⟩) M.slots.length cS).ownBlock = some g:=rfl
  have ne : ∀ {v : Value} {n : Nat} {xs : List Value},w.ownsRow lo 3 1 v n xs->v.ownBlock ≠ some g:=fun h e => a4i h s (by first | decide | exact Ex.ne _ _ (by decide)) g e hg
  refine ⟨?_,⟨?_,ownsRow_setCell_other h (ne h) u,ownsRow_setCell_other f (ne f) u,ownsRow_setCell_other l (ne l) u,hf,hl',fl,by rw [World.size_setCell]; exact lz⟩,by dsimp only; omega,m2,m3,m4⟩
  · dsimp only
    rw [Below.heap_setCell _ _ _ _ (by dsimp only; intro e; exact own_ne s hB (by first | decide | exact Ex.ne _ _ (by decide)) (by rw [hg,e])),hl]
    exact hB
  · dsimp only
    rw [hl,<- hS]
    exact (s.stored j u).1
theorem Mine.setH {w : World} {B lo g : Nat} {aS aF aL : Option Addr} {cS cH cF cL : Nat} {M : Mm} (m : Mine Xb w B lo aS (some ⟨g,0,none⟩) aF aL cS cH cF cL M) (j : Nat) (x : Int) :
    Mine Xb (w.setCell ⟨g,j,none⟩ (Vi Qi x)) B lo aS (some ⟨g,0,none⟩) aF aL cS cH cF cL { M with heads:=M.heads.set j x }:=by
  obtain ⟨hB,⟨s,h,f,l,hf,hl,fl,lz⟩,m1,m2,m3,m4⟩:=m
  have hg : (Value.slice (some ⟨g,0,none⟩) M.heads.length cH).ownBlock = some g:=rfl
  have ns : (Value.slice aS M.slots.length cS).ownBlock ≠ some g:=fun e => a4i s h (by first | decide | exact Ex.ne _ _ (by decide)) g e hg
  refine ⟨?_,⟨ownsRow_setCell_other s ns _,?_,ownsRow_setCell_other f (fun e => hf g hg e) _,ownsRow_setCell_other l (fun e => hl g hg e) _,b1m hf,b1m hl,fl,by rw [World.size_setCell]; exact lz⟩,m1,by dsimp only; rw [List.length_set]; exact m2,m3,m4⟩
  · dsimp only
    rw [Below.heap_setCell _ _ _ _ (by dsimp only; intro e; exact own_ne h hB (by first | decide | exact Ex.ne _ _ (by decide)) (by rw [hg,e])),List.length_set]
    exact hB
  · dsimp only
    have e : encI (M.heads.set j x) = (encI M.heads).set j (Vi Qi x):=by simp [encI,List.map_set]
    rw [List.length_set,e]
    exact (h.stored j _).1
theorem Mine.setL {w : World} {B lo g : Nat} {aS aH aF : Option Addr} {cS cH cF cL : Nat} {M : Mm} (m : Mine Xb w B lo aS aH aF (some ⟨g,0,none⟩) cS cH cF cL M) (j : Nat) (x : Int) :
    Mine Xb (w.setCell ⟨g,j,none⟩ (Vi Qi x)) B lo aS aH aF (some ⟨g,0,none⟩) cS cH cF cL { M with a0b:=M.a0b.set j x }:=by
  obtain ⟨hB,⟨s,h,f,l,hf,hl,fl,lz⟩,m1,m2,m3,m4⟩:=m
  have hg : (Value.slice (some ⟨g,0,none⟩) M.a0b.length cL).ownBlock = some g:=rfl
  have ns : (Value.slice aS M.slots.length cS).ownBlock ≠ some g:=fun e => a4i s l (by first | decide | exact Ex.ne _ _ (by decide)) g e hg
  refine ⟨?_,⟨ownsRow_setCell_other s ns _,ownsRow_setCell_other h (fun e => hl g e hg) _,ownsRow_setCell_other f (fun e => fl g e hg) _,?_,hf,b1m hl,b1m fl,by rw [World.size_setCell]; exact lz⟩,m1,m2,m3,by dsimp only; rw [List.length_set]; exact m4⟩
  · dsimp only
    rw [Below.heap_setCell _ _ _ _ (by dsimp only; intro e; exact own_ne l hB (by first | decide | exact Ex.ne _ _ (by decide)) (by rw [hg,e])),List.length_set]
    exact hB
  · dsimp only
    have e : encI (M.a0b.set j x) = (encI M.a0b).set j (Vi Qi x):=by simp [encI,List.map_set]
    rw [List.length_set,e]
    exact (l.stored j _).1
theorem Mine.pop {w : World} {B lo g n : Nat} {aS aH aL : Option Addr} {cS cH cF cL : Nat} {M : Mm} (m : Mine Xb w B lo aS aH (some ⟨g,0,none⟩) aL cS cH cF cL M) (hn : M.free.length = n + 1) :
    Mine Xb (w.setCell ⟨B,2,none⟩ (Vs (some ⟨g,0,none⟩) n cF)) B lo aS aH (some ⟨g,0,none⟩) aL cS cH cF cL { M with free:=M.free.take n }:=by
  obtain ⟨hB,⟨s,h,f,l,hf,hl,fl,lz⟩,m1,m2,m3,m4⟩:=m
  have hlen : (M.free.take n).length = n:=by rw [List.length_take]; omega
  refine ⟨?_,⟨ownsRow_setCell_other s (own_ne s hB (by first | decide | exact Ex.ne _ _ (by decide))) _,ownsRow_setCell_other h (own_ne h hB (by first | decide | exact Ex.ne _ _ (by decide))) _,?_,ownsRow_setCell_other l (own_ne l hB (by first | decide | exact Ex.ne _ _ (by decide))) _,b1m hf,hl,b1m fl,by rw [World.size_setCell]; exact lz⟩,m1,m2,by dsimp only; omega,m4⟩
  · dsimp only
    rw [hlen]
    have:=block_setCell (i:=2) hB (Vs (some ⟨g,0,none⟩) n cF)
    simpa using this
  · dsimp only
    rw [hlen]
    have fn:=own_ne f hB (by first | decide | exact Ex.ne _ _ (by decide))
    refine ownsRow_setCell_other ?_ fn _
    rw [hn] at f
    refine ownsRow_pop (last:=encI (M.free.drop n)) (by simp [encI]; omega) ?_
    rw [show encI (M.free.take n) ++ encI (M.free.drop n) = encI M.free by simp [encI]]
    exact f
end
section
open Go.ChangeShapes Go.WideShapes Go.ChangeAt Go.RowKit Go.Joins
theorem a2q {w : World} {lo size n g j : Nat} {e tt : TypeId} {v : Value} {xs : List Value} {cs : Array Value} (h : w.ownsRow lo e size v n xs) (hB : w.heap[g]? = some (.cells cs tt (0,0))) (ne : e ≠ tt) (u : Value) : (w.setCell ⟨g,j,none⟩ u).ownsRow lo e size v n xs :=
  ownsRow_setCell_other h (own_ne h hB ne) u
theorem b3t {w w1 : World} {lo lo1 size size1 n n1 : Nat} {e e1 : TypeId} {v v1 : Value} {xs xs1 : List Value} (h : w.ownsRow lo e size v n xs) (h1 : w1.ownsRow lo1 e1 size1 v1 n1 xs1) (hl : w.heap.size<=lo1) : Dj v v1:=by
  intro g hg hg1
  have:=(h.lt g hg).2
  have:=(h1.lt g hg1).1
  omega
set_option maxHeartbeats 1600000 in
theorem copy_any (M : Mm) (aS aH aF aL : Option Addr) (cS cH cF cL : Nat) (w : World) (A : At w aS aH aF aL cS cH cF cL M) :
    Calls Tryz.prog 101 #[.agg #[Vs aS M.slots.length cS,Vs aH M.heads.length cH,Vs aF M.free.length cF,Vs aL M.a0b.length cL,Vi Qi M.now]] w fun e w' => ∃ gS gH gF gL kS kH kF kL,
      e = .returned (.agg #[Vs gS M.slots.length kS,Vs gH M.heads.length kH,Vs gF M.free.length kF,Vs gL M.a0b.length kL,Vi Qi M.now]) /\
      Rw w' w.heap.size gS gH gF gL kS kH kF kL M/\Below w.heap.size w w':=by
  obtain ⟨S,H,F,L,now⟩:=M
  dsimp only
  have m1:=A.s.max; have m2:=A.h.max; have m3:=A.f.max; have m4:=A.l.max
  dsimp only at m1 m2 m3 m4
  obtain ⟨o1,ho1⟩ : ∃ o : Obj,o = .cells #[Vs aS S.length cS,Vs aH H.length cH,Vs aF F.length cF,Vs aL L.length cL,Vi Qi now] 25:=⟨_,rfl⟩
  obtain ⟨o2,ho2⟩ : ∃ o : Obj,o = .cells #[Vs none 0 0,Vs none 0 0,Vs none 0 0,Vs none 0 0,Vi Qi 0] 25:=⟨_,rfl⟩
  have B0 : Below w.heap.size w ((w.alloc o1).alloc o2):=below_alloc2 w o1 o2
  have HB0 : Hid (((w.alloc o1).alloc o2).heap[w.heap.size]? = some o1):=by show _ = _; rw [Below.heap_alloc _ _ _ (by simp),heap_alloc_new]
  have HR0 : Hid (((w.alloc o1).alloc o2).heap[w.heap.size + 1]? = some o2):=by
    have:=heap_alloc_new (w.alloc o1) o2
    rwa [show (w.alloc o1).heap.size = w.heap.size + 1 by simp] at this
  have z0 : w.heap.size + 2<=((w.alloc o1).alloc o2).heap.size:=by simp
  have HA : Hid (At w aS aH aF aL cS cH cF cL ⟨S,H,F,L,now⟩):=A
  clear A
  go_enter Tryz.func101,Tryz.ntmps101
  go_wp2_with fail
  rw [<- ho1,<- ho2]
  generalize (w.alloc o1).alloc o2 = W0 at *
  subst ho1 ho2
  have HA0 : Hid _:=HA.out.below B0
  refine (c0u aS cS S W0 HA0.out.s).mono ?_
  rintro e w1 ⟨gS,kS,rfl,ownS,hb1⟩
  have b1:=B0.trans (hb1.mono B0.size)
  have HBx1 : Hid (w1.heap[w.heap.size]? = _):=(hb1.block w.heap.size (lt_of_block HB0.out)).trans HB0.out
  have HRx1 : Hid (w1.heap[w.heap.size + 1]? = _):=(hb1.block (w.heap.size + 1) (lt_of_block HR0.out)).trans HR0.out
  have zx1 : w.heap.size + 2<=w1.heap.size:=Nat.le_trans z0 hb1.size
  have OSx1 : Hid (w1.ownsRow w.heap.size 64 6 (Vs gS S.length kS) S.length (encS S)):=ownsRow_le ownS (by omega)
  clear ownS hb1 HA0 HB0 HR0 
  obtain ⟨q0,q1,q2,q3,q4,f0,f1,f2,f3,f4,qs⟩:=boxf HBx1.out
  have B1 : Below w.heap.size w (w1.setCell ⟨w.heap.size,0,none⟩ (Vs gS S.length kS)):=b1.setCell (Nat.le_refl _) _
  have HB1 : Hid ((w1.setCell ⟨w.heap.size,0,none⟩ (Vs gS S.length kS)).heap[w.heap.size]? = some (.cells #[Vs gS S.length kS,Vs aH H.length cH,Vs aF F.length cF,Vs aL L.length cL,Vi Qi now] 25 (0,0))):=by
    have:=block_setCell (i:=0) HBx1.out (Vs gS S.length kS)
    show _ = _
    simpa using this
  have HR1 : Hid ((w1.setCell ⟨w.heap.size,0,none⟩ (Vs gS S.length kS)).heap[w.heap.size + 1]? = _):=(Below.heap_setCell w1 ⟨w.heap.size,0,none⟩ (Vs gS S.length kS) (w.heap.size + 1) (by show w.heap.size + 1 ≠ w.heap.size; omega)).trans HRx1.out
  have z1 : w.heap.size + 2<=(w1.setCell ⟨w.heap.size,0,none⟩ (Vs gS S.length kS)).heap.size:=by rw [World.size_setCell]; exact zx1
  have OS1 : Hid ((w1.setCell ⟨w.heap.size,0,none⟩ (Vs gS S.length kS)).ownsRow w.heap.size 64 6 (Vs gS S.length kS) S.length (encS S)):=a2q OSx1.out HBx1.out (by first | decide | exact Ex.ne _ _ (by decide)) _
  clear zx1 HRx1 OSx1 B0 b1 z0
  go_wp2_with fail
  generalize w1.setCell ⟨w.heap.size,0,none⟩ (Vs gS S.length kS) = W1 at *
  clear q0 q1 q2 q3 q4 f0 f1 f2 f3 f4 qs HBx1
  have HA1 : Hid _:=HA.out.below B1
  refine (a7n aH cH H W1 HA1.out.h).mono ?_
  rintro e w2 ⟨gH,kH,rfl,ownH,hb2⟩
  have b2:=B1.trans (hb2.mono B1.size)
  have HBx2 : Hid (w2.heap[w.heap.size]? = _):=(hb2.block w.heap.size (lt_of_block HB1.out)).trans HB1.out
  have HRx2 : Hid (w2.heap[w.heap.size + 1]? = _):=(hb2.block (w.heap.size + 1) (lt_of_block HR1.out)).trans HR1.out
  have zx2 : w.heap.size + 2<=w2.heap.size:=Nat.le_trans z1 hb2.size
  have OSx2 : Hid (w2.ownsRow w.heap.size 64 6 (Vs gS S.length kS) S.length (encS S)):=own_below OS1.out hb2
  have OHx2 : Hid (w2.ownsRow w.heap.size 3 1 (Vs gH H.length kH) H.length (encI H)):=ownsRow_le ownH (by omega)
  clear ownH hb2 HA1 HB1 HR1 OS1
  obtain ⟨q0,q1,q2,q3,q4,f0,f1,f2,f3,f4,qs⟩:=boxf HBx2.out
  have B2 : Below w.heap.size w (w2.setCell ⟨w.heap.size,1,none⟩ (Vs gH H.length kH)):=b2.setCell (Nat.le_refl _) _
  have HB2 : Hid ((w2.setCell ⟨w.heap.size,1,none⟩ (Vs gH H.length kH)).heap[w.heap.size]? = some (.cells #[Vs gS S.length kS,Vs gH H.length kH,Vs aF F.length cF,Vs aL L.length cL,Vi Qi now] 25 (0,0))):=by
    have:=block_setCell (i:=1) HBx2.out (Vs gH H.length kH)
    show _ = _
    simpa using this
  have HR2 : Hid ((w2.setCell ⟨w.heap.size,1,none⟩ (Vs gH H.length kH)).heap[w.heap.size + 1]? = _):=(Below.heap_setCell w2 ⟨w.heap.size,1,none⟩ (Vs gH H.length kH) (w.heap.size + 1) (by show w.heap.size + 1 ≠ w.heap.size; omega)).trans HRx2.out
  have z2 : w.heap.size + 2<=(w2.setCell ⟨w.heap.size,1,none⟩ (Vs gH H.length kH)).heap.size:=by rw [World.size_setCell]; exact zx2
  have OS2 : Hid ((w2.setCell ⟨w.heap.size,1,none⟩ (Vs gH H.length kH)).ownsRow w.heap.size 64 6 (Vs gS S.length kS) S.length (encS S)):=a2q OSx2.out HBx2.out (by first | decide | exact Ex.ne _ _ (by decide)) _
  have OH2 : Hid ((w2.setCell ⟨w.heap.size,1,none⟩ (Vs gH H.length kH)).ownsRow w.heap.size 3 1 (Vs gH H.length kH) H.length (encI H)):=a2q OHx2.out HBx2.out (by first | decide | exact Ex.ne _ _ (by decide)) _
  clear zx2 HRx2 OSx2 OHx2 B1 b2 z1
  go_wp2_with fail
  generalize w2.setCell ⟨w.heap.size,1,none⟩ (Vs gH H.length kH) = W2 at *
  clear q0 q1 q2 q3 q4 f0 f1 f2 f3 f4 qs HBx2
  have HA2 : Hid _:=HA.out.below B2
  refine (a7n aF cF F W2 HA2.out.f).mono ?_
  rintro e w3 ⟨gF,kF,rfl,ownF,hb3⟩
  have b3:=B2.trans (hb3.mono B2.size)
  have HBx3 : Hid (w3.heap[w.heap.size]? = _):=(hb3.block w.heap.size (lt_of_block HB2.out)).trans HB2.out
  have HRx3 : Hid (w3.heap[w.heap.size + 1]? = _):=(hb3.block (w.heap.size + 1) (lt_of_block HR2.out)).trans HR2.out
  have zx3 : w.heap.size + 2<=w3.heap.size:=Nat.le_trans z2 hb3.size
  have OSx3 : Hid (w3.ownsRow w.heap.size 64 6 (Vs gS S.length kS) S.length (encS S)):=own_below OS2.out hb3
  have OHx3 : Hid (w3.ownsRow w.heap.size 3 1 (Vs gH H.length kH) H.length (encI H)):=own_below OH2.out hb3
  have OFx3 : Hid (w3.ownsRow w.heap.size 3 1 (Vs gF F.length kF) F.length (encI F)):=ownsRow_le ownF (by omega)
  have DHF : Dj (Vs gH H.length kH) (Vs gF F.length kF):=b3t OH2.out ownF (Nat.le_refl _)
  clear ownF hb3 HA2 HB2 HR2 OS2 OH2
  obtain ⟨q0,q1,q2,q3,q4,f0,f1,f2,f3,f4,qs⟩:=boxf HBx3.out
  have B3 : Below w.heap.size w (w3.setCell ⟨w.heap.size,2,none⟩ (Vs gF F.length kF)):=b3.setCell (Nat.le_refl _) _
  have HB3 : Hid ((w3.setCell ⟨w.heap.size,2,none⟩ (Vs gF F.length kF)).heap[w.heap.size]? = some (.cells #[Vs gS S.length kS,Vs gH H.length kH,Vs gF F.length kF,Vs aL L.length cL,Vi Qi now] 25 (0,0))):=by
    have:=block_setCell (i:=2) HBx3.out (Vs gF F.length kF)
    show _ = _
    simpa using this
  have HR3 : Hid ((w3.setCell ⟨w.heap.size,2,none⟩ (Vs gF F.length kF)).heap[w.heap.size + 1]? = _):=(Below.heap_setCell w3 ⟨w.heap.size,2,none⟩ (Vs gF F.length kF) (w.heap.size + 1) (by show w.heap.size + 1 ≠ w.heap.size; omega)).trans HRx3.out
  have z3 : w.heap.size + 2<=(w3.setCell ⟨w.heap.size,2,none⟩ (Vs gF F.length kF)).heap.size:=by rw [World.size_setCell]; exact zx3
  have OS3 : Hid ((w3.setCell ⟨w.heap.size,2,none⟩ (Vs gF F.length kF)).ownsRow w.heap.size 64 6 (Vs gS S.length kS) S.length (encS S)):=a2q OSx3.out HBx3.out (by first | decide | exact Ex.ne _ _ (by decide)) _
  have OH3 : Hid ((w3.setCell ⟨w.heap.size,2,none⟩ (Vs gF F.length kF)).ownsRow w.heap.size 3 1 (Vs gH H.length kH) H.length (encI H)):=a2q OHx3.out HBx3.out (by first | decide | exact Ex.ne _ _ (by decide)) _
  have OF3 : Hid ((w3.setCell ⟨w.heap.size,2,none⟩ (Vs gF F.length kF)).ownsRow w.heap.size 3 1 (Vs gF F.length kF) F.length (encI F)):=a2q OFx3.out HBx3.out (by first | decide | exact Ex.ne _ _ (by decide)) _
  clear zx3 HRx3 OSx3 OHx3 OFx3 B2 b3 z2
  go_wp2_with fail
  generalize w3.setCell ⟨w.heap.size,2,none⟩ (Vs gF F.length kF) = W3 at *
  clear q0 q1 q2 q3 q4 f0 f1 f2 f3 f4 qs HBx3
  have HA3 : Hid _:=HA.out.below B3
  refine (a7n aL cL L W3 HA3.out.l).mono ?_
  rintro e w4 ⟨gL,kL,rfl,ownL,hb4⟩
  have b4:=B3.trans (hb4.mono B3.size)
  have HBx4 : Hid (w4.heap[w.heap.size]? = _):=(hb4.block w.heap.size (lt_of_block HB3.out)).trans HB3.out
  have HRx4 : Hid (w4.heap[w.heap.size + 1]? = _):=(hb4.block (w.heap.size + 1) (lt_of_block HR3.out)).trans HR3.out
  have zx4 : w.heap.size + 2<=w4.heap.size:=Nat.le_trans z3 hb4.size
  have OSx4 : Hid (w4.ownsRow w.heap.size 64 6 (Vs gS S.length kS) S.length (encS S)):=own_below OS3.out hb4
  have OHx4 : Hid (w4.ownsRow w.heap.size 3 1 (Vs gH H.length kH) H.length (encI H)):=own_below OH3.out hb4
  have OFx4 : Hid (w4.ownsRow w.heap.size 3 1 (Vs gF F.length kF) F.length (encI F)):=own_below OF3.out hb4
  have OLx4 : Hid (w4.ownsRow w.heap.size 3 1 (Vs gL L.length kL) L.length (encI L)):=ownsRow_le ownL (by omega)
  have DHL : Dj (Vs gH H.length kH) (Vs gL L.length kL):=b3t OH3.out ownL (Nat.le_refl _)
  have DFL : Dj (Vs gF F.length kF) (Vs gL L.length kL):=b3t OF3.out ownL (Nat.le_refl _)
  clear ownL hb4 HA3 HB3 HR3 OS3 OH3 OF3
  obtain ⟨q0,q1,q2,q3,q4,f0,f1,f2,f3,f4,qs⟩:=boxf HBx4.out
  obtain ⟨r0,r1,r2,r3,r4,g0,g1,g2,g3,g4,rs⟩:=boxf HRx4.out
  have rs0 : w.heap.size + 1 ≠ w.heap.size:=by omega
  have HF : Hid (Rw (mm.set5 (w4.setCell ⟨w.heap.size,3,none⟩ (Vs gL L.length kL)) (w.heap.size + 1) (Vs gS S.length kS) (Vs gH H.length kH) (Vs gF F.length kF) (Vs gL L.length kL) (Vi Qi now)) w.heap.size gS gH gF gL kS kH kF kL ⟨S,H,F,L,now⟩):=by
    have hR : (w4.setCell ⟨w.heap.size,3,none⟩ (Vs gL L.length kL)).heap[w.heap.size + 1]? = _:=(Below.heap_setCell w4 ⟨w.heap.size,3,none⟩ (Vs gL L.length kL) (w.heap.size + 1) (by show w.heap.size + 1 ≠ w.heap.size; omega)).trans HRx4.out
    have r : Rw (w4.setCell ⟨w.heap.size,3,none⟩ (Vs gL L.length kL)) w.heap.size gS gH gF gL kS kH kF kL ⟨S,H,F,L,now⟩ :=
      ⟨a2q OSx4.out HBx4.out (by first | decide | exact Ex.ne _ _ (by decide)) _,a2q OHx4.out HBx4.out (by first | decide | exact Ex.ne _ _ (by decide)) _,a2q OFx4.out HBx4.out (by first | decide | exact Ex.ne _ _ (by decide)) _,a2q OLx4.out HBx4.out (by first | decide | exact Ex.ne _ _ (by decide)) _,DHF,DHL,DFL,by rw [World.size_setCell]; omega⟩
    exact r.set5 (Xb:=X0) hR _ _ _ _ _
  clear OSx4 OHx4 OFx4 OLx4 HBx4 HRx4 z3
  go_wp2
  refine bodyPost_ret (v:=.agg #[Vs gS S.length kS,Vs gH H.length kH,Vs gF F.length kF,Vs gL L.length kL,Vi Qi now]) (by simp [results,Tryz.results101,go_sem,r0,r1,r2,r3,r4]) rfl ⟨_,_,_,_,_,_,_,_,rfl,HF.out,?_⟩
  exact (b4.setCell (Nat.le_refl _) _).trans (a8r _ _ _ _ _ _ _ _ (by omega))
end
end Go.Proofs.YthhgoenomehobaaGreat.mm
