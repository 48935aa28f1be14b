/- Parts. -/
namespace Go.Proofs.YthhgoenomehobaaGreat.mm
set_option maxRecDepth 100000
set_option linter.unusedVariables false
section
structure Sl where
  refs : Int
  a : Int
  b : Int
  unt : Int
  inn : Bool
  next : Int
structure Mm where
  slots : List Sl
  heads : List Int
  free : List Int
  a0b : List Int
  now : Int
def sl0 : Sl:=⟨0,0,0,0,false,0⟩
def m0 : Mm:=⟨[],[],[],[],0⟩
def slEq (x y : Sl) : Bool:=x.refs == y.refs && (x.a == y.a && (x.b == y.b && (x.unt == y.unt && (x.inn == y.inn && x.next == y.next))))
theorem slEq_iff (x y : Sl) : slEq x y = true ↔ x = y:=by
  cases x; cases y; simp [slEq]
theorem b4n (x : Sl) : slEq x x = true:=(slEq_iff x x).2 rfl
def inB (x lo hi : Int) : Bool:=decide (lo<=x) && decide (x<=hi)
theorem a0h (x lo hi : Int) : inB x lo hi = true ↔ lo<=x/\x<=hi:=by simp [inB]
def keyB (a b : Int) : Bool:=inB a 0 15 && inB b 0 15
theorem a9o (a b : Int) : keyB a b = true ↔ (0<=a/\a<=15)/\(0<=b/\b<=15):=by simp [keyB,inB]
def a2n (nh ns : Nat) (s : Sl) : Int :=
  if inB s.refs 0 1000 && inB s.unt 0 2000000 && keyB s.a s.b then (if inB s.next (-(nh : Int)) ns then 0 else 5) else 3
def a2f (nh ns : Nat) (p : Int × Int) : Int :=
  if p.1 ≠ 0/\inB p.1 (-(nh : Int)) ns then (if inB p.2 (-1) 4 then 0 else 3) else 5
def a0l {α : Type} (f : α->Int) : List α->Int
  | [] => 0
  | x :: l => if f x ≠ 0 then f x else a0l f l
theorem a5k {α : Type} (f : α->Int) (l : List α) (k : Nat) (h : k < l.length) :
    a0l f (l.drop k) = if f l[k] ≠ 0 then f l[k] else a0l f (l.drop (k + 1)):=by
  rw [List.drop_eq_getElem_cons h]; rfl
theorem a8l {α : Type} (f : α->Int) (l : List α) (k : Nat) (h : l.length<=k) : a0l f (l.drop k) = 0:=by
  rw [List.drop_of_length_le h]; rfl
theorem a3k {α : Type} (f : α->Int) (l : List α) : a0l f l = 0 ↔ ∀ x ∈ l,f x = 0:=by
  induction l with
  | nil => simp [a0l]
  | cons x l ih =>
    simp only [a0l,List.mem_cons,forall_eq_or_imp]
    by_cases h : f x = 0
    · simp [h,ih]
    · simp [h]
def hasB (l : List Int) (x : Int) : Bool:=l.contains x
theorem a7j (l : List Int) (x : Int) : hasB l x = true ↔ x ∈ l:=by simp [hasB]
theorem b2s (l : List Int) (x : Int) : hasB l x = false ↔ ¬ x ∈ l:=by simp [hasB]
def a4e (S : List Sl) (a : Int) : Bool:=decide (0<=a) && (decide (a < S.length) && decide ((S.getD a.toNat sl0).refs = 0))
theorem a2a (S : List Sl) (a : Int) : a4e S a = true ↔ 0<=a/\a < S.length/\(S.getD a.toNat sl0).refs = 0:=by simp [a4e]
def a1d (S : List Sl) : List Int->List Int->Int
  | _,[] => 0
  | pre,a :: l => if a4e S a then (if hasB pre a then 6 else a1d S (pre ++ [a]) l) else 5
def a1p (F : List Int) : Nat->List Sl->Int
  | _,[] => 0
  | i,s :: l => if s.refs == 0 && !hasB F (i : Int) then 4 else a1p F (i + 1) l
theorem a6d (S : List Sl) (l : List Int) (k : Nat) (h : k < l.length) :
    a1d S (l.take k) (l.drop k) = if a4e S l[k] then (if hasB (l.take k) l[k] then 6 else a1d S (l.take (k + 1)) (l.drop (k + 1))) else 5:=by
  rw [List.drop_eq_getElem_cons h,List.take_succ_eq_append_getElem h]; rfl
theorem b5b (S : List Sl) (l : List Int) (k : Nat) (h : l.length<=k) : a1d S (l.take k) (l.drop k) = 0:=by
  rw [List.drop_of_length_le h]; rfl
theorem a8y (F : List Int) (S : List Sl) (k : Nat) (h : k < S.length) :
    a1p F k (S.drop k) = if S[k].refs == 0 && !hasB F (k : Int) then 4 else a1p F (k + 1) (S.drop (k + 1)):=by
  rw [List.drop_eq_getElem_cons h]; rfl
theorem b5f (F : List Int) (S : List Sl) (k : Nat) (h : S.length<=k) : a1p F k (S.drop k) = 0:=by
  rw [List.drop_of_length_le h]; rfl
def chk (m : Mm) : Int :=
  if 12 < m.slots.length\/m.heads.length < 1\/4 < m.heads.length then 2
  else if m.a0b.length ≠ m.heads.length then 4
  else if inB m.now 0 1000000 = false then 3
  else if a0l (a2n m.heads.length m.slots.length) m.slots ≠ 0 then a0l (a2n m.heads.length m.slots.length) m.slots
  else if a0l (a2f m.heads.length m.slots.length) (m.heads.zip m.a0b) ≠ 0 then a0l (a2f m.heads.length m.slots.length) (m.heads.zip m.a0b)
  else if a1d m.slots [] m.free ≠ 0 then a1d m.slots [] m.free
  else a1p m.free 0 m.slots
structure Ok (m : Mm) : Prop where
  ns : m.slots.length<=12
  nh : 1<=m.heads.length/\m.heads.length<=4
  nl : m.a0b.length = m.heads.length
  now : 0<=m.now/\m.now<=1000000
  slot : ∀ s ∈ m.slots,a2n m.heads.length m.slots.length s = 0
  chain : ∀ p ∈ m.heads.zip m.a0b,a2f m.heads.length m.slots.length p = 0
  free : ∀ a ∈ m.free,a4e m.slots a = true
  nodup : m.free.Nodup
  all : ∀ i,i < m.slots.length->(m.slots.getD i sl0).refs = 0->(i : Int) ∈ m.free
theorem a8v (S : List Sl) (pre l : List Int) (hp : pre.Nodup) : a1d S pre l = 0 ↔ (∀ a ∈ l,a4e S a = true)/\(pre ++ l).Nodup:=by
  induction l generalizing pre with
  | nil => simp [a1d,hp]
  | cons a l ih =>
    simp only [a1d,List.mem_cons,forall_eq_or_imp]
    by_cases h1 : a4e S a = true
    · by_cases h2 : a ∈ pre
      · simp [h1,h2,a7j,List.nodup_append]
        intro _ _ _ _
        exact ⟨a,h2,fun h => absurd rfl h⟩
      · have hp' : (pre ++ [a]).Nodup:=by
          rw [List.nodup_append]; simp [hp]
          intro x hx e; subst e; exact h2 hx
        have:=ih (pre ++ [a]) hp'
        rw [List.append_assoc] at this
        simp only [h1,h2,a7j,if_true,if_false,true_and]
        exact this
    · simp [h1]
theorem a8z (F : List Int) (S : List Sl) (k : Nat) : a1p F k S = 0 ↔ ∀ i,i < S.length->(S.getD i sl0).refs = 0->((k + i : Nat) : Int) ∈ F:=by
  induction S generalizing k with
  | nil => simp [a1p]
  | cons s l ih =>
    simp only [a1p]
    by_cases h : s.refs == 0 && !hasB F (k : Int)
    · rw [if_pos h]
      simp only [Bool.and_eq_true,beq_iff_eq,Bool.not_eq_true'] at h
      constructor
      · intro e; omega
      · intro hh
        have:=hh 0 (by simp) (by simpa using h.1)
        simp only [Nat.add_zero] at this
        rw [<- a7j] at this
        rw [this] at h; simp at h
    · rw [if_neg h,ih]
      constructor
      · intro hh i hi hr
        match i with
        | 0 =>
          simp at hr
          simp [hr,a7j] at h
          simpa using h
        | i + 1 =>
          have:=hh i (by simp at hi; omega) (by simpa using hr)
          rwa [show k + 1 + i = k + (i + 1) by omega] at this
      · intro hh i hi hr
        have:=hh (i + 1) (by simp; omega) (by simpa using hr)
        rwa [show k + (i + 1) = k + 1 + i by omega] at this
theorem a6k (m : Mm) : chk m = 0 ↔ Ok m:=by
  unfold chk
  constructor
  · intro h
    split at h
    · omega
    split at h
    · omega
    split at h
    · omega
    split at h
    · omega
    split at h
    · omega
    split at h
    · omega
    rename_i h1 h2 h3 h4 h5 h6
    have h3' : inB m.now 0 1000000 = true:=by simpa using h3
    simp only [ne_eq,Decidable.not_not] at h4 h5 h6 h2
    have hf:=(a8v m.slots [] m.free List.nodup_nil).1 h6
    have hl:=(a8z m.free m.slots 0).1 h
    refine ⟨by omega,by omega,h2,(a0h _ _ _).1 h3',(a3k _ _).1 h4,(a3k _ _).1 h5,hf.1,by simpa using hf.2,?_⟩
    intro i hi hr
    have:=hl i hi hr
    simpa using this
  · intro h
    rw [if_neg (by have:=h.ns; have:=h.nh; omega),if_neg (by simpa using h.nl),if_neg (by rw [(a0h _ _ _).2 h.now]; simp),
      if_neg (by simpa using (a3k _ _).2 h.slot),if_neg (by simpa using (a3k _ _).2 h.chain),
      if_neg (by simpa using (a8v m.slots [] m.free List.nodup_nil).2 ⟨h.free,by simpa using h.nodup⟩)]
    exact (a8z m.free m.slots 0).2 fun i hi hr => by simpa using h.all i hi hr
def a2v (m : Mm) : Int:=m.free.getD (m.free.length - 1) 0
def a5d (m : Mm) (ka kb u : Int) : Mm :=
  { m with slots:=m.slots.set (a2v m).toNat ⟨1,ka,kb,u,false,(m.slots.getD (a2v m).toNat sl0).next⟩,free:=m.free.take (m.free.length - 1) }
def a0s (m : Mm) (i : Int) : Int:=(m.slots.getD i.toNat sl0).refs
def a2r (m : Mm) (i r : Int) : List Sl:=m.slots.set i.toNat { m.slots.getD i.toNat sl0 with refs:=r }
def b7i (m : Mm) (i : Int) : Mm:={ m with slots:=a2r m i (a0s m i + 1) }
def putM (m : Mm) (i : Int) : Mm:={ m with slots:=a2r m i (a0s m i - 1),free:=if a0s m i = 1 then m.free ++ [i] else m.free }
def isSl (m : Mm) (i : Int) : Bool:=inB i 0 ((m.slots.length : Int) - 1)
def b2f (m : Mm) (ka kb u : Int) : Int :=
  if chk m ≠ 0 then chk m else if keyB ka kb = false then 3 else if inB u 0 2000000 = false then 3 else if m.free.length = 0 then 7 else 0
def a9c (m : Mm) (ka kb u : Int) : Mm:=if b2f m ka kb u = 0 then a5d m ka kb u else m0
def b6v (m : Mm) (ka kb u : Int) : Int:=if b2f m ka kb u = 0 then a2v m else 0
def letE (m : Mm) (i : Int) : Int :=
  if chk m ≠ 0 then chk m else if isSl m i = false then 5 else if a0s m i = 0 then 8 else 0
def letM (m : Mm) (i : Int) : Mm:=if letE m i = 0 then putM m i else m0
def newM (many buckets : Nat) : Mm :=
  { slots:=List.replicate many sl0,heads:=(List.range buckets).map fun (b : Nat) => -1 - (b : Int),free:=(List.range many).map fun (a : Nat) => (many : Int) - 1 - (a : Int),a0b:=List.replicate buckets (-1),now:=0 }
def newE (many buckets : Int) : Int:=if inB many 0 12 && inB buckets 1 4 then 0 else 3
end
section
theorem getD_lt (S : List Sl) (j : Nat) (h : j < S.length) : S.getD j sl0 = S[j]:=by simp [List.getD_eq_getElem?_getD,h]
theorem a2y (S : List Sl) (j : Nat) (s : Sl) (h : j < S.length) : (S.set j s).getD j sl0 = s:=by simp [List.getD_eq_getElem?_getD,h]
theorem a1s (S : List Sl) (i j : Nat) (s : Sl) (h : j ≠ i) : (S.set j s).getD i sl0 = S.getD i sl0:=by simp [List.getD_eq_getElem?_getD,List.getElem?_set_ne h]
theorem Ok.set {m : Mm} (h : Ok m) (j : Nat) (s : Sl) (hs : a2n m.heads.length m.slots.length s = 0) (F : List Int) (h1 : ∀ a ∈ F,a4e (m.slots.set j s) a = true) (h2 : F.Nodup)
    (h3 : ∀ i,i < m.slots.length->((m.slots.set j s).getD i sl0).refs = 0->(i : Int) ∈ F) : Ok { m with slots:=m.slots.set j s,free:=F }:=by
  refine ⟨by simpa using h.ns,h.nh,h.nl,h.now,?_,?_,h1,h2,?_⟩
  · intro x hx
    dsimp only at hx ⊢
    rw [List.length_set]
    rcases List.mem_or_eq_of_mem_set hx with hx | rfl
    · exact h.slot x hx
    · exact hs
  · intro p hp
    dsimp only at hp ⊢
    rw [List.length_set]
    exact h.chain p hp
  · intro i hi hr
    exact h3 i (by simpa using hi) hr
theorem a2t {nh ns : Nat} {s : Sl} (h : a2n nh ns s = 0) : inB s.refs 0 1000 = true/\inB s.unt 0 2000000 = true/\keyB s.a s.b = true/\inB s.next (-(nh : Int)) ns = true:=by
  unfold a2n at h
  split at h
  · rename_i h1
    split at h
    · rename_i h2
      simp only [Bool.and_eq_true] at h1
      exact ⟨h1.1.1,h1.1.2,h1.2,h2⟩
    · omega
  · omega
theorem a7i {nh ns : Nat} {s : Sl} (h1 : inB s.refs 0 1000 = true) (h2 : inB s.unt 0 2000000 = true) (h3 : keyB s.a s.b = true) (h4 : inB s.next (-(nh : Int)) ns = true) : a2n nh ns s = 0:=by
  simp [a2n,h1,h2,h3,h4]
theorem b1r {m : Mm} (hF : 0 < m.free.length) : m.free = m.free.take (m.free.length - 1) ++ [a2v m]:=by
  have hl : a2v m = m.free[m.free.length - 1]:=by
    have : m.free.length - 1 < m.free.length:=by omega
    simp [a2v,List.getD_eq_getElem?_getD,this]
  rw [hl]
  have:=List.take_succ_eq_append_getElem (l:=m.free) (i:=m.free.length - 1) (by omega)
  rw [<- this,show m.free.length - 1 + 1 = m.free.length by omega,List.take_length]
theorem b2y {m : Mm} (h : Ok m) (hF : 0 < m.free.length) : 0<=a2v m/\a2v m < m.slots.length/\a0s m (a2v m) = 0:=by
  have hm : a2v m ∈ m.free:=by rw [b1r hF]; simp
  exact (a2a _ _).1 (h.free _ hm)
theorem take_ok {m : Mm} (h : Ok m) {ka kb u : Int} (hk : keyB ka kb = true) (hu : inB u 0 2000000 = true) (hF : 0 < m.free.length) : Ok (a5d m ka kb u):=by
  obtain ⟨l0,l1,l2⟩:=b2y h hF
  obtain ⟨j,hj⟩ : ∃ j : Nat,a2v m = j:=⟨(a2v m).toNat,by omega⟩
  have hsp:=b1r hF
  have hnd:=h.nodup
  rw [hsp,List.nodup_append] at hnd
  have hjS : j < m.slots.length:=by omega
  unfold a5d
  rw [hj] at *
  rw [Int.toNat_natCast]
  have hgood:=a2t (h.slot _ (List.getElem_mem hjS))
  refine h.set j _ (a7i rfl hu hk ?_) _ ?_ hnd.1 ?_
  · rw [getD_lt _ _ hjS]; exact hgood.2.2.2
  · intro a ha
    have hne : a ≠ j:=hnd.2.2 a ha j (by simp)
    have hf:=(a2a _ _).1 (h.free a (List.mem_of_mem_take ha))
    rw [a2a]
    refine ⟨hf.1,by simpa using hf.2.1,?_⟩
    rw [a1s _ _ _ _ (by omega)]
    exact hf.2.2
  · intro i hi hr
    by_cases e : j = i
    · subst e
      rw [a2y _ _ _ hjS] at hr
      simp at hr
    · rw [a1s _ _ _ _ e] at hr
      have:=h.all i hi hr
      rw [hsp,List.mem_append,List.mem_singleton] at this
      rcases this with h | h
      · exact h
      · omega
theorem c1u {m : Mm} {i : Nat} (h : i < m.slots.length) : a0s m i = m.slots[i].refs:=by simp [a0s,List.getD_eq_getElem?_getD,h]
theorem b1z {m : Mm} {j : Nat} (h : j < m.slots.length) (r : Int) : a2r m j r = m.slots.set j { m.slots[j] with refs:=r }:=by
  simp [a2r,List.getD_eq_getElem?_getD,h]
theorem c2r {m : Mm} (h : Ok m) {j : Nat} (hj : j < m.slots.length) {r : Int} (h0 : 0 < r) (h1 : r<=1000) (hr : a0s m j ≠ 0) : Ok { m with slots:=a2r m j r }:=by
  rw [b1z hj]
  rw [c1u hj] at hr
  have hgood:=a2t (h.slot _ (List.getElem_mem hj))
  refine h.set j _ (a7i (s:={ m.slots[j] with refs:=r }) ((a0h _ _ _).2 ⟨Int.le_of_lt h0,h1⟩) hgood.2.1 hgood.2.2.1 hgood.2.2.2) m.free ?_ h.nodup ?_
  · intro a ha
    have hf:=(a2a _ _).1 (h.free a ha)
    have hne : a ≠ j:=by
      rintro rfl
      rw [Int.toNat_natCast,getD_lt _ _ hj] at hf
      exact hr hf.2.2
    rw [a2a]
    refine ⟨hf.1,by simpa using hf.2.1,?_⟩
    rw [a1s _ _ _ _ (by omega)]
    exact hf.2.2
  · intro i hi hr'
    by_cases e : j = i
    · subst e
      rw [a2y _ _ _ hj] at hr'
      dsimp only at hr'
      omega
    · rw [a1s _ _ _ _ e] at hr'
      exact h.all i hi hr'
theorem a4q (m : Mm) (i : Int) : isSl m i = true ↔ ∃ j : Nat,i = j/\j < m.slots.length:=by
  unfold isSl
  rw [a0h]
  constructor
  · intro h
    exact ⟨i.toNat,by omega,by omega⟩
  · rintro ⟨j,rfl,h⟩
    omega
theorem hold_ok {m : Mm} (h : Ok m) {i : Int} (hi : isSl m i = true) (h0 : 0 < a0s m i) (h1 : a0s m i < 1000) : Ok (b7i m i):=by
  obtain ⟨j,rfl,hj⟩:=(a4q m i).1 hi
  exact c2r h hj (by omega) (by omega) (by omega)
theorem put_ok {m : Mm} (h : Ok m) {i : Int} (hi : isSl m i = true) (h0 : 0 < a0s m i) (h1 : a0s m i<=1000) : Ok (putM m i):=by
  obtain ⟨j,rfl,hj⟩:=(a4q m i).1 hi
  by_cases hl : a0s m j = 1
  · have e : putM m j = { m with slots:=a2r m j 0,free:=m.free ++ [(j : Int)] }:=by simp [putM,hl]
    rw [e,b1z hj]
    rw [c1u hj] at hl
    have hgood:=a2t (h.slot _ (List.getElem_mem hj))
    have hnj : (j : Int) ∉ m.free:=fun hm => by
      have hf:=(a2a _ _).1 (h.free _ hm)
      rw [Int.toNat_natCast,getD_lt _ _ hj,hl] at hf
      omega
    refine h.set j _ (a7i (s:={ m.slots[j] with refs:=0 }) rfl hgood.2.1 hgood.2.2.1 hgood.2.2.2) _ ?_ ?_ ?_
    · intro a ha
      rw [List.mem_append,List.mem_singleton] at ha
      rw [a2a]
      rcases ha with ha | rfl
      · have hf:=(a2a _ _).1 (h.free a ha)
        have hne : a ≠ j:=by rintro rfl; exact hnj ha
        refine ⟨hf.1,by simpa using hf.2.1,?_⟩
        rw [a1s _ _ _ _ (by omega)]
        exact hf.2.2
      · refine ⟨by omega,by simpa using hj,?_⟩
        rw [Int.toNat_natCast,a2y _ _ _ hj]
    · rw [List.nodup_append]
      refine ⟨h.nodup,by simp,fun a ha b hb => ?_⟩
      rw [List.mem_singleton] at hb
      subst hb
      rintro rfl
      exact hnj ha
    · intro i hi' hr'
      rw [List.mem_append,List.mem_singleton]
      by_cases e : j = i
      · exact .inr (by omega)
      · rw [a1s _ _ _ _ e] at hr'
        exact .inl (h.all i hi' hr')
  · have e : putM m j = { m with slots:=a2r m j (a0s m j - 1) }:=by simp [putM,hl]
    rw [e]
    exact c2r h hj (by omega) (by omega) (by omega)
end
section
def a5v (S : List Sl) (n : Int) : Int:=(S.getD (n - 1).toNat sl0).next
def a3r (S : List Sl) : Nat->Int->List Int
  | 0,_ => []
  | k + 1,n => if 0 < n then (n - 1) :: a3r S k (a5v S n) else []
def a5f (S : List Sl) : Nat->Int->Int
  | 0,n => n
  | k + 1,n => if 0 < n then a5f S k (a5v S n) else n
def a0v (M : Mm) (b : Nat) : Int:=M.heads.getD b 0
def chL (M : Mm) (b : Nat) : List Int:=a3r M.slots M.slots.length (a0v M b)
def chE (M : Mm) (b : Nat) : Int:=a5f M.slots M.slots.length (a0v M b)
def chOk (M : Mm) (b : Nat) : Bool:=chE M b == -1 - (b : Int)
def a0d (M : Mm) (a : Int) : Sl:=M.slots.getD a.toNat sl0
def a0t (M : Mm) (a : Int) : Int × Int:=((a0d M a).a,(a0d M a).b)
def a2z (a b : Int) (n : Nat) : Int:=(7 * a + 3 * b + a * b) % n
def hasK (M : Mm) (all : List Int) (k : Int × Int) : Bool:=(all.map (a0t M)).contains k
def whoK (M : Mm) (all : List Int) (k : Int × Int) : Int:=(all.find? fun a => a0t M a == k).getD 0
def a5x (M : Mm) (b : Nat) (all : List Int) (a : Int) : Int :=
  if (a0d M a).refs = 0\/(a0d M a).inn = false then 5
  else if a2z (a0d M a).a (a0d M a).b M.heads.length ≠ b then 4
  else if hasK M all (a0t M a) then 6 else 0
def a5w (M : Mm) (b : Nat) : List Int->List Int->Int
  | _,[] => 0
  | all,a :: l => if a5x M b all a ≠ 0 then a5x M b all a else a5w M b (all ++ [a]) l
def chkB (M : Mm) : Nat->Nat->List Int->Int
  | 0,_,_ => 0
  | k + 1,b,all => if chOk M b then (if a5w M b all (chL M b) ≠ 0 then a5w M b all (chL M b) else chkB M k (b + 1) (all ++ chL M b)) else 4
def chkC (M : Mm) : Int:=if chk M ≠ 0 then chk M else chkB M M.heads.length 0 []
def a1e (M : Mm) (b : Nat) : List Int:=(List.range b).flatMap (chL M)
def allC (M : Mm) : List Int:=a1e M M.heads.length
theorem a4a (M : Mm) (b : Nat) : a1e M (b + 1) = a1e M b ++ chL M b:=by simp [a1e,List.range_succ]
theorem b8c (M : Mm) (b : Nat) (all l : List Int) (k : Nat) (h : k < l.length) :
    a5w M b (all ++ l.take k) (l.drop k) = if a5x M b (all ++ l.take k) l[k] ≠ 0 then a5x M b (all ++ l.take k) l[k] else a5w M b (all ++ l.take (k + 1)) (l.drop (k + 1)):=by
  rw [List.drop_eq_getElem_cons h,List.take_succ_eq_append_getElem h,<- List.append_assoc]; rfl
theorem c1x (M : Mm) (b : Nat) (all l : List Int) (k : Nat) (h : l.length<=k) : a5w M b (all ++ l.take k) (l.drop k) = 0:=by
  rw [List.drop_of_length_le h]; rfl
theorem b9g (M : Mm) (b : Nat) (h : b < M.heads.length) :
    chkB M (M.heads.length - b) b (a1e M b) = if chOk M b then (if a5w M b (a1e M b) (chL M b) ≠ 0 then a5w M b (a1e M b) (chL M b) else chkB M (M.heads.length - (b + 1)) (b + 1) (a1e M (b + 1))) else 4:=by
  rw [show M.heads.length - b = (M.heads.length - (b + 1)) + 1 by omega,a4a]; rfl
theorem chkB_end (M : Mm) (b : Nat) (h : M.heads.length<=b) (all : List Int) : chkB M (M.heads.length - b) b all = 0:=by
  rw [show M.heads.length - b = 0 by omega]; rfl
structure OkC (M : Mm) : Prop where
  ok : Ok M
  ends : ∀ b,b < M.heads.length->chE M b = -1 - (b : Int)
  held : ∀ b,b < M.heads.length->∀ a ∈ chL M b,(a0d M a).refs ≠ 0/\(a0d M a).inn = true/\a2z (a0d M a).a (a0d M a).b M.heads.length = b
  keys : ((allC M).map (a0t M)).Nodup
theorem a5l (M : Mm) (all : List Int) (k : Int × Int) : hasK M all k = true ↔ k ∈ all.map (a0t M):=by simp [hasK]
theorem a8s (M : Mm) (b : Nat) (all : List Int) (a : Int) : a5x M b all a = 0 ↔ ((a0d M a).refs ≠ 0/\(a0d M a).inn = true/\a2z (a0d M a).a (a0d M a).b M.heads.length = b)/\¬ a0t M a ∈ all.map (a0t M):=by
  unfold a5x
  rw [<- a5l]
  by_cases h1 : (a0d M a).refs = 0\/(a0d M a).inn = false
  · rw [if_pos h1]
    constructor
    · intro h; omega
    · rintro ⟨⟨h,h',_⟩,_⟩
      rcases h1 with h1 | h1
      · exact absurd h1 h
      · rw [h'] at h1; cases h1
  rw [if_neg h1]
  have h1' : (a0d M a).refs ≠ 0/\(a0d M a).inn = true:=by
    refine ⟨fun h => h1 (.inl h),?_⟩
    cases h : (a0d M a).inn
    · exact absurd (.inr h) h1
    · rfl
  by_cases h2 : a2z (a0d M a).a (a0d M a).b M.heads.length = b
  · rw [if_neg (by simpa using h2)]
    cases h3 : hasK M all (a0t M a)
    · simp [h1',h2]
    · simp
  · rw [if_pos h2]
    constructor
    · intro h; omega
    · rintro ⟨⟨_,_,h⟩,_⟩; exact absurd h h2
theorem b8d (M : Mm) (b : Nat) (l : List Int) : ∀ all : List Int,(all.map (a0t M)).Nodup->(a5w M b all l = 0 ↔ (∀ a ∈ l,(a0d M a).refs ≠ 0/\(a0d M a).inn = true/\a2z (a0d M a).a (a0d M a).b M.heads.length = b)/\((all ++ l).map (a0t M)).Nodup):=by
  induction l with
  | nil => intro all h; simp [a5w]; exact h
  | cons a l ih =>
    intro all hn
    simp only [a5w]
    by_cases h : a5x M b all a = 0
    · rw [if_neg (by simpa using h)]
      have h':=(a8s M b all a).1 h
      have hn' : ((all ++ [a]).map (a0t M)).Nodup:=by
        rw [List.map_append,List.nodup_append]
        refine ⟨hn,by simp,?_⟩
        intro x hx y hy e
        simp at hy
        subst hy
        subst e
        exact h'.2 hx
      rw [ih (all ++ [a]) hn',List.append_assoc]
      simp only [List.mem_cons,forall_eq_or_imp,List.cons_append,List.nil_append]
      constructor
      · rintro ⟨h1,h2⟩; exact ⟨⟨h'.1,h1⟩,h2⟩
      · rintro ⟨⟨_,h1⟩,h2⟩; exact ⟨h1,h2⟩
    · rw [if_pos h]
      constructor
      · intro hh; exact absurd hh h
      · rintro ⟨h1,h2⟩
        exfalso
        apply h
        rw [a8s]
        refine ⟨h1 a (by simp),fun hm => ?_⟩
        rw [List.map_append,List.nodup_append] at h2
        exact h2.2.2 _ hm _ (by simp) rfl
theorem b5w (M : Mm) (b : Nat) : chOk M b = true ↔ chE M b = -1 - (b : Int):=by simp [chOk]
theorem b3q (M : Mm) : ∀ (k b : Nat),b + k = M.heads.length->((a1e M b).map (a0t M)).Nodup ->
    (chkB M k b (a1e M b) = 0 ↔ (∀ c,b<=c->c < M.heads.length->chE M c = -1 - (c : Int)/\∀ a ∈ chL M c,(a0d M a).refs ≠ 0/\(a0d M a).inn = true/\a2z (a0d M a).a (a0d M a).b M.heads.length = c)/\((allC M).map (a0t M)).Nodup)
  | 0,b,hb,hn => by
    have : b = M.heads.length:=by omega
    subst this
    simp only [chkB,true_iff]
    exact ⟨fun c h1 h2 => by omega,hn⟩
  | k + 1,b,hb,hn => by
    simp only [chkB]
    cases hc : chOk M b
    · simp only [Bool.false_eq_true,if_false]
      constructor
      · intro h; omega
      · rintro ⟨h,_⟩
        have:=(b5w M b).2 (h b (Nat.le_refl _) (by omega)).1
        rw [hc] at this; cases this
    · have hc':=(b5w M b).1 hc
      simp only [if_true]
      have hs:=b8d M b (chL M b) (a1e M b) hn
      rw [<- a4a] at hs ⊢
      by_cases h : a5w M b (a1e M b) (chL M b) = 0
      · rw [if_neg (by simpa using h)]
        have h':=hs.1 h
        rw [b3q M k (b + 1) (by omega) h'.2]
        constructor
        · rintro ⟨h1,h2⟩
          refine ⟨fun c hc1 hc2 => ?_,h2⟩
          by_cases e : c = b
          · subst e; exact ⟨hc',h'.1⟩
          · exact h1 c (by omega) hc2
        · rintro ⟨h1,h2⟩
          exact ⟨fun c hc1 hc2 => h1 c (by omega) hc2,h2⟩
      · rw [if_pos h]
        constructor
        · intro hh; exact absurd hh h
        · rintro ⟨h1,h2⟩
          exfalso
          apply h
          rw [hs]
          refine ⟨(h1 b (Nat.le_refl _) (by omega)).2,?_⟩
          have e : allC M = a1e M (b + 1) ++ ((List.range (M.heads.length - (b + 1))).map (· + (b + 1))).flatMap (chL M):=by
            unfold allC a1e
            rw [<- List.flatMap_append]
            congr 1
            rw [show M.heads.length = (b + 1) + (M.heads.length - (b + 1)) by omega,List.range_add]
            simp [Nat.add_comm]
          rw [e,List.map_append,List.nodup_append] at h2
          exact h2.1
theorem a7e (M : Mm) : chkC M = 0 ↔ OkC M:=by
  unfold chkC
  by_cases h : chk M = 0
  · rw [if_neg (by simpa using h),show ([] : List Int) = a1e M 0 from rfl,b3q M M.heads.length 0 (by omega) (by simp [a1e])]
    constructor
    · rintro ⟨h1,h2⟩
      exact ⟨(a6k M).1 h,fun b hb => (h1 b (Nat.zero_le _) hb).1,fun b hb => (h1 b (Nat.zero_le _) hb).2,h2⟩
    · rintro ⟨_,h1,h2,h3⟩
      exact ⟨fun c _ hc => ⟨h1 c hc,h2 c hc⟩,h3⟩
  · rw [if_pos h]
    constructor
    · intro hh; exact absurd hh h
    · intro hh; exact absurd ((a6k M).2 hh.ok) h
end
section
structure Cl where
  kind : Int
  a : Int
  b : Int
  time : Int
  bk : Int
  slot : Int
structure Fr where
  c : Cl
  pl : Int
  cur : Int
  prev : Int
  slot : Int
  n : Int
  keys : List (Int × Int)
  done : Bool
  e : Int
def a2o (nS nH : Nat) (c : Cl) : Int :=
  if c.kind = 1\/c.kind = 3 then (if keyB c.a c.b then 0 else 3)
  else if c.kind = 2 then (if inB c.time 1 1000000 && keyB c.a c.b then 0 else 3)
  else if c.kind = 4\/c.kind = 5 then (if inB c.bk 0 ((nH : Int) - 1) then 0 else 5)
  else if c.kind = 6 then (if inB c.slot 0 ((nS : Int) - 1) then 0 else 5)
  else 4
def frE (nS nH : Nat) (f : Fr) : Int :=
  if a2o nS nH f.c ≠ 0 then a2o nS nH f.c
  else if inB f.pl 0 9 = false\/inB f.n 0 1000000 = false\/f.done = true then 3
  else if inB f.cur (-(nH : Int)) nS = false\/inB f.prev 0 nS = false\/inB f.slot (-1) ((nS : Int) - 1) = false then 5
  else if 100 < f.keys.length then 2 else 0
def bkOf (nH : Nat) (c : Cl) : Int :=
  if c.kind = 4\/c.kind = 5 then c.bk
  else if keyB c.a c.b then (if 1<=nH/\nH<=4 then a2z c.a c.b nH else 0) else 0
def newF (c : Cl) : Fr:=⟨c,0,0,0,-1,0,[],false,0⟩
def endF (f : Fr) (e : Int) : Fr:={ f with done:=true,e:=e }
theorem b9f {nS nH : Nat} {k a b t bk sl : Int} (h : k = 1\/k = 3) : a2o nS nH ⟨k,a,b,t,bk,sl⟩ = if keyB a b then 0 else 3:=by
  unfold a2o; rw [if_pos h]
theorem b3k {nS nH : Nat} {a b t bk sl : Int} : a2o nS nH ⟨2,a,b,t,bk,sl⟩ = if inB t 1 1000000 && keyB a b then 0 else 3:=by
  unfold a2o; rw [if_neg (by simp),if_pos rfl]
theorem callE_bk {nS nH : Nat} {k a b t bk sl : Int} (h : k = 4\/k = 5) : a2o nS nH ⟨k,a,b,t,bk,sl⟩ = if inB bk 0 ((nH : Int) - 1) then 0 else 5:=by
  unfold a2o; rw [if_neg (by dsimp only; omega),if_neg (by dsimp only; omega),if_pos h]
theorem b4u {nS nH : Nat} {a b t bk sl : Int} : a2o nS nH ⟨6,a,b,t,bk,sl⟩ = if inB sl 0 ((nS : Int) - 1) then 0 else 5:=by
  unfold a2o; rw [if_neg (by simp),if_neg (by simp),if_neg (by simp),if_pos rfl]
theorem callE_no {nS nH : Nat} {k a b t bk sl : Int} (h : k < 1\/6 < k) : a2o nS nH ⟨k,a,b,t,bk,sl⟩ = 4:=by
  unfold a2o; rw [if_neg (by dsimp only; omega),if_neg (by dsimp only; omega),if_neg (by dsimp only; omega),if_neg (by dsimp only; omega)]
end
section
def ownB (M : Mm) (a : Int) : Nat:=(a2z (a0d M a).a (a0d M a).b M.heads.length).toNat
def a4f (M : Mm) (a : Int) : Mm:={ M with slots:=M.slots.set a.toNat { a0d M a with next:=a0v M (ownB M a),inn:=true },heads:=M.heads.set (ownB M a) (a + 1) }
def a7c (a : Int) : List Int->Int->Int->Int
  | [],ah,_ => ah
  | c :: l,ah,la => a7c a l (if c == a then la else ah) (c + 1)
def cutM (M : Mm) (b : Nat) (ahead a : Int) : Mm :=
  if 0 < ahead then { M with slots:=M.slots.set (ahead - 1).toNat { a0d M (ahead - 1) with next:=(a0d M a).next } } else { M with heads:=M.heads.set b (a0d M a).next }
def Path (S : List Sl) : Int->List Int->Int->Prop
  | n,[],e => n = e/\n<=0
  | n,a :: l,e => n = a + 1/\0<=a/\Path S (S.getD a.toNat sl0).next l e
theorem a8c (S : List Sl) : ∀ (k : Nat) (n : Int),a5f S k n<=0->Path S n (a3r S k n) (a5f S k n)/\(a3r S k n).length<=k
  | 0,n,h => ⟨⟨rfl,h⟩,by simp [a3r]⟩
  | k + 1,n,h => by
    simp only [a5f,a3r] at h ⊢
    by_cases hn : 0 < n
    · rw [if_pos hn] at h
      rw [if_pos hn,if_pos hn]
      have:=a8c S k _ h
      exact ⟨⟨by omega,by omega,this.1⟩,by simpa using this.2⟩
    · rw [if_neg hn] at h
      rw [if_neg hn,if_neg hn]
      exact ⟨⟨rfl,h⟩,by simp⟩
theorem a6i (S : List Sl) : ∀ (k : Nat) (n : Int) (l : List Int) (e : Int),Path S n l e->l.length<=k->a3r S k n = l/\a5f S k n = e
  | k,n,[],e,h,hl => by
    obtain ⟨rfl,h⟩:=h
    cases k with
    | zero => exact ⟨rfl,rfl⟩
    | succ k => simp only [a5f,a3r]; rw [if_neg (by omega),if_neg (by omega)]; exact ⟨rfl,rfl⟩
  | 0,n,a :: l,e,h,hl => by simp at hl
  | k + 1,n,a :: l,e,h,hl => by
    obtain ⟨rfl,h0,h⟩:=h
    have:=a6i S k _ l e h (by simpa using hl)
    simp only [a5f,a3r,a5v]
    rw [if_pos (by omega),if_pos (by omega),show a + 1 - 1 = a by omega]
    rw [this.1,this.2]
    exact ⟨rfl,rfl⟩
theorem a6p {S S' : List Sl} : ∀ {n : Int} {l : List Int} {e : Int},(∀ a ∈ l,(S'.getD a.toNat sl0).next = (S.getD a.toNat sl0).next)->Path S n l e->Path S' n l e
  | _,[],_,_,h => h
  | _,a :: l,_,hh,h => by
    refine ⟨h.1,h.2.1,?_⟩
    rw [hh a (by simp)]
    exact a6p (fun x hx => hh x (by simp [hx])) h.2.2
def a6u (S : List Sl) : Int->List Int->Int->Prop
  | n,[],e => n = e
  | n,a :: l,e => n = a + 1/\0<=a/\a6u S (S.getD a.toNat sl0).next l e
theorem b3f {S : List Sl} : ∀ {n : Int} {l1 l2 : List Int} {e : Int},Path S n (l1 ++ l2) e ↔ ∃ m,a6u S n l1 m/\Path S m l2 e
  | n,[],l2,e => by simp [a6u]
  | n,a :: l1,l2,e => by
    simp only [List.cons_append,Path,a6u,b3f (l1:=l1)]
    constructor
    · rintro ⟨h1,h2,m,h3,h4⟩; exact ⟨m,⟨h1,h2,h3⟩,h4⟩
    · rintro ⟨m,⟨h1,h2,h3⟩,h4⟩; exact ⟨h1,h2,m,h3,h4⟩
theorem a6y {S : List Sl} : ∀ {n : Int} {l : List Int} {p e : Int},a6u S n (l ++ [p]) e ↔ a6u S n l (p + 1)/\0<=p/\(S.getD p.toNat sl0).next = e
  | n,[],p,e => by simp [a6u]
  | n,a :: l,p,e => by
    simp only [List.cons_append,a6u,a6y (l:=l)]
    constructor
    · rintro ⟨h1,h2,h3,h4⟩; exact ⟨⟨h1,h2,h3⟩,h4⟩
    · rintro ⟨⟨h1,h2,h3⟩,h4⟩; exact ⟨h1,h2,h3,h4⟩
theorem a9a {S S' : List Sl} : ∀ {n : Int} {l : List Int} {e : Int},(∀ a ∈ l,(S'.getD a.toNat sl0).next = (S.getD a.toNat sl0).next)->a6u S n l e->a6u S' n l e
  | _,[],_,_,h => h
  | _,a :: l,_,hh,h => by
    refine ⟨h.1,h.2.1,?_⟩
    rw [hh a (by simp)]
    exact a9a (fun x hx => hh x (by simp [hx])) h.2.2
theorem b0u {S : List Sl} : ∀ {n : Int} {l : List Int} {e : Int},Path S n l e->∀ a ∈ l,0<=a
  | _,[],_,_,_,ha => by cases ha
  | _,x :: l,_,h,a,ha => by
    rcases List.mem_cons.1 ha with rfl | ha
    · exact h.2.1
    · exact b0u h.2.2 a ha
theorem c1n {S : List Sl} {N : Nat} (hs : ∀ s ∈ S,s.next<=N) (h0 : (0 : Int)<=N) : ∀ {n : Int} {l : List Int} {e : Int},n<=N->Path S n l e->∀ a ∈ l,a < N
  | _,[],_,_,_,_,ha => by cases ha
  | n,x :: l,_,hn,h,a,ha => by
    rcases List.mem_cons.1 ha with rfl | ha
    · have:=h.1; omega
    · refine c1n hs h0 (n:=(S.getD x.toNat sl0).next) ?_ h.2.2 a ha
      by_cases hx : x.toNat < S.length
      · rw [getD_lt S _ hx]; exact hs _ (List.getElem_mem hx)
      · rw [List.getD_eq_getElem?_getD,List.getElem?_eq_none (by omega)]; exact h0
theorem few' : ∀ (n : Nat) (l : List Int),l.Nodup->(∀ a ∈ l,0<=a/\a < n)->l.length<=n
  | 0,l,hn,h => by
    match l,h with
    | [],_ => simp
    | a :: _,h => have:=h a (by simp); omega
  | n + 1,l,hn,h => by
    have h1:=few' n (l.erase (n : Int)) (hn.erase _) (fun a ha => by
      have h3:=(hn.mem_erase_iff).1 ha
      have h4:=h a h3.2
      have h5:=h3.1
      omega)
    rw [List.length_erase] at h1
    split at h1 <;> omega
theorem OkC.path {M : Mm} (h : OkC M) {b : Nat} (hb : b < M.heads.length) : Path M.slots (a0v M b) (chL M b) (-1 - (b : Int)):=by
  have e:=h.ends b hb
  have:=(a8c M.slots M.slots.length (a0v M b) (by show chE M b<=0; omega)).1
  rw [show a5f M.slots M.slots.length (a0v M b) = -1 - (b : Int) from e] at this
  exact this
theorem Ok.a7k {M : Mm} (h : Ok M) {b : Nat} (hb : b < M.heads.length) : a0v M b ≠ 0/\inB (a0v M b) (-(M.heads.length : Int)) M.slots.length = true:=by
  have hl : b < M.a0b.length:=by have:=h.nl; omega
  have hz : b < (M.heads.zip M.a0b).length:=by simp; omega
  have:=h.chain _ (List.getElem_mem hz)
  simp only [List.getElem_zip,a2f] at this
  have e : a0v M b = M.heads[b]:=by simp [a0v,List.getD_eq_getElem?_getD,hb]
  rw [e]
  split at this
  · rename_i hh; exact hh
  · omega
theorem OkC.slots {M : Mm} (h : OkC M) {b : Nat} (hb : b < M.heads.length) : ∀ a ∈ chL M b,0<=a/\a < M.slots.length:=by
  intro a ha
  have hp:=h.path hb
  refine ⟨b0u hp a ha,c1n (fun s hs => ?_) (by omega) ?_ hp a ha⟩
  · have:=(a2t (h.ok.slot s hs)).2.2.2
    exact ((a0h _ _ _).1 this).2
  · exact ((a0h _ _ _).1 (h.ok.a7k hb).2).2
theorem c1c {M : Mm} {n : Nat} {a : Int} : a ∈ a1e M n ↔ ∃ b,b < n/\a ∈ chL M b:=by simp [a1e]
theorem a2u {M : Mm} {a : Int} : a ∈ allC M ↔ ∃ b,b < M.heads.length/\a ∈ chL M b:=c1c
theorem a2p {α β : Type} {f : α->β} : ∀ {l : List α},(l.map f).Nodup->l.Nodup
  | [],_ => by simp
  | a :: l,h => by
    rw [List.map_cons,List.nodup_cons] at h
    rw [List.nodup_cons]
    exact ⟨fun hm => h.1 (List.mem_map_of_mem hm),a2p h.2⟩
theorem a8g (M : Mm) {b : Nat} (hb : b < M.heads.length) : ∃ l2,allC M = a1e M b ++ chL M b ++ l2/\l2 = ((List.range (M.heads.length - (b + 1))).map (· + (b + 1))).flatMap (chL M):=by
  refine ⟨_,?_,rfl⟩
  rw [<- a4a]
  unfold allC a1e
  rw [<- List.flatMap_append]
  congr 1
  rw [show M.heads.length = (b + 1) + (M.heads.length - (b + 1)) by omega,List.range_add]
  simp [Nat.add_comm]
theorem OkC.nodup {M : Mm} (h : OkC M) {b : Nat} (hb : b < M.heads.length) : (chL M b).Nodup:=by
  obtain ⟨l2,e,_⟩:=a8g M hb
  have:=a2p h.keys
  rw [e,List.nodup_append,List.nodup_append] at this
  exact this.1.2.1
theorem OkC.a4m {M : Mm} (h : OkC M) : ∀ a ∈ allC M,0<=a/\a < M.slots.length:=by
  intro a ha
  obtain ⟨b,hb,hm⟩:=a2u.1 ha
  exact h.slots hb a hm
end
section
theorem a9z (a b : Int) {n : Nat} (hn : 1<=n) : 0<=a2z a b n/\a2z a b n < n:=⟨Int.emod_nonneg _ (by omega),Int.emod_lt_of_pos _ (by omega)⟩
theorem ownB_lt {M : Mm} (h : Ok M) (a : Int) : ownB M a < M.heads.length:=by
  have:=a9z (a0d M a).a (a0d M a).b h.nh.1
  unfold ownB; omega
theorem ownB_eq {M : Mm} (h : Ok M) (a : Int) : (ownB M a : Int) = a2z (a0d M a).a (a0d M a).b M.heads.length:=by
  have:=a9z (a0d M a).a (a0d M a).b h.nh.1
  unfold ownB; omega
theorem a3l {f g : Nat->List Int} : ∀ {l : List Nat},(∀ c ∈ l,f c = g c)->l.flatMap f = l.flatMap g
  | [],_ => rfl
  | c :: l,h => by
    rw [List.flatMap_cons,List.flatMap_cons,h c (by simp),a3l (fun x hx => h x (by simp [hx]))]
theorem b3i {M M' : Mm} {b : Nat} (hb : b < M.heads.length) (hl : M'.heads.length = M.heads.length) (h : ∀ c,c < M.heads.length->c ≠ b->chL M' c = chL M c) :
    ∃ l1 l2,allC M = l1 ++ chL M b ++ l2/\allC M' = l1 ++ chL M' b ++ l2:=by
  obtain ⟨x,e,ex⟩:=a8g M hb
  obtain ⟨y,e',ey⟩:=a8g M' (b:=b) (by omega)
  have h1 : a1e M' b = a1e M b:=a3l fun c hc => by
    rw [List.mem_range] at hc
    exact h c (by omega) (by omega)
  have h2 : y = x:=by
    rw [ex,ey,hl]
    refine a3l fun c hc => ?_
    simp only [List.mem_map,List.mem_range] at hc
    obtain ⟨d,hd,rfl⟩:=hc
    exact h _ (by omega) (by omega)
  exact ⟨a1e M b,x,e,by rw [e',h1,h2]⟩
theorem b2d {M : Mm} {S : List Sl} {H : List Int} {j : Nat} {s : Sl} (hj : j < M.slots.length) (hS : S = M.slots.set j s) (x : Int) : a0d { M with slots:=S,heads:=H } x = if x.toNat = j then s else a0d M x:=by
  subst hS
  unfold a0d
  dsimp only
  by_cases e : x.toNat = j
  · rw [if_pos e,e,a2y _ _ _ hj]
  · rw [if_neg e,a1s _ _ _ _ (fun h => e h.symm)]
theorem b0j {M : Mm} {S : List Sl} {b c : Nat} {n : Int} (hb : b < M.heads.length) : a0v { M with slots:=S,heads:=M.heads.set b n } c = if c = b then n else a0v M c:=by
  unfold a0v
  dsimp only
  by_cases e : c = b
  · subst e; rw [if_pos rfl]; simp [List.getD_eq_getElem?_getD,hb]
  · rw [if_neg e]; simp [List.getD_eq_getElem?_getD,List.getElem?_set_ne (fun h => e h.symm)]
theorem Ok.turn {M : Mm} (h : Ok M) {j b : Nat} (hj : j < M.slots.length) {nx hd : Int} {inn : Bool} (h1 : inB nx (-(M.heads.length : Int)) M.slots.length = true) (h2 : hd ≠ 0/\inB hd (-(M.heads.length : Int)) M.slots.length = true) :
    Ok { M with slots:=M.slots.set j { a0d M j with next:=nx,inn:=inn },heads:=M.heads.set b hd }:=by
  have hs : a0d M j = M.slots[j]:=by simp [a0d,List.getD_eq_getElem?_getD,hj]
  have hgood:=a2t (h.slot _ (List.getElem_mem hj))
  have hr : ∀ i : Nat,((M.slots.set j { a0d M j with next:=nx,inn:=inn }).getD i sl0).refs = (M.slots.getD i sl0).refs:=fun i => by
    by_cases e : j = i
    · subst e; rw [a2y _ _ _ hj]; rfl
    · rw [a1s _ _ _ _ e]
  refine ⟨by simpa using h.ns,by simpa using h.nh,by simpa using h.nl,h.now,?_,?_,?_,h.nodup,?_⟩
  · intro x hx
    dsimp only at hx ⊢
    rw [List.length_set,List.length_set]
    rcases List.mem_or_eq_of_mem_set hx with hx | rfl
    · exact h.slot x hx
    · rw [hs]
      exact a7i hgood.1 hgood.2.1 hgood.2.2.1 h1
  · intro p hp
    dsimp only at hp ⊢
    rw [List.length_set,List.length_set]
    obtain ⟨i,hi,rfl⟩:=List.getElem_of_mem hp
    have hi' : i < (M.heads.zip M.a0b).length:=by simpa using hi
    have:=h.chain _ (List.getElem_mem hi')
    rw [List.getElem_zip] at this ⊢
    rw [List.getElem_set]
    unfold a2f at this ⊢
    dsimp only at this ⊢
    by_cases e : b = i
    · rw [if_pos e,if_pos h2]
      split at this
      · exact this
      · omega
    · rw [if_neg e]; exact this
  · intro a ha
    have:=(a2a _ _).1 (h.free a ha)
    rw [a2a]
    refine ⟨this.1,by simpa using this.2.1,?_⟩
    rw [hr]; exact this.2.2
  · intro i hi hr'
    dsimp only at hi hr'
    rw [hr] at hr'
    exact h.all i (by simpa using hi) hr'
structure Linked (M M' : Mm) (a : Int) (b : Nat) : Prop where
  okc : OkC M'
  nh : M'.heads.length = M.heads.length
  ns : M'.slots.length = M.slots.length
  at_ : chL M' b = a :: chL M b
  else_ : ∀ c,c < M.heads.length->c ≠ b->chL M' c = chL M c
  key : ∀ x,a0t M' x = a0t M x
  unt : ∀ x,(a0d M' x).unt = (a0d M x).unt
  refs : ∀ x,(a0d M' x).refs = (a0d M x).refs
theorem link_ok {M : Mm} (h : OkC M) {a : Int} (ha : isSl M a = true) (hr : a0s M a ≠ 0) (hk : hasK M (allC M) (a0t M a) = false) : Linked M (a4f M a) a (ownB M a):=by
  obtain ⟨j,rfl,hj⟩:=(a4q M a).1 ha
  have hb:=ownB_lt h.ok j
  have hbe:=ownB_eq h.ok j
  have hhd:=h.ok.a7k hb
  have hnk : ¬ a0t M j ∈ (allC M).map (a0t M):=fun hm => by rw [(a5l M _ _).2 hm] at hk; cases hk
  have hna : ¬ (j : Int) ∈ allC M:=fun hm => hnk (List.mem_map_of_mem hm)
  have hok : Ok (a4f M j):=h.ok.turn (b:=ownB M j) hj hhd.2 ⟨by omega,by rw [a0h]; omega⟩
  have hsl : ∀ x,a0d (a4f M j) x = if x.toNat = j then { a0d M j with next:=a0v M (ownB M j),inn:=true } else a0d M x:=fun x => b2d (j:=j) hj rfl x
  have hsx : ∀ x : Int,x.toNat = j->a0d M x = a0d M j:=fun x hx => by unfold a0d; rw [hx,Int.toNat_natCast]
  have key : ∀ x,a0t (a4f M j) x = a0t M x:=fun x => by
    unfold a0t; rw [hsl]; split
    · rename_i e; rw [hsx x e]
    · rfl
  have unt : ∀ x,(a0d (a4f M j) x).unt = (a0d M x).unt:=fun x => by
    rw [hsl]; split
    · rename_i e; rw [hsx x e]
    · rfl
  have refs : ∀ x,(a0d (a4f M j) x).refs = (a0d M x).refs:=fun x => by
    rw [hsl]; split
    · rename_i e; rw [hsx x e]
    · rfl
  have hhead : ∀ c,a0v (a4f M j) c = if c = ownB M j then (j : Int) + 1 else a0v M c:=fun c => b0j hb
  have nh : (a4f M j).heads.length = M.heads.length:=by simp [a4f]
  have ns : (a4f M j).slots.length = M.slots.length:=by simp [a4f]
  have cong : ∀ c,c < M.heads.length->Path (a4f M j).slots (a0v M c) (chL M c) (-1 - (c : Int)):=fun c hc => by
    refine a6p (fun x hx => ?_) (h.path hc)
    have:=hsl x
    have hx0:=h.slots hc x hx
    have hne : x.toNat ≠ j:=fun e => hna (a2u.2 ⟨c,hc,by rw [show (j : Int) = x by omega]; exact hx⟩)
    rw [if_neg hne] at this
    unfold a0d at this
    rw [this]
  have other : ∀ c,c < M.heads.length->c ≠ ownB M j->chL (a4f M j) c = chL M c/\chE (a4f M j) c = -1 - (c : Int):=fun c hc hne => by
    have hw:=(a8c M.slots M.slots.length (a0v M c) (by show chE M c<=0; have:=h.ends c hc; omega)).2
    have:=a6i _ M.slots.length _ _ _ (cong c hc) hw
    unfold chL chE
    rw [hhead,if_neg hne,ns]
    exact this
  have own : chL (a4f M j) (ownB M j) = (j : Int) :: chL M (ownB M j)/\chE (a4f M j) (ownB M j) = -1 - (ownB M j : Int):=by
    have hp : Path (a4f M j).slots ((j : Int) + 1) ((j : Int) :: chL M (ownB M j)) (-1 - (ownB M j : Int)):=by
      refine ⟨rfl,by omega,?_⟩
      have:=hsl j
      rw [if_pos (Int.toNat_natCast j)] at this
      unfold a0d at this
      rw [this]
      exact cong _ hb
    have hlen : ((j : Int) :: chL M (ownB M j)).length<=M.slots.length:=by
      refine few' _ _ ?_ ?_
      · rw [List.nodup_cons]
        exact ⟨fun hm => hna (a2u.2 ⟨_,hb,hm⟩),h.nodup hb⟩
      · intro x hx
        rcases List.mem_cons.1 hx with rfl | hx
        · omega
        · exact h.slots hb x hx
    have:=a6i _ M.slots.length _ _ _ hp hlen
    unfold chL chE
    rw [hhead,if_pos rfl,ns]
    exact this
  obtain ⟨l1,l2,e1,e2⟩:=b3i hb nh (fun c hc hne => (other c hc hne).1)
  refine ⟨⟨hok,?_,?_,?_⟩,nh,ns,own.1,fun c hc hne => (other c hc hne).1,key,unt,refs⟩
  · intro c hc
    rw [nh] at hc
    by_cases e : c = ownB M j
    · subst e; exact own.2
    · exact (other c hc e).2
  · intro c hc x hx
    rw [nh] at hc ⊢
    have inn : ∀ x,(a0d M x).inn = true->(a0d (a4f M j) x).inn = true:=fun x hh => by
      rw [hsl]; split
      · rfl
      · exact hh
    have bk : ∀ x,a2z (a0d (a4f M j) x).a (a0d (a4f M j) x).b M.heads.length = a2z (a0d M x).a (a0d M x).b M.heads.length:=fun x => by
      have:=key x
      unfold a0t at this
      injection this with t1 t2
      rw [t1,t2]
    by_cases e : c = ownB M j
    · subst e
      rw [own.1] at hx
      rcases List.mem_cons.1 hx with rfl | hx
      · refine ⟨by rw [refs]; exact hr,?_,by rw [bk,<- hbe]⟩
        rw [hsl,if_pos (Int.toNat_natCast j)]
      · have:=h.held _ hb x hx
        exact ⟨by rw [refs]; exact this.1,inn x this.2.1,by rw [bk]; exact this.2.2⟩
    · rw [(other c hc e).1] at hx
      have:=h.held _ hc x hx
      exact ⟨by rw [refs]; exact this.1,inn x this.2.1,by rw [bk]; exact this.2.2⟩
  · rw [show a0t (a4f M j) = a0t M from funext key,e2,own.1]
    have hk2:=h.keys
    rw [e1] at hk2
    have hp : (l1 ++ (j : Int) :: chL M (ownB M j) ++ l2).Perm ((j : Int) :: (l1 ++ chL M (ownB M j) ++ l2)):=by
      simp only [List.append_assoc,List.cons_append]
      exact List.perm_middle
    rw [(hp.map _).nodup_iff,List.map_cons,List.nodup_cons]
    exact ⟨by rw [<- e1]; exact hnk,hk2⟩
def lastN (l : List Int) : Int:=match l.getLast? with | none => 0 | some p => p + 1
theorem b7o (l : List Int) (c : Int) : lastN (l ++ [c]) = c + 1:=by simp [lastN]
theorem b1h {a : Int} : ∀ {l : List Int} {ah la : Int},¬ a ∈ l->a7c a l ah la = ah
  | [],_,_,_ => rfl
  | c :: l,ah,la,h => by
    simp only [List.mem_cons,not_or] at h
    simp only [a7c]
    rw [if_neg (by simpa using fun e => h.1 (Eq.symm e))]
    exact b1h h.2
theorem b2k {a : Int} : ∀ {l1 l2 : List Int} {ah la : Int},¬ a ∈ l1->¬ a ∈ l2->a7c a (l1 ++ a :: l2) ah la = match l1.getLast? with | none => la | some p => p + 1
  | [],l2,ah,la,_,h => by simp only [List.nil_append,a7c]; rw [if_pos (by simp)]; exact b1h h
  | c :: l,l2,ah,la,h,h' => by
    simp only [List.mem_cons,not_or] at h
    simp only [List.cons_append,a7c]
    rw [if_neg (by simpa using fun e => h.1 (Eq.symm e)),b2k h.2 h']
    cases l with
    | nil => rfl
    | cons d l => simp [List.getLast?_cons]
structure Cutted (M M' : Mm) (a : Int) (b : Nat) : Prop where
  okc : OkC M'
  nh : M'.heads.length = M.heads.length
  ns : M'.slots.length = M.slots.length
  at_ : ∃ l1 l2,chL M b = l1 ++ a :: l2/\chL M' b = l1 ++ l2
  else_ : ∀ c,c < M.heads.length->c ≠ b->chL M' c = chL M c
  key : ∀ x,a0t M' x = a0t M x
  unt : ∀ x,(a0d M' x).unt = (a0d M x).unt
  refs : ∀ x,(a0d M' x).refs = (a0d M x).refs
theorem cut_ok {M : Mm} (h : OkC M) {b : Nat} (hb : b < M.heads.length) {a : Int} (ha : a ∈ chL M b) : Cutted M (cutM M b (a7c a (chL M b) 0 0) a) a b:=by
  obtain ⟨l1,l2,hl⟩:=List.append_of_mem ha
  have hnd:=h.nodup hb
  rw [hl,List.nodup_append,List.nodup_cons] at hnd
  have na1 : ¬ a ∈ l1:=fun hm => hnd.2.2 a hm a (by simp) rfl
  have na2:=hnd.2.1.1
  have hah : a7c a (chL M b) 0 0 = lastN l1:=by rw [hl,b2k na1 na2]; rfl
  have ha0:=h.slots hb a ha
  have hsa : a0d M a = M.slots[a.toNat]'(by omega):=by simp [a0d,List.getD_eq_getElem?_getD,show a.toNat < M.slots.length by omega]
  have hnx : inB (a0d M a).next (-(M.heads.length : Int)) M.slots.length = true:=by
    rw [hsa]; exact (a2t (h.ok.slot _ (List.getElem_mem _))).2.2.2
  have hpath:=h.path hb
  rw [hl,b3f] at hpath
  obtain ⟨m,hp1,hm,-,hp2⟩:=hpath
  have hp2' : Path M.slots (a0d M a).next l2 (-1 - (b : Int)):=hp2
  have hlen : ∀ c,c < M.heads.length->(chL M c).length<=M.slots.length:=fun c hc => (a8c M.slots M.slots.length (a0v M c) (by show chE M c<=0; have:=h.ends c hc; omega)).2
  have apart : ∀ c,c < M.heads.length->c ≠ b->∀ x,x ∈ chL M b->¬ x ∈ chL M c:=fun c hc hne x hx hx' => by
    have:=(h.held b hb x hx).2.2
    have:=(h.held c hc x hx').2.2
    omega
  -- what is asked of a memory that is so changed
  have fin : ∀ M' : Mm,Ok M'->M'.heads.length = M.heads.length->M'.slots.length = M.slots.length->(∀ x,a0t M' x = a0t M x)->(∀ x,(a0d M' x).unt = (a0d M x).unt)->(∀ x,(a0d M' x).refs = (a0d M x).refs)->(∀ x,(a0d M' x).inn = (a0d M x).inn) ->
      Path M'.slots (a0v M' b) (l1 ++ l2) (-1 - (b : Int))->(∀ c,c < M.heads.length->c ≠ b->Path M'.slots (a0v M' c) (chL M c) (-1 - (c : Int)))->Cutted M M' a b:=by
    intro M' hok nh ns key unt refs inn pb pc
    have own : chL M' b = l1 ++ l2/\chE M' b = -1 - (b : Int):=by
      unfold chL chE
      rw [ns]
      refine a6i _ _ _ _ _ pb ?_
      have:=hlen b hb
      rw [hl] at this
      simp only [List.length_append,List.length_cons] at this ⊢
      omega
    have other : ∀ c,c < M.heads.length->c ≠ b->chL M' c = chL M c/\chE M' c = -1 - (c : Int):=fun c hc hne => by
      have:=a6i _ M.slots.length _ _ _ (pc c hc hne) (hlen c hc)
      unfold chL chE
      rw [ns]
      exact this
    obtain ⟨k1,k2,e1,e2⟩:=b3i hb nh (fun c hc hne => (other c hc hne).1)
    refine ⟨⟨hok,?_,?_,?_⟩,nh,ns,⟨l1,l2,hl,own.1⟩,fun c hc hne => (other c hc hne).1,key,unt,refs⟩
    · intro c hc
      rw [nh] at hc
      by_cases e : c = b
      · subst e; exact own.2
      · exact (other c hc e).2
    · intro c hc x hx
      rw [nh] at hc ⊢
      have hx' : x ∈ chL M c:=by
        by_cases e : c = b
        · subst e
          rw [own.1] at hx
          rw [hl]
          rcases List.mem_append.1 hx with hx | hx
          · simp [hx]
          · simp [hx]
        · rw [<- (other c hc e).1]; exact hx
      have:=h.held _ hc x hx'
      have hk:=key x
      unfold a0t at hk
      injection hk with t1 t2
      exact ⟨by rw [refs]; exact this.1,by rw [inn]; exact this.2.1,by rw [t1,t2]; exact this.2.2⟩
    · rw [show a0t M' = a0t M from funext key,e2,own.1]
      have hk2:=h.keys
      rw [e1,hl] at hk2
      have hp : (k1 ++ (l1 ++ a :: l2) ++ k2).Perm (a :: (k1 ++ (l1 ++ l2) ++ k2)):=by
        have : k1 ++ (l1 ++ a :: l2) ++ k2 = (k1 ++ l1) ++ a :: (l2 ++ k2):=by simp
        rw [this]
        refine List.perm_middle.trans ?_
        simp
      rw [(hp.map _).nodup_iff,List.map_cons,List.nodup_cons] at hk2
      exact hk2.2
  rw [hah]
  rcases (show l1 = []\/∃ l' p,l1 = l' ++ [p] by
      rcases List.eq_nil_or_concat l1 with h1 | ⟨l',p,h1⟩
      · exact .inl h1
      · exact .inr ⟨l',p,by rw [h1,List.concat_eq_append]⟩) with rfl | ⟨l',p,rfl⟩
  · rw [show lastN [] = 0 from rfl]
    unfold cutM
    rw [if_neg (by omega)]
    have hq : a0v M b = m:=hp1
    refine fin _ ?_ (by simp) rfl (fun _ => rfl) (fun _ => rfl) (fun _ => rfl) (fun _ => rfl) ?_ ?_
    · have hn0 : (a0d M a).next ≠ 0:=by
        intro h0
        rw [h0] at hp2'
        cases l2 with
        | nil => have:=hp2'.1; omega
        | cons x l => have:=hp2'.1; have:=hp2'.2.1; omega
      have:=h.ok.turn (j:=a.toNat) (b:=b) (inn:=(a0d M a).inn) (by omega) hnx ⟨hn0,hnx⟩
      have he : M.slots.set a.toNat { a0d M (a.toNat : Int) with next:=(a0d M a).next,inn:=(a0d M a).inn } = M.slots:=by
        rw [show ((a.toNat : Nat) : Int) = a by omega]
        show M.slots.set a.toNat (a0d M a) = _
        rw [hsa,List.set_getElem_self]
      rw [he] at this
      exact this
    · have:=b0j (M:=M) (S:=M.slots) (b:=b) (c:=b) (n:=(a0d M a).next) hb
      rw [if_pos rfl] at this
      show Path M.slots (a0v { M with heads:=M.heads.set b (a0d M a).next } b) _ _
      rw [show a0v { M with heads:=M.heads.set b (a0d M a).next } b = (a0d M a).next from this]
      exact hp2'
    · intro c hc hne
      have:=b0j (M:=M) (S:=M.slots) (b:=b) (c:=c) (n:=(a0d M a).next) hb
      rw [if_neg hne] at this
      show Path M.slots (a0v { M with heads:=M.heads.set b (a0d M a).next } c) _ _
      rw [show a0v { M with heads:=M.heads.set b (a0d M a).next } c = a0v M c from this]
      exact h.path hc
  · rw [b7o]
    rw [a6y] at hp1
    have hpm : p ∈ chL M b:=by rw [hl]; simp
    have hp0:=h.slots hb p hpm
    unfold cutM
    rw [if_pos (by omega),show p + 1 - 1 = p by omega]
    have hjp : p.toNat < M.slots.length:=by omega
    have hsl : ∀ x,a0d { M with slots:=M.slots.set p.toNat { a0d M p with next:=(a0d M a).next } } x = if x.toNat = p.toNat then { a0d M p with next:=(a0d M a).next } else a0d M x:=fun x => b2d (H:=M.heads) hjp rfl x
    have hsx : ∀ x : Int,x.toNat = p.toNat->a0d M x = a0d M p:=fun x hx => by unfold a0d; rw [hx]
    have hpn : ¬ p ∈ l':=by
      intro hm
      rw [List.nodup_append] at hnd
      exact hnd.1.2.2 p hm p (by simp) rfl
    have hpn2 : ¬ p ∈ l2:=fun hm => hnd.2.2 p (by simp) p (by simp [hm]) rfl
    have nxt : ∀ x,x ∈ chL M b\/(∃ c,c < M.heads.length/\c ≠ b/\x ∈ chL M c)->x ≠ p->((M.slots.set p.toNat { a0d M p with next:=(a0d M a).next }).getD x.toNat sl0).next = (M.slots.getD x.toNat sl0).next:=fun x hx hne => by
      have hx0 : 0<=x:=by
        rcases hx with hx | ⟨c,hc,_,hx⟩
        · exact (h.slots hb x hx).1
        · exact (h.slots hc x hx).1
      rw [a1s _ _ _ _ (by omega)]
    refine fin _ ?_ rfl (by simp) ?_ ?_ ?_ ?_ ?_ ?_
    · have hhd:=h.ok.a7k hb
      have:=h.ok.turn (j:=p.toNat) (b:=b) (hd:=a0v M b) (inn:=(a0d M p).inn) hjp hnx hhd
      rw [show ((p.toNat : Nat) : Int) = p by omega] at this
      have he : M.heads.set b (a0v M b) = M.heads:=by
        rw [show a0v M b = M.heads[b] by simp [a0v,List.getD_eq_getElem?_getD,hb],List.set_getElem_self]
      rw [he] at this
      exact this
    · intro x; unfold a0t; rw [hsl]; split
      · rename_i e; rw [hsx x e]
      · rfl
    · intro x; rw [hsl]; split
      · rename_i e; rw [hsx x e]
      · rfl
    · intro x; rw [hsl]; split
      · rename_i e; rw [hsx x e]
      · rfl
    · intro x; rw [hsl]; split
      · rename_i e; rw [hsx x e]
      · rfl
    · show Path (M.slots.set p.toNat { a0d M p with next:=(a0d M a).next }) (a0v M b) (l' ++ [p] ++ l2) (-1 - (b : Int))
      rw [b3f]
      refine ⟨(a0d M a).next,?_,a6p (fun x hx => nxt x (.inl (by rw [hl]; simp [hx])) (fun e => hpn2 (e ▸ hx))) hp2'⟩
      rw [a6y]
      refine ⟨a9a (fun x hx => nxt x (.inl (by rw [hl]; simp [hx])) (fun e => hpn (e ▸ hx))) hp1.1,hp1.2.1,?_⟩
      rw [a2y _ _ _ hjp]
    · intro c hc hne
      exact a6p (fun x hx => nxt x (.inr ⟨c,hc,hne,hx⟩) (fun e => apart c hc hne p hpm (e ▸ hx))) (h.path hc)
end
section
def toF (f : Fr) (n : Int) : Fr:={ f with pl:=n }
def curF (f : Fr) (c n : Int) : Fr:={ f with cur:=c,pl:=n }
def a1m (f : Fr) (s n : Int) : Fr:={ f with slot:=s,pl:=n }
def isAt (M : Mm) (f : Fr) : Bool:=inB f.cur 1 M.slots.length
def lkK (s : Sl) (f : Fr) : Bool:=s.a == f.c.a && s.b == f.c.b
def putN (M : Mm) (a : Int) : Mm:=if a0s M a = 0 then M else putM M a
def canH (M : Mm) (a : Int) : Bool:=decide (0 < a0s M a) && decide (a0s M a < 1000)
def a9d (M : Mm) (a : Int) : Mm:=if canH M a then b7i M a else M
def a2b (M : Mm) (f : Fr) : Fr:=curF f (a0v M (bkOf M.heads.length f.c).toNat) 1
def a8o (M : Mm) (f : Fr) : Fr :=
  if f.cur = -1 - bkOf M.heads.length f.c then endF f 5
  else if isAt M f then toF f (if lkK (a0d M (f.cur - 1)) f then 3 else 2) else toF f 0
def a2s (M : Mm) (f : Fr) : Fr:=if isAt M f then curF f (a0d M (f.cur - 1)).next 1 else toF f 0
def a5a (M : Mm) (f : Fr) : Fr:=if isAt M f && canH M (f.cur - 1) then a1m f (f.cur - 1) 4 else toF f 0
def a4z (M : Mm) (f : Fr) : Mm:=if isAt M f then a9d M (f.cur - 1) else M
def a4g (M : Mm) (f : Fr) : Fr :=
  if isSl M f.slot then
    (if lkK (a0d M f.slot) f && (a0d M f.slot).inn then (if M.now < (a0d M f.slot).unt then endF f 0 else toF f 6) else toF f 5)
  else toF f 0
def a1f (M : Mm) (f : Fr) : Mm:=if isSl M f.slot then putN M f.slot else M
def a5n (M : Mm) (f : Fr) : Fr:=if isSl M f.slot then a1m f (-1) 0 else toF f 0
def a7o (M : Mm) (f : Fr) : Fr:=if isSl M f.slot then endF { f with slot:=-1 } 5 else toF f 0
def lkF (M : Mm) (f : Fr) : Fr :=
  if f.pl = 0 then a2b M f else if f.pl = 1 then a8o M f else if f.pl = 2 then a2s M f else if f.pl = 3 then a5a M f
  else if f.pl = 4 then a4g M f else if f.pl = 5 then a5n M f else if f.pl = 6 then a7o M f else toF f 0
def lkM (M : Mm) (f : Fr) : Mm :=
  if f.pl = 3 then a4z M f else if f.pl = 5 then a1f M f else if f.pl = 6 then a1f M f else M
structure Fit (M : Mm) (f : Fr) : Prop where
  call : a2o M.slots.length M.heads.length f.c = 0
  pl : 0<=f.pl/\f.pl<=9
  n : inB f.n 0 1000000 = true
  done : f.done = false
  cur : -(M.heads.length : Int)<=f.cur/\f.cur<=M.slots.length
  prev : 0<=f.prev/\f.prev<=M.slots.length
  slot : -1<=f.slot/\f.slot < M.slots.length
  keys : f.keys.length<=100
theorem b9v {M : Mm} {f : Fr} : frE M.slots.length M.heads.length f = 0 ↔ Fit M f:=by
  constructor
  · intro h
    unfold frE at h
    by_cases h1 : a2o M.slots.length M.heads.length f.c = 0
    · rw [if_neg (by simpa using h1)] at h
      by_cases h2 : inB f.pl 0 9 = false\/inB f.n 0 1000000 = false\/f.done = true
      · rw [if_pos h2] at h; omega
      · rw [if_neg h2] at h
        by_cases h3 : inB f.cur (-(M.heads.length : Int)) M.slots.length = false\/inB f.prev 0 M.slots.length = false\/inB f.slot (-1) ((M.slots.length : Int) - 1) = false
        · rw [if_pos h3] at h; omega
        · rw [if_neg h3] at h
          by_cases h4 : 100 < f.keys.length
          · rw [if_pos h4] at h; omega
          · simp only [not_or,Bool.not_eq_false,Bool.not_eq_true,a0h] at h2 h3
            exact ⟨h1,h2.1,(a0h _ _ _).2 h2.2.1,h2.2.2,h3.1,h3.2.1,⟨h3.2.2.1,by have:=h3.2.2.2; omega⟩,by omega⟩
    · rw [if_pos h1] at h; exact absurd h h1
  · rintro ⟨h1,h2,h3,h4,h5,h6,h7,h8⟩
    unfold frE
    rw [if_neg (by simpa using h1),if_neg,if_neg,if_neg (by omega)]
    · simp only [not_or,Bool.not_eq_false,a0h]
      exact ⟨h5,h6,h7.1,by omega⟩
    · simp only [not_or,Bool.not_eq_false,Bool.not_eq_true]
      exact ⟨(a0h _ _ _).2 h2,h3,h4⟩
theorem a2d {M : Mm} {c : Cl} (hM : Ok M) (h : a2o M.slots.length M.heads.length c = 0) : 0<=bkOf M.heads.length c/\bkOf M.heads.length c < M.heads.length:=by
  obtain ⟨n1,n2⟩:=hM.nh
  by_cases hb : c.kind = 4\/c.kind = 5
  · unfold a2o at h
    rw [if_neg (by omega),if_neg (by omega),if_pos hb] at h
    cases hi : inB c.bk 0 ((M.heads.length : Int) - 1)
    · rw [hi] at h; simp at h
    · rw [a0h] at hi
      unfold bkOf
      rw [if_pos hb]
      omega
  · unfold bkOf
    rw [if_neg hb]
    by_cases hk : keyB c.a c.b = true
    · rw [if_pos hk,if_pos ⟨n1,n2⟩]
      exact a9z c.a c.b n1
    · rw [if_neg hk]
      omega
theorem a1l {M : Mm} {f : Fr} : isAt M f = true ↔ 1<=f.cur/\f.cur<=M.slots.length:=by unfold isAt; rw [a0h]
theorem a1a {M : Mm} {i : Int} : isSl M i = true ↔ 0<=i/\i < M.slots.length:=by
  unfold isSl
  rw [a0h]
  omega
theorem b2c {M : Mm} {i : Int} (h : isSl M i = true) : a0d M i ∈ M.slots:=by
  obtain ⟨j,rfl,hj⟩:=(a4q M i).1 h
  unfold a0d
  rw [Int.toNat_natCast,getD_lt _ _ hj]
  exact List.getElem_mem hj
theorem a7x {M : Mm} (hM : Ok M) {i : Int} (h : isSl M i = true) : 0<=a0s M i/\a0s M i<=1000:=by
  have:=(a2t (hM.slot _ (b2c h))).1
  rw [a0h] at this
  exact this
theorem a6j {M : Mm} (hM : Ok M) {i : Int} (h : isSl M i = true) : -(M.heads.length : Int)<=(a0d M i).next/\(a0d M i).next<=M.slots.length:=by
  have:=(a2t (hM.slot _ (b2c h))).2.2.2
  rwa [a0h] at this
theorem a9f {M : Mm} {a : Int} : canH M a = true ↔ 0 < a0s M a/\a0s M a < 1000:=by simp [canH]
theorem putN_ok {M : Mm} (hM : Ok M) {a : Int} (h : isSl M a = true) : Ok (putN M a):=by
  unfold putN
  split
  · exact hM
  · have:=a7x hM h
    exact put_ok hM h (by omega) (by omega)
structure Like (M M' : Mm) : Prop where
  heads : M'.heads = M.heads
  a0b : M'.a0b = M.a0b
  now : M'.now = M.now
  slots : M'.slots = M.slots\/∃ j r,j < M.slots.length/\M'.slots = M.slots.set j { M.slots.getD j sl0 with refs:=r }
theorem Like.refl (M : Mm) : Like M M:=⟨rfl,rfl,rfl,.inl rfl⟩
theorem Like.len {M M' : Mm} (h : Like M M') : M'.slots.length = M.slots.length:=by
  rcases h.slots with e | ⟨j,r,_,e⟩ <;> rw [e]
  simp
theorem b4c {M : Mm} {i : Int} (h : isSl M i = true) (r : Int) (F : List Int) : Like M { M with slots:=a2r M i r,free:=F }:=by
  obtain ⟨j,rfl,hj⟩:=(a4q M i).1 h
  exact ⟨rfl,rfl,rfl,.inr ⟨j,r,hj,by simp [a2r]⟩⟩
theorem b7j {M : Mm} {i : Int} (h : isSl M i = true) : Like M (a9d M i):=by
  unfold a9d
  split
  · exact b4c h _ _
  · exact .refl M
theorem b4l {M : Mm} {i : Int} (h : isSl M i = true) : Like M (putN M i):=by
  unfold putN
  split
  · exact .refl M
  · exact b4c h _ _
theorem a4y {M : Mm} {f : Fr} (h : isAt M f = true) : isSl M (f.cur - 1) = true:=by
  rw [a1l] at h
  rw [a1a]
  omega
theorem lkM_like (M : Mm) (f : Fr) : Like M (lkM M f):=by
  unfold lkM a4z a1f
  repeat' split
  · exact b7j (a4y (by assumption))
  · exact .refl M
  · exact b4l (by assumption)
  · exact .refl M
  · exact b4l (by assumption)
  · exact .refl M
  · exact .refl M
theorem lkF_c (M : Mm) (f : Fr) : (lkF M f).c = f.c:=by
  unfold lkF a2b a8o a2s a5a a4g a5n a7o
  repeat' split
  all_goals rfl
theorem a4r (M : Mm) (f : Fr) : (lkF M f).keys = f.keys:=by
  unfold lkF a2b a8o a2s a5a a4g a5n a7o
  repeat' split
  all_goals rfl
theorem Fit.to {M : Mm} {f : Fr} (h : Fit M f) {n : Int} (h1 : 0<=n/\n<=9) : Fit M (toF f n):=⟨h.call,h1,h.n,h.done,h.cur,h.prev,h.slot,h.keys⟩
theorem Fit.curTo {M : Mm} {f : Fr} (h : Fit M f) {c n : Int} (h1 : 0<=n/\n<=9) (h2 : -(M.heads.length : Int)<=c/\c<=M.slots.length) : Fit M (curF f c n):=⟨h.call,h1,h.n,h.done,h2,h.prev,h.slot,h.keys⟩
theorem Fit.c0f {M : Mm} {f : Fr} (h : Fit M f) {s n : Int} (h1 : 0<=n/\n<=9) (h2 : -1<=s/\s < M.slots.length) : Fit M (a1m f s n):=⟨h.call,h1,h.n,h.done,h.cur,h.prev,h2,h.keys⟩
theorem Fit.like {M M' : Mm} {f : Fr} (h : Fit M f) (hl : Like M M') : Fit M' f:=by
  have e1:=hl.len
  have e2:=hl.heads
  refine ⟨?_,h.pl,h.n,h.done,?_,?_,?_,h.keys⟩
  · rw [e1,e2]; exact h.call
  · rw [e1,e2]; exact h.cur
  · rw [e1]; exact h.prev
  · rw [e1]; exact h.slot
theorem lkF_fit {M : Mm} {f : Fr} (hM : Ok M) (h : Fit M f) (hd : (lkF M f).done = false) : Fit (lkM M f) (lkF M f):=by
  refine Fit.like ?_ (lkM_like M f)
  revert hd
  unfold lkF a2b a8o a2s a5a a4g a5n a7o
  have hb:=a2d hM h.call
  repeat' split
  all_goals intro hd
  all_goals first
    | (cases hd; done)
    | exact h.to (by omega)
    | exact h.c0f (by omega) (by omega)
    | skip
  · refine h.curTo (by omega) ?_
    have hh:=(hM.a7k (b:=(bkOf M.heads.length f.c).toNat) (by omega)).2
    rwa [a0h] at hh
  · rename_i ha
    exact h.curTo (by omega) (a6j hM (a4y ha))
  · rename_i ha
    simp only [Bool.and_eq_true] at ha
    have:=a1a.1 (a4y ha.1)
    exact h.c0f (by omega) (by omega)
end
section
def dif (l1 l2 : List Sl) : Nat->Nat
  | 0 => 0
  | k + 1 => dif l1 l2 k + if slEq (l1.getD k sl0) (l2.getD k sl0) then 0 else 1
theorem a9g (l : List Sl) : ∀ k,dif l l k = 0
  | 0 => rfl
  | k + 1 => by
    unfold dif
    rw [a9g l k,b4n]
    rfl
theorem getD_set_ne (l : List Sl) {j k : Nat} (x : Sl) (h : j ≠ k) : (l.set j x).getD k sl0 = l.getD k sl0:=by
  rw [List.getD_eq_getElem?_getD,List.getD_eq_getElem?_getD,List.getElem?_set_ne h]
theorem b9l (l : List Sl) (j : Nat) (x : Sl) : ∀ k,dif l (l.set j x) k<=if j < k then 1 else 0
  | 0 => by simp [dif]
  | k + 1 => by
    have ih:=b9l l j x k
    unfold dif
    by_cases e : j = k
    · subst e
      rw [if_neg (Nat.lt_irrefl _)] at ih
      rw [if_pos (Nat.lt_succ_self _)]
      split <;> omega
    · rw [getD_set_ne l x e,b4n]
      simp only [if_true,Nat.add_zero]
      by_cases h : j < k
      · rw [if_pos h] at ih; rw [if_pos (by omega)]; exact ih
      · rw [if_neg h] at ih; omega
end
section
def a0k (M : Mm) (b : Nat) : Int:=M.a0b.getD b 0
def a3q (M : Mm) (b : Nat) (t : Int) : Mm:={ M with a0b:=M.a0b.set b t }
def a6f (M : Mm) (a : Int) (b : Nat) : Mm:={ M with slots:=M.slots.set a.toNat { a0d M a with next:=a0v M b,inn:=true },heads:=M.heads.set b (a + 1) }
def bkN (M : Mm) (f : Fr) : Nat:=(bkOf M.heads.length f.c).toNat
def untA (M : Mm) (f : Fr) : Int:=if 2000000 < M.now + f.c.time then 2000000 else M.now + f.c.time
def a0n (f : Fr) : Fr:={ f with e:=8,pl:=7 }
def a5s (M : Mm) (f : Fr) : Fr:=if M.free.length = 0 then endF f 7 else a1m f (a2v M) 1
def a4b (M : Mm) (f : Fr) : Mm:=if M.free.length = 0 then M else a5d M f.c.a f.c.b (untA M f)
def a7b (M : Mm) (f : Fr) : Fr:=if a0k M (bkN M f) = -1 then toF f 2 else f
def a1x (M : Mm) (f : Fr) (t : Int) : Mm:=if a0k M (bkN M f) = -1 then a3q M (bkN M f) t else M
def a9v (M : Mm) (f : Fr) : Fr:=if isAt M f then toF f (if lkK (a0d M (f.cur - 1)) f then 6 else 4) else toF f 5
def a6a (M : Mm) (f : Fr) : Fr:=if isAt M f then curF f (a0d M (f.cur - 1)).next 3 else a0n f
def a5z (M : Mm) (f : Fr) : Fr:=if isSl M f.slot then { f with e:=0,pl:=7 } else a0n f
def a4w (M : Mm) (f : Fr) : Mm:=if isSl M f.slot then a6f M f.slot (bkN M f) else M
def a9u (M : Mm) (f : Fr) : Fr:=if isSl M f.slot then { f with slot:=-1,e:=6,pl:=7 } else a0n f
def a8t (M : Mm) (f : Fr) : Mm:=if isSl M f.slot then putN M f.slot else M
def a1y (M : Mm) (f : Fr) (t : Int) : Mm:=if a0k M (bkN M f) = t then a3q M (bkN M f) (-1) else M
def adF (M : Mm) (f : Fr) : Fr :=
  if f.pl = 0 then a5s M f else if f.pl = 1 then a7b M f else if f.pl = 2 then curF f (a0v M (bkN M f)) 3 else if f.pl = 3 then a9v M f
  else if f.pl = 4 then a6a M f else if f.pl = 5 then a5z M f else if f.pl = 6 then a9u M f else if f.pl = 7 then endF f f.e else a0n f
def adM (t : Int) (M : Mm) (f : Fr) : Mm :=
  if f.pl = 0 then a4b M f else if f.pl = 1 then a1x M f t else if f.pl = 5 then a4w M f else if f.pl = 6 then a8t M f else if f.pl = 7 then a1y M f t else M
theorem adF0 {M : Mm} {f : Fr} (h : f.pl = 0) : adF M f = a5s M f:=by unfold adF; rw [if_pos h]
theorem adF1 {M : Mm} {f : Fr} (h : f.pl = 1) : adF M f = a7b M f:=by unfold adF; rw [if_neg (by omega),if_pos h]
theorem adF2 {M : Mm} {f : Fr} (h : f.pl = 2) : adF M f = curF f (a0v M (bkN M f)) 3:=by unfold adF; rw [if_neg (by omega),if_neg (by omega),if_pos h]
theorem adF3 {M : Mm} {f : Fr} (h : f.pl = 3) : adF M f = a9v M f:=by unfold adF; rw [if_neg (by omega),if_neg (by omega),if_neg (by omega),if_pos h]
theorem adF4 {M : Mm} {f : Fr} (h : f.pl = 4) : adF M f = a6a M f:=by unfold adF; rw [if_neg (by omega),if_neg (by omega),if_neg (by omega),if_neg (by omega),if_pos h]
theorem adF5 {M : Mm} {f : Fr} (h : f.pl = 5) : adF M f = a5z M f:=by unfold adF; rw [if_neg (by omega),if_neg (by omega),if_neg (by omega),if_neg (by omega),if_neg (by omega),if_pos h]
theorem adF6 {M : Mm} {f : Fr} (h : f.pl = 6) : adF M f = a9u M f:=by unfold adF; rw [if_neg (by omega),if_neg (by omega),if_neg (by omega),if_neg (by omega),if_neg (by omega),if_neg (by omega),if_pos h]
theorem adF7 {M : Mm} {f : Fr} (h : f.pl = 7) : adF M f = endF f f.e:=by unfold adF; rw [if_neg (by omega),if_neg (by omega),if_neg (by omega),if_neg (by omega),if_neg (by omega),if_neg (by omega),if_neg (by omega),if_pos h]
theorem adF8 {M : Mm} {f : Fr} (h : 8<=f.pl) : adF M f = a0n f:=by unfold adF; rw [if_neg (by omega),if_neg (by omega),if_neg (by omega),if_neg (by omega),if_neg (by omega),if_neg (by omega),if_neg (by omega),if_neg (by omega)]
theorem adM0 {M : Mm} {f : Fr} {t : Int} (h : f.pl = 0) : adM t M f = a4b M f:=by unfold adM; rw [if_pos h]
theorem adM1 {M : Mm} {f : Fr} {t : Int} (h : f.pl = 1) : adM t M f = a1x M f t:=by unfold adM; rw [if_neg (by omega),if_pos h]
theorem adM5 {M : Mm} {f : Fr} {t : Int} (h : f.pl = 5) : adM t M f = a4w M f:=by unfold adM; rw [if_neg (by omega),if_neg (by omega),if_pos h]
theorem adM6 {M : Mm} {f : Fr} {t : Int} (h : f.pl = 6) : adM t M f = a8t M f:=by unfold adM; rw [if_neg (by omega),if_neg (by omega),if_neg (by omega),if_pos h]
theorem adM7 {M : Mm} {f : Fr} {t : Int} (h : f.pl = 7) : adM t M f = a1y M f t:=by unfold adM; rw [if_neg (by omega),if_neg (by omega),if_neg (by omega),if_neg (by omega),if_pos h]
theorem a5h {M : Mm} {f : Fr} {t : Int} (h : f.pl ≠ 0/\f.pl ≠ 1/\f.pl ≠ 5/\f.pl ≠ 6/\f.pl ≠ 7) : adM t M f = M:=by unfold adM; rw [if_neg h.1,if_neg h.2.1,if_neg h.2.2.1,if_neg h.2.2.2.1,if_neg h.2.2.2.2]
theorem adF_c (M : Mm) (f : Fr) : (adF M f).c = f.c:=by
  unfold adF a5s a7b a9v a6a a5z a9u
  repeat' split
  all_goals rfl
theorem a4l (M : Mm) (f : Fr) : (adF M f).keys = f.keys:=by
  unfold adF a5s a7b a9v a6a a5z a9u
  repeat' split
  all_goals rfl
theorem b2j {nS nH : Nat} {c : Cl} (hk : c.kind = 2) (h : a2o nS nH c = 0) : keyB c.a c.b = true/\1<=c.time/\c.time<=1000000:=by
  obtain ⟨k,a,b,t,bk,sl⟩:=c
  have hk' : k = 2:=hk
  subst hk'
  rw [b3k] at h
  cases hb : inB t 1 1000000 && keyB a b
  · rw [hb] at h; simp at h
  · simp only [Bool.and_eq_true,a0h] at hb
    exact ⟨hb.2,hb.1⟩
theorem c2u {M : Mm} {f : Fr} (hM : Ok M) (h1 : 1<=f.c.time) : inB (untA M f) 0 2000000 = true:=by
  have:=hM.now
  rw [a0h]
  unfold untA
  split <;> omega
structure Near (M M' : Mm) (b : Nat) : Prop where
  now : M'.now = M.now
  ns : M'.slots.length = M.slots.length
  nh : M'.heads.length = M.heads.length
  nl : M'.a0b.length = M.a0b.length
  heads : ∀ i,i ≠ b->M'.heads[i]? = M.heads[i]?
  a0b : ∀ i,i ≠ b->M'.a0b[i]? = M.a0b[i]?
  dif : ∀ k,dif M.slots M'.slots k<=1
  free : M'.free.length<=M.free.length + 1/\M.free.length<=M'.free.length + 1
theorem Near.refl (M : Mm) (b : Nat) : Near M M b:=⟨rfl,rfl,rfl,rfl,fun _ _ => rfl,fun _ _ => rfl,(fun k => by rw [a9g]; omega),by omega⟩
theorem a9h (l : List Sl) (j : Nat) (x : Sl) (k : Nat) : dif l (l.set j x) k<=1:=by
  have:=b9l l j x k
  split at this <;> omega
theorem c2l (M : Mm) (b : Nat) (ka kb u : Int) : Near M (a5d M ka kb u) b :=
  ⟨rfl,by simp [a5d],rfl,rfl,fun _ _ => rfl,fun _ _ => rfl,(fun k => a9h _ _ _ k),by simp [a5d]; omega⟩
theorem b0p (M : Mm) (b : Nat) (t : Int) : Near M (a3q M b t) b :=
  ⟨rfl,rfl,rfl,by simp [a3q],fun _ _ => rfl,(fun i hi => by simp only [a3q]; rw [List.getElem?_set_ne (by omega)]),(fun k => by show dif M.slots M.slots k<=1; rw [a9g]; omega),by simp [a3q]⟩
theorem c0s (M : Mm) (a : Int) (b : Nat) : Near M (a6f M a b) b :=
  ⟨rfl,by simp [a6f],by simp [a6f],rfl,(fun i hi => by simp only [a6f]; rw [List.getElem?_set_ne (by omega)]),fun _ _ => rfl,(fun k => a9h _ _ _ k),by simp [a6f]⟩
theorem b0v (M : Mm) (a : Int) (b : Nat) : Near M (putN M a) b:=by
  unfold putN
  split
  · exact .refl M b
  · refine ⟨rfl,by simp [putM,a2r],rfl,rfl,fun _ _ => rfl,fun _ _ => rfl,(fun k => a9h _ _ _ k),?_⟩
    unfold putM
    dsimp only
    split
    · simp only [List.length_append,List.length_cons,List.length_nil]; omega
    · omega
theorem adM_near (t : Int) (M : Mm) (f : Fr) : Near M (adM t M f) (bkN M f):=by
  unfold adM a4b a1x a4w a8t a1y
  repeat' split
  all_goals first
    | exact .refl _ _
    | exact c2l _ _ _ _ _
    | exact b0p _ _ _
    | exact c0s _ _ _
    | exact b0v _ _ _
theorem Fit.near {M M' : Mm} {f : Fr} {b : Nat} (h : Fit M f) (hl : Near M M' b) : Fit M' f:=by
  have e1:=hl.ns
  have e2:=hl.nh
  refine ⟨?_,h.pl,h.n,h.done,?_,?_,?_,h.keys⟩
  · rw [e1,e2]; exact h.call
  · rw [e1,e2]; exact h.cur
  · rw [e1]; exact h.prev
  · rw [e1]; exact h.slot
theorem Fit.late {M : Mm} {f : Fr} (h : Fit M f) : Fit M (a0n f):=⟨h.call,by simp [a0n],h.n,h.done,h.cur,h.prev,h.slot,h.keys⟩
theorem adF_fit {M : Mm} {f : Fr} (t : Int) (hM : Ok M) (h : Fit M f) (hd : (adF M f).done = false) : Fit (adM t M f) (adF M f):=by
  refine Fit.near ?_ (adM_near t M f)
  revert hd
  unfold adF a5s a7b a9v a6a a5z a9u
  have hb:=a2d hM h.call
  repeat' split
  all_goals intro hd
  all_goals first
    | (cases hd; done)
    | exact h.late
    | exact h
    | exact h.to (by omega)
    | skip
  · rename_i hf
    have:=b2y hM (by omega)
    exact h.c0f (by omega) (by omega)
  · refine h.curTo (by omega) ?_
    have hh:=(hM.a7k (b:=bkN M f) (by unfold bkN; omega)).2
    rwa [a0h] at hh
  · rename_i ha
    exact h.curTo (by omega) (a6j hM (a4y ha))
  · exact ⟨h.call,by simp,h.n,h.done,h.cur,h.prev,h.slot,h.keys⟩
  · exact ⟨h.call,by simp,h.n,h.done,h.cur,h.prev,by constructor <;> simp <;> omega,h.keys⟩
theorem lock_ok {M : Mm} (h : Ok M) (b : Nat) {t : Int} (ht : -1<=t/\t<=4) : Ok (a3q M b t):=by
  refine ⟨h.ns,h.nh,by simp [a3q,h.nl],h.now,h.slot,?_,h.free,h.nodup,h.all⟩
  intro p hp
  simp only [a3q] at hp ⊢
  obtain ⟨i,hi,e⟩:=List.getElem_of_mem hp
  rw [List.getElem_zip] at e
  have hi' : i < M.heads.length/\i < M.a0b.length:=by simp at hi; omega
  have h0:=h.chain (M.heads[i]'hi'.1,M.a0b[i]'hi'.2) (by
    rw [<- List.getElem_zip (h:=by simp; omega)]
    exact List.getElem_mem _)
  subst e
  unfold a2f at h0 ⊢
  dsimp only at h0 ⊢
  by_cases hc : M.heads[i]'hi'.1 ≠ 0/\inB (M.heads[i]'hi'.1) (-(M.heads.length : Int)) M.slots.length
  · rw [if_pos hc] at h0 ⊢
    rw [if_pos]
    rw [List.getElem_set]
    split
    · rw [a0h]; exact ht
    · by_cases hl : inB (M.a0b[i]'hi'.2) (-1) 4 = true
      · exact hl
      · rw [if_neg hl] at h0; omega
  · rw [if_neg hc] at h0; omega
end
section
theorem lkF0 {M : Mm} {f : Fr} (h : f.pl = 0) : lkF M f = a2b M f:=by unfold lkF; rw [if_pos h]
theorem lkF1 {M : Mm} {f : Fr} (h : f.pl = 1) : lkF M f = a8o M f:=by unfold lkF; rw [if_neg (by omega),if_pos h]
theorem lkF2 {M : Mm} {f : Fr} (h : f.pl = 2) : lkF M f = a2s M f:=by unfold lkF; rw [if_neg (by omega),if_neg (by omega),if_pos h]
theorem lkF3 {M : Mm} {f : Fr} (h : f.pl = 3) : lkF M f = a5a M f:=by unfold lkF; rw [if_neg (by omega),if_neg (by omega),if_neg (by omega),if_pos h]
theorem lkF4 {M : Mm} {f : Fr} (h : f.pl = 4) : lkF M f = a4g M f:=by unfold lkF; rw [if_neg (by omega),if_neg (by omega),if_neg (by omega),if_neg (by omega),if_pos h]
theorem lkF5 {M : Mm} {f : Fr} (h : f.pl = 5) : lkF M f = a5n M f:=by unfold lkF; rw [if_neg (by omega),if_neg (by omega),if_neg (by omega),if_neg (by omega),if_neg (by omega),if_pos h]
theorem lkF6 {M : Mm} {f : Fr} (h : f.pl = 6) : lkF M f = a7o M f:=by unfold lkF; rw [if_neg (by omega),if_neg (by omega),if_neg (by omega),if_neg (by omega),if_neg (by omega),if_neg (by omega),if_pos h]
theorem lkF7 {M : Mm} {f : Fr} (h : 7<=f.pl) : lkF M f = toF f 0:=by unfold lkF; rw [if_neg (by omega),if_neg (by omega),if_neg (by omega),if_neg (by omega),if_neg (by omega),if_neg (by omega),if_neg (by omega)]
theorem a2l {M : Mm} {f : Fr} (h : f.pl ≠ 3/\f.pl ≠ 5/\f.pl ≠ 6) : lkM M f = M:=by unfold lkM; rw [if_neg h.1,if_neg h.2.1,if_neg h.2.2]
theorem lkM3 {M : Mm} {f : Fr} (h : f.pl = 3) : lkM M f = a4z M f:=by unfold lkM; rw [if_pos h]
theorem lkM5 {M : Mm} {f : Fr} (h : f.pl = 5) : lkM M f = a1f M f:=by unfold lkM; rw [if_neg (by omega),if_pos h]
theorem lkM6 {M : Mm} {f : Fr} (h : f.pl = 6) : lkM M f = a1f M f:=by unfold lkM; rw [if_neg (by omega),if_neg (by omega),if_pos h]
end
end Go.Proofs.YthhgoenomehobaaGreat.mm
