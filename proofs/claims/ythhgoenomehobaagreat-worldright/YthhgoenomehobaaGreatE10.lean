/- Parts. -/
import Derived.Test.YthhgoenomehobaaGreatE01
import Derived.Test.YthhgoenomehobaaGreatE03
import Derived.Test.YthhgoenomehobaaGreatE09
namespace Go.Proofs.YthhgoenomehobaaGreat.mm
set_option maxRecDepth 100000
set_option linter.unusedVariables false
section
def a1h (M : Mm) : List Fl:=(allC M).map (a1q M)
theorem a5g {S S' : List Sl} (h : ∀ n : Int,a5v S' n = a5v S n) : ∀ (k : Nat) (n : Int),a3r S' k n = a3r S k n/\a5f S' k n = a5f S k n
  | 0,n => ⟨rfl,rfl⟩
  | k + 1,n => by
    unfold a3r a5f
    rw [h n,(a5g h k _).1,(a5g h k _).2]
    exact ⟨rfl,rfl⟩
theorem okc_off {M M' : Mm} {s : Int} (h : OkC M) (ho : Ok M') (hh : M'.heads = M.heads) (hn : M'.slots.length = M.slots.length) (hs : s ∉ allC M) (hs0 : 0<=s)
    (hx : ∀ x : Int,x.toNat ≠ s.toNat->a0d M' x = a0d M x) (hnx : (a0d M' s).next = (a0d M s).next) :
    OkC M'/\(∀ b,chL M' b = chL M b)/\allC M' = allC M/\∀ a ∈ allC M,a0d M' a = a0d M a:=by
  have hnext : ∀ n : Int,a5v M'.slots n = a5v M.slots n:=fun n => by
    by_cases e : (n - 1).toNat = s.toNat
    · have h1 : (a0d M' s).next = (a0d M s).next:=hnx
      unfold a0d at h1
      unfold a5v
      rw [e]; exact h1
    · have h1:=hx (n - 1) e
      unfold a0d at h1
      unfold a5v
      rw [h1]
  have hL : ∀ b,chL M' b = chL M b:=fun b => by unfold chL a0v; rw [hn,hh]; exact (a5g hnext _ _).1
  have hE : ∀ b,chE M' b = chE M b:=fun b => by unfold chE a0v; rw [hn,hh]; exact (a5g hnext _ _).2
  have hA : allC M' = allC M:=by unfold allC a1e; rw [hh]; exact a3l fun c _ => hL c
  have hat : ∀ a ∈ allC M,a0d M' a = a0d M a:=fun a ha => hx a fun e => hs (by
    have:=(h.a4m a ha).1
    rw [show s = a by omega]; exact ha)
  refine ⟨⟨ho,fun b hb => ?_,fun b hb a ha => ?_,?_⟩,hL,hA,hat⟩
  · rw [hh] at hb; rw [hE]; exact h.ends b hb
  · rw [hh] at hb
    rw [hL] at ha
    rw [hat a (a2u.2 ⟨b,hb,ha⟩),hh]
    exact h.held b hb a ha
  · rw [hA]
    have : (allC M).map (a0t M') = (allC M).map (a0t M):=List.map_congr_left fun a ha => by unfold a0t; rw [hat a ha]
    rw [this]; exact h.keys
theorem b0x {M : Mm} {S : List Sl} {F : List Int} {s : Int} {v : Sl} (hs : isSl M s = true) (hS : S = M.slots.set s.toNat v) (x : Int) : a0d { M with slots:=S,free:=F } x = if x.toNat = s.toNat then v else a0d M x:=by
  obtain ⟨j,rfl,hj⟩:=(a4q M s).1 hs
  subst hS
  unfold a0d
  rw [List.getD_eq_getElem?_getD,List.getD_eq_getElem?_getD,Int.toNat_natCast,List.getElem?_set]
  by_cases e : j = x.toNat
  · subst e; simp [hj]
  · rw [if_neg e,if_neg (fun h => e h.symm)]
theorem free_off {M : Mm} (h : OkC M) {s : Int} (hr : a0s M s = 0) : s ∉ allC M:=fun hm => by
  obtain ⟨b,hb,ha⟩:=a2u.1 hm
  exact (h.held b hb s ha).1 hr
theorem lock_okc {M : Mm} (h : OkC M) (b : Nat) {t : Int} (ht : -1<=t/\t<=4) : OkC (a3q M b t):=⟨lock_ok h.ok b ht,h.ends,h.held,h.keys⟩
theorem bk_of {M : Mm} (hM : Ok M) {c : Cl} (hk : ¬ (c.kind = 4\/c.kind = 5)) (hkey : keyB c.a c.b = true) : bkOf M.heads.length c = a2z c.a c.b M.heads.length:=by
  obtain ⟨n1,n2⟩:=hM.nh
  unfold bkOf
  rw [if_neg hk,if_pos hkey,if_pos ⟨n1,n2⟩]
theorem a8p {M : Mm} {b : Nat} {t : Int} (hb : b < M.a0b.length) : a0k (a3q M b t) b = t:=by
  unfold a0k a3q
  simp [List.getD_eq_getElem?_getD,hb]
end
section
def a2i (f : Fr) (p c n : Int) : Fr:={ f with prev:=p,cur:=c,pl:=n }
def errF (f : Fr) (e n : Int) : Fr:={ f with e:=e,pl:=n }
def a3a (M : Mm) (f : Fr) : Fr:=if a0k M (bkN M f) = -1 then toF f 1 else f
def b0c (M : Mm) (f : Fr) : Fr:=if isAt M f then toF f (if lkK (a0d M (f.cur - 1)) f then 4 else 3) else errF f 5 5
def a6c (M : Mm) (f : Fr) : Fr:=if isAt M f then a2i f f.cur (a0d M (f.cur - 1)).next 2 else errF f 8 5
def b0b (M : Mm) (f : Fr) : Fr:=if isAt M f then { f with slot:=f.cur - 1,e:=0,pl:=5 } else errF f 8 5
def a3d (M : Mm) (f : Fr) : Mm:=if isAt M f then cutM M (bkN M f) f.prev (f.cur - 1) else M
def a3p (M : Mm) (f : Fr) : Mm:=if isSl M f.slot then putN M f.slot else M
def drF (M : Mm) (f : Fr) : Fr :=
  if f.pl = 0 then a3a M f else if f.pl = 1 then a2i f 0 (a0v M (bkN M f)) 2 else if f.pl = 2 then b0c M f else if f.pl = 3 then a6c M f
  else if f.pl = 4 then b0b M f else if f.pl = 5 then toF f 6 else if f.pl = 6 then endF { f with slot:=-1 } f.e else errF f 8 5
def drM (t : Int) (M : Mm) (f : Fr) : Mm :=
  if f.pl = 0 then a1x M f t else if f.pl = 4 then a3d M f else if f.pl = 5 then a1y M f t else if f.pl = 6 then a3p M f else M
theorem drF0 {M : Mm} {f : Fr} (h : f.pl = 0) : drF M f = a3a M f:=by unfold drF; rw [if_pos h]
theorem drF1 {M : Mm} {f : Fr} (h : f.pl = 1) : drF M f = a2i f 0 (a0v M (bkN M f)) 2:=by unfold drF; rw [if_neg (by omega),if_pos h]
theorem drF2 {M : Mm} {f : Fr} (h : f.pl = 2) : drF M f = b0c M f:=by unfold drF; rw [if_neg (by omega),if_neg (by omega),if_pos h]
theorem drF3 {M : Mm} {f : Fr} (h : f.pl = 3) : drF M f = a6c M f:=by unfold drF; rw [if_neg (by omega),if_neg (by omega),if_neg (by omega),if_pos h]
theorem drF4 {M : Mm} {f : Fr} (h : f.pl = 4) : drF M f = b0b M f:=by unfold drF; rw [if_neg (by omega),if_neg (by omega),if_neg (by omega),if_neg (by omega),if_pos h]
theorem drF5 {M : Mm} {f : Fr} (h : f.pl = 5) : drF M f = toF f 6:=by unfold drF; rw [if_neg (by omega),if_neg (by omega),if_neg (by omega),if_neg (by omega),if_neg (by omega),if_pos h]
theorem drF6 {M : Mm} {f : Fr} (h : f.pl = 6) : drF M f = endF { f with slot:=-1 } f.e:=by unfold drF; rw [if_neg (by omega),if_neg (by omega),if_neg (by omega),if_neg (by omega),if_neg (by omega),if_neg (by omega),if_pos h]
theorem drF7 {M : Mm} {f : Fr} (h : 7<=f.pl) : drF M f = errF f 8 5:=by unfold drF; rw [if_neg (by omega),if_neg (by omega),if_neg (by omega),if_neg (by omega),if_neg (by omega),if_neg (by omega),if_neg (by omega)]
theorem drM0 {M : Mm} {f : Fr} {t : Int} (h : f.pl = 0) : drM t M f = a1x M f t:=by unfold drM; rw [if_pos h]
theorem drM4 {M : Mm} {f : Fr} {t : Int} (h : f.pl = 4) : drM t M f = a3d M f:=by unfold drM; rw [if_neg (by omega),if_pos h]
theorem drM5 {M : Mm} {f : Fr} {t : Int} (h : f.pl = 5) : drM t M f = a1y M f t:=by unfold drM; rw [if_neg (by omega),if_neg (by omega),if_pos h]
theorem drM6 {M : Mm} {f : Fr} {t : Int} (h : f.pl = 6) : drM t M f = a3p M f:=by unfold drM; rw [if_neg (by omega),if_neg (by omega),if_neg (by omega),if_pos h]
theorem a3t {M : Mm} {f : Fr} {t : Int} (h : f.pl ≠ 0/\f.pl ≠ 4/\f.pl ≠ 5/\f.pl ≠ 6) : drM t M f = M:=by unfold drM; rw [if_neg h.1,if_neg h.2.1,if_neg h.2.2.1,if_neg h.2.2.2]
theorem drF_c (M : Mm) (f : Fr) : (drF M f).c = f.c:=by
  unfold drF a3a b0c a6c b0b
  repeat' split
  all_goals rfl
theorem a5i (M : Mm) (f : Fr) : (drF M f).keys = f.keys:=by
  unfold drF a3a b0c a6c b0b
  repeat' split
  all_goals rfl
theorem getD_set (l : List Sl) (j k : Nat) (x : Sl) : (l.set j x).getD k sl0 = if j = k/\j < l.length then x else l.getD k sl0:=by
  rw [List.getD_eq_getElem?_getD,List.getD_eq_getElem?_getD,List.getElem?_set]
  by_cases e : j = k
  · subst e
    by_cases h : j < l.length
    · rw [if_pos rfl,if_pos h,if_pos ⟨rfl,h⟩]; rfl
    · rw [if_pos rfl,if_neg h,if_neg (fun h' => h h'.2),List.getElem?_eq_none (by omega)]
  · rw [if_neg e,if_neg (fun h => e h.1)]
theorem b3r (M : Mm) (b : Nat) (p a : Int) : Near M (cutM M b p a) b:=by
  unfold cutM
  split
  · exact ⟨rfl,by simp,rfl,rfl,fun _ _ => rfl,fun _ _ => rfl,(fun k => a9h _ _ _ k),by simp⟩
  · exact ⟨rfl,rfl,by simp,rfl,(fun i hi => by dsimp only; rw [List.getElem?_set_ne (by omega)]),fun _ _ => rfl,(fun k => by show dif M.slots M.slots k<=1; rw [a9g]; omega),by simp⟩
theorem drM_near (t : Int) (M : Mm) (f : Fr) : Near M (drM t M f) (bkN M f):=by
  unfold drM a1x a3d a1y a3p
  repeat' split
  all_goals first
    | exact .refl _ _
    | exact b0p _ _ _
    | exact b3r _ _ _ _
    | exact b0v _ _ _
theorem Fit.err {M : Mm} {f : Fr} (h : Fit M f) (e : Int) {n : Int} (h1 : 0<=n/\n<=9) : Fit M (errF f e n):=⟨h.call,h1,h.n,h.done,h.cur,h.prev,h.slot,h.keys⟩
theorem Fit.b6p {M : Mm} {f : Fr} (h : Fit M f) {p c n : Int} (h1 : 0<=n/\n<=9) (h2 : -(M.heads.length : Int)<=c/\c<=M.slots.length) (h3 : 0<=p/\p<=M.slots.length) : Fit M (a2i f p c n):=⟨h.call,h1,h.n,h.done,h2,h3,h.slot,h.keys⟩
theorem drF_fit {M : Mm} {f : Fr} (t : Int) (hM : Ok M) (h : Fit M f) (hd : (drF M f).done = false) : Fit (drM t M f) (drF M f):=by
  refine Fit.near ?_ (drM_near t M f)
  revert hd
  unfold drF a3a b0c a6c b0b
  have hb:=a2d hM h.call
  have hhd : -(M.heads.length : Int)<=a0v M (bkN M f)/\a0v M (bkN M f)<=M.slots.length:=by
    have hh:=(hM.a7k (b:=bkN M f) (by unfold bkN; omega)).2
    rwa [a0h] at hh
  repeat' split
  all_goals intro hd
  all_goals first
    | (cases hd; done)
    | exact h
    | exact h.to (by omega)
    | exact h.err _ (by omega)
    | exact h.b6p (by omega) hhd (by omega)
    | skip
  · rename_i ha
    exact h.b6p (by omega) (a6j hM (a4y ha)) (by have:=a1l.1 ha; omega)
  · rename_i ha
    have:=a1l.1 ha
    exact ⟨h.call,by simp,h.n,h.done,h.cur,h.prev,by constructor <;> simp <;> omega,h.keys⟩
end
section
def a8n (l : List Int) : Int:=match l.getLast? with | none => 0 | some p => p + 1
theorem b1t (l : List Int) (a : Int) : a8n (l ++ [a]) = a + 1:=by simp [a8n]
end
section
def a9b (M : Mm) (f : Fr) : List (Int × Int):=if f.keys.length < 100 then f.keys ++ [a0t M (f.cur - 1)] else f.keys
def a3j (M : Mm) (f : Fr) : Fr :=
  if isAt M f then (if f.c.kind = 5 then { f with keys:=a9b M f,pl:=3 } else if M.now < (a0d M (f.cur - 1)).unt then toF f 3 else toF f 4) else toF f 6
def a4v (M : Mm) (f : Fr) : Fr:=if isAt M f then a2i f f.cur (a0d M (f.cur - 1)).next 2 else toF f 6
def a7z (M : Mm) (f : Fr) : Fr:=if isAt M f then { f with slot:=f.cur - 1,cur:=(a0d M (f.cur - 1)).next,pl:=5 } else toF f 6
def a5y (M : Mm) (f : Fr) : Fr:=if isSl M f.slot then { f with slot:=-1,n:=if f.n < 1000000 then f.n + 1 else f.n,pl:=2 } else toF f 6
def swF (M : Mm) (f : Fr) : Fr :=
  if f.pl = 0 then a3a M f else if f.pl = 1 then a2i f 0 (a0v M (bkN M f)) 2 else if f.pl = 2 then a3j M f else if f.pl = 3 then a4v M f
  else if f.pl = 4 then a7z M f else if f.pl = 5 then a5y M f else if f.pl = 6 then endF f 0 else toF f 6
def swM (t : Int) (M : Mm) (f : Fr) : Mm :=
  if f.pl = 0 then a1x M f t else if f.pl = 4 then a3d M f else if f.pl = 5 then a3p M f else if f.pl = 6 then a1y M f t else M
theorem swF0 {M : Mm} {f : Fr} (h : f.pl = 0) : swF M f = a3a M f:=by unfold swF; rw [if_pos h]
theorem swF1 {M : Mm} {f : Fr} (h : f.pl = 1) : swF M f = a2i f 0 (a0v M (bkN M f)) 2:=by unfold swF; rw [if_neg (by omega),if_pos h]
theorem swF2 {M : Mm} {f : Fr} (h : f.pl = 2) : swF M f = a3j M f:=by unfold swF; rw [if_neg (by omega),if_neg (by omega),if_pos h]
theorem swF3 {M : Mm} {f : Fr} (h : f.pl = 3) : swF M f = a4v M f:=by unfold swF; rw [if_neg (by omega),if_neg (by omega),if_neg (by omega),if_pos h]
theorem swF4 {M : Mm} {f : Fr} (h : f.pl = 4) : swF M f = a7z M f:=by unfold swF; rw [if_neg (by omega),if_neg (by omega),if_neg (by omega),if_neg (by omega),if_pos h]
theorem swF5 {M : Mm} {f : Fr} (h : f.pl = 5) : swF M f = a5y M f:=by unfold swF; rw [if_neg (by omega),if_neg (by omega),if_neg (by omega),if_neg (by omega),if_neg (by omega),if_pos h]
theorem swF6 {M : Mm} {f : Fr} (h : f.pl = 6) : swF M f = endF f 0:=by unfold swF; rw [if_neg (by omega),if_neg (by omega),if_neg (by omega),if_neg (by omega),if_neg (by omega),if_neg (by omega),if_pos h]
theorem swF7 {M : Mm} {f : Fr} (h : 7<=f.pl) : swF M f = toF f 6:=by unfold swF; rw [if_neg (by omega),if_neg (by omega),if_neg (by omega),if_neg (by omega),if_neg (by omega),if_neg (by omega),if_neg (by omega)]
theorem swM0 {M : Mm} {f : Fr} {t : Int} (h : f.pl = 0) : swM t M f = a1x M f t:=by unfold swM; rw [if_pos h]
theorem swM4 {M : Mm} {f : Fr} {t : Int} (h : f.pl = 4) : swM t M f = a3d M f:=by unfold swM; rw [if_neg (by omega),if_pos h]
theorem swM5 {M : Mm} {f : Fr} {t : Int} (h : f.pl = 5) : swM t M f = a3p M f:=by unfold swM; rw [if_neg (by omega),if_neg (by omega),if_pos h]
theorem swM6 {M : Mm} {f : Fr} {t : Int} (h : f.pl = 6) : swM t M f = a1y M f t:=by unfold swM; rw [if_neg (by omega),if_neg (by omega),if_neg (by omega),if_pos h]
theorem a3n {M : Mm} {f : Fr} {t : Int} (h : f.pl ≠ 0/\f.pl ≠ 4/\f.pl ≠ 5/\f.pl ≠ 6) : swM t M f = M:=by unfold swM; rw [if_neg h.1,if_neg h.2.1,if_neg h.2.2.1,if_neg h.2.2.2]
theorem swF_c (M : Mm) (f : Fr) : (swF M f).c = f.c:=by
  unfold swF a3a a3j a4v a7z a5y
  repeat' split
  all_goals rfl
theorem swF_keys (M : Mm) (f : Fr) : (swF M f).keys = f.keys\/(f.c.kind = 5/\f.keys.length < 100/\(swF M f).keys = f.keys ++ [a0t M (f.cur - 1)]):=by
  unfold swF a3a a3j a4v a7z a5y
  repeat' split
  all_goals first
    | exact .inl rfl
    | skip
  all_goals
    show a9b M f = f.keys\/_
    unfold a9b
    split
    · exact .inr ⟨by assumption,by assumption,rfl⟩
    · exact .inl rfl
theorem swM_near (t : Int) (M : Mm) (f : Fr) : Near M (swM t M f) (bkN M f):=by
  unfold swM a1x a3d a1y a3p
  repeat' split
  all_goals first
    | exact .refl _ _
    | exact b0p _ _ _
    | exact b3r _ _ _ _
    | exact b0v _ _ _
theorem swF_fit {M : Mm} {f : Fr} (t : Int) (hM : Ok M) (h : Fit M f) (hd : (swF M f).done = false) : Fit (swM t M f) (swF M f):=by
  refine Fit.near ?_ (swM_near t M f)
  revert hd
  unfold swF a3a a3j a4v a7z a5y
  have hb:=a2d hM h.call
  have hhd : -(M.heads.length : Int)<=a0v M (bkN M f)/\a0v M (bkN M f)<=M.slots.length:=by
    have hh:=(hM.a7k (b:=bkN M f) (by unfold bkN; omega)).2
    rwa [a0h] at hh
  have hn:=h.n
  rw [a0h] at hn
  repeat' split
  all_goals intro hd
  all_goals first
    | (cases hd; done)
    | exact h
    | exact h.to (by omega)
    | exact h.b6p (by omega) hhd (by omega)
    | skip
  · refine ⟨h.call,by simp,h.n,h.done,h.cur,h.prev,h.slot,?_⟩
    show (a9b M f).length<=100
    unfold a9b
    have:=h.keys
    split
    · simp only [List.length_append,List.length_cons,List.length_nil]; omega
    · exact this
  · rename_i ha
    exact h.b6p (by omega) (a6j hM (a4y ha)) (by have:=a1l.1 ha; omega)
  · rename_i ha
    have:=a1l.1 ha
    exact ⟨h.call,by simp,h.n,h.done,a6j hM (a4y ha),h.prev,by constructor <;> simp <;> omega,h.keys⟩
  · exact ⟨h.call,by simp,(by rw [a0h]; dsimp only; omega),h.done,h.cur,h.prev,by constructor <;> simp <;> omega,h.keys⟩
  · exact ⟨h.call,by simp,(by rw [a0h]; dsimp only; omega),h.done,h.cur,h.prev,by constructor <;> simp <;> omega,h.keys⟩
end
section
theorem b2e {a : Int} : ∀ {l1 l1' l2 l2' : List Int},l1 ++ a :: l2 = l1' ++ a :: l2'->¬ a ∈ l1->¬ a ∈ l1'->l1 = l1'/\l2 = l2'
  | [],[],_,_,h,_,_ => by simpa using h
  | [],y :: l1',_,_,h,_,h2 => by
    simp only [List.nil_append,List.cons_append,List.cons.injEq] at h
    exact (h2 (by rw [h.1]; simp)).elim
  | x :: l1,[],_,_,h,h1,_ => by
    simp only [List.nil_append,List.cons_append,List.cons.injEq] at h
    exact (h1 (by rw [h.1]; simp)).elim
  | x :: l1,y :: l1',_,_,h,h1,h2 => by
    simp only [List.cons_append,List.cons.injEq] at h
    obtain ⟨e1,e2⟩:=b2e h.2 (fun hm => h1 (by simp [hm])) (fun hm => h2 (by simp [hm]))
    exact ⟨by rw [h.1,e1],e2⟩
end
section
def ptr (b : Nat) : List Int->Int
  | [] => -1 - (b : Int)
  | a :: _ => a + 1
theorem b6o {S : List Sl} {n : Int} {l : List Int} {b : Nat} (h : Path S n l (-1 - (b : Int))) : n = ptr b l:=by
  cases l with
  | nil => exact h.1
  | cons a l => exact h.1
theorem b4j {S : List Sl} {b : Nat} : ∀ {l1 : List Int} {n a : Int} {l2 : List Int},Path S n (l1 ++ a :: l2) (-1 - (b : Int))->(S.getD a.toNat sl0).next = ptr b l2
  | [],n,a,l2,h => b6o h.2.2
  | x :: l1,n,a,l2,h => b4j (l1:=l1) h.2.2
theorem OkC.a9r {M : Mm} (h : OkC M) {b : Nat} (hb : b < M.heads.length) {l1 l2 : List Int} {a : Int} (e : chL M b = l1 ++ a :: l2) : (a0d M a).next = ptr b l2:=by
  have:=h.path hb
  rw [e] at this
  exact b4j this
theorem OkC.b2u {M : Mm} (h : OkC M) {b : Nat} (hb : b < M.heads.length) : a0v M b = ptr b (chL M b):=b6o (h.path hb)
structure Eff (M M' : Mm) (b : Nat) (l : List Int) (d : Int->Int) : Prop where
  okc : OkC M'
  nh : M'.heads.length = M.heads.length
  ns : M'.slots.length = M.slots.length
  nl : M'.a0b.length = M.a0b.length
  now : M'.now = M.now
  at_ : chL M' b = l
  else_ : ∀ c,c < M.heads.length->c ≠ b->chL M' c = chL M c
  refs : ∀ k,isSl M k = true->a0s M' k = a0s M k + d k
  key : ∀ k,isSl M k = true->a0s M k ≠ 0->a0t M' k = a0t M k/\(a0d M' k).unt = (a0d M k).unt
theorem okc_same {M M' : Mm} (h : OkC M) (ho : Ok M') (hh : M'.heads = M.heads) (hn : M'.slots.length = M.slots.length) (hnx : ∀ x,(a0d M' x).next = (a0d M x).next)
    (hx : ∀ a ∈ allC M,a0t M' a = a0t M a/\(a0d M' a).inn = (a0d M a).inn/\(a0d M' a).refs ≠ 0) : OkC M'/\(∀ b,chL M' b = chL M b)/\allC M' = allC M:=by
  have hnext : ∀ n : Int,a5v M'.slots n = a5v M.slots n:=fun n => hnx (n - 1)
  have hL : ∀ b,chL M' b = chL M b:=fun b => by unfold chL a0v; rw [hn,hh]; exact (a5g hnext _ _).1
  have hE : ∀ b,chE M' b = chE M b:=fun b => by unfold chE a0v; rw [hn,hh]; exact (a5g hnext _ _).2
  have hA : allC M' = allC M:=by unfold allC a1e; rw [hh]; exact a3l fun c _ => hL c
  refine ⟨⟨ho,fun b hb => ?_,fun b hb a ha => ?_,?_⟩,hL,hA⟩
  · rw [hh] at hb; rw [hE]; exact h.ends b hb
  · rw [hh] at hb
    rw [hL] at ha
    obtain ⟨x1,x2,x3⟩:=hx a (a2u.2 ⟨b,hb,ha⟩)
    obtain ⟨y1,y2,y3⟩:=h.held b hb a ha
    unfold a0t at x1
    simp only [Prod.mk.injEq] at x1
    rw [x1.1,x1.2,hh]
    exact ⟨x3,by rw [x2]; exact y2,y3⟩
  · rw [hA]
    have : (allC M).map (a0t M') = (allC M).map (a0t M):=List.map_congr_left fun a ha => (hx a ha).1
    rw [this]; exact h.keys
theorem Eff.refl {M : Mm} (h : OkC M) (b : Nat) : Eff M M b (chL M b) (fun _ => 0) :=
  ⟨h,rfl,rfl,rfl,rfl,rfl,fun _ _ _ => rfl,fun _ _ => by omega,fun _ _ _ => ⟨rfl,rfl⟩⟩
theorem b3b {M : Mm} (h : OkC M) (b c : Nat) {t : Int} (ht : -1<=t/\t<=4) : Eff M (a3q M b t) c (chL M c) (fun _ => 0) :=
  ⟨lock_okc h b ht,rfl,rfl,by simp [a3q],rfl,rfl,fun _ _ _ => rfl,(fun k hk => by show a0s M k = a0s M k + 0; omega),fun _ _ _ => ⟨rfl,rfl⟩⟩
theorem b6r {M M' : Mm} (h : OkC M) (b : Nat) {s r : Int} (hs : isSl M s = true) (ho : Ok M') {F : List Int} (e : M' = { M with slots:=a2r M s r,free:=F }) (hr : s ∈ allC M->r ≠ 0) : Eff M M' b (chL M b) (fun k => if k = s then r - a0s M s else 0):=by
  have hs0:=(a1a.1 hs).1
  have hs5 : ∀ x : Int,a0d M' x = if x.toNat = s.toNat then { a0d M s with refs:=r } else a0d M x:=fun x => by
    rw [e]; exact b0x hs rfl x
  have hsx : ∀ x : Int,x.toNat = s.toNat->a0d M x = a0d M s:=fun x hx => by unfold a0d; rw [hx]
  have hkey : ∀ x,a0t M' x = a0t M x:=fun x => by
    unfold a0t; rw [hs5]; split
    · rename_i e; rw [hsx x e]
    · rfl
  have hunt : ∀ x,(a0d M' x).unt = (a0d M x).unt:=fun x => by
    rw [hs5]; split
    · rename_i e; rw [hsx x e]
    · rfl
  have hh : M'.heads = M.heads:=by rw [e]
  have hn : M'.slots.length = M.slots.length:=by rw [e]; simp [a2r]
  obtain ⟨oc,hL,hA⟩:=okc_same h ho hh hn (fun x => by
      rw [hs5]; split
      · rename_i e; rw [hsx x e]
      · rfl) (fun a ha => by
      refine ⟨hkey a,?_,?_⟩
      · rw [hs5]; split
        · rename_i e; rw [hsx a e]
        · rfl
      · have ha0:=(h.a4m a ha).1
        rw [hs5]; split
        · rename_i e
          have : a = s:=by omega
          subst this
          exact hr ha
        · obtain ⟨c,hc,hm⟩:=a2u.1 ha
          exact (h.held c hc a hm).1)
  refine ⟨oc,by rw [hh],hn,by rw [e],by rw [e],hL b,fun c _ _ => hL c,fun k hk => ?_,fun k _ _ => ⟨hkey k,hunt k⟩⟩
  have hk0:=(a1a.1 hk).1
  show (a0d M' k).refs = (a0d M k).refs + _
  rw [hs5]
  by_cases ek : k = s
  · subst ek
    rw [if_pos rfl,if_pos rfl]
    show r = (a0d M k).refs + (r - a0s M k)
    have : a0s M k = (a0d M k).refs:=rfl
    omega
  · rw [if_neg (by omega),if_neg ek]
    omega
theorem a6z {M : Mm} (h : OkC M) (b : Nat) {s : Int} (hs : isSl M s = true) (h0 : 0 < a0s M s) (hm : s ∈ allC M->2<=a0s M s) : Eff M (putN M s) b (chL M b) (fun k => if k = s then -1 else 0):=by
  have hr:=a7x h.ok hs
  have he : putN M s = { M with slots:=a2r M s (a0s M s - 1),free:=if a0s M s = 1 then M.free ++ [s] else M.free }:=by
    unfold putN; rw [if_neg (by omega)]; rfl
  have:=b6r h b hs (putN_ok h.ok hs) he (fun hm' => by have:=hm hm'; omega)
  have ed : (fun k => if k = s then a0s M s - 1 - a0s M s else 0) = fun k => if k = s then (-1 : Int) else 0:=by
    funext k; split <;> omega
  rw [ed] at this
  exact this
theorem b6i {M : Mm} (h : OkC M) (b : Nat) {s : Int} (hs : isSl M s = true) (h0 : 0 < a0s M s) (h1 : a0s M s < 1000) : Eff M (b7i M s) b (chL M b) (fun k => if k = s then 1 else 0):=by
  have he : b7i M s = { M with slots:=a2r M s (a0s M s + 1),free:=M.free }:=rfl
  have:=b6r h b hs (hold_ok h.ok hs h0 h1) he (fun _ => by omega)
  have ed : (fun k => if k = s then a0s M s + 1 - a0s M s else 0) = fun k => if k = s then (1 : Int) else 0:=by
    funext k; split <;> omega
  rw [ed] at this
  exact this
theorem b6u {M : Mm} (h : OkC M) (b : Nat) {ka kb u : Int} (hk : keyB ka kb = true) (hu : inB u 0 2000000 = true) (hF : 0 < M.free.length) :
    Eff M (a5d M ka kb u) b (chL M b) (fun k => if k = a2v M then 1 else 0)/\a2v M ∉ allC M/\isSl M (a2v M) = true/\a0s M (a2v M) = 0/\a0t (a5d M ka kb u) (a2v M) = (ka,kb)/\(a0d (a5d M ka kb u) (a2v M)).unt = u:=by
  obtain ⟨l0,l1,l2⟩:=b2y h.ok hF
  obtain ⟨s,hs⟩ : ∃ s,s = a2v M:=⟨_,rfl⟩
  rw [<- hs] at l0 l1 l2 ⊢
  have hsl : isSl M s = true:=a1a.2 ⟨l0,l1⟩
  have hoff : s ∉ allC M:=free_off h l2
  obtain ⟨M1,hM1⟩ : ∃ M1,M1 = a5d M ka kb u:=⟨_,rfl⟩
  have hs1 : ∀ x : Int,a0d M1 x = if x.toNat = s.toNat then ⟨1,ka,kb,u,false,(a0d M s).next⟩ else a0d M x:=fun x => by
    rw [hM1]; exact b0x hsl (by rw [hs]; rfl) x
  have ok1 : Ok M1:=by rw [hM1]; exact take_ok h.ok hk hu hF
  have h1h : M1.heads = M.heads:=by rw [hM1]; rfl
  have h1n : M1.slots.length = M.slots.length:=by rw [hM1]; simp [a5d]
  obtain ⟨oc1,hL1,hA1,hat1⟩:=okc_off h ok1 h1h h1n hoff l0 (fun x hx => by rw [hs1,if_neg hx]) (by rw [hs1,if_pos rfl])
  rw [<- hM1]
  refine ⟨⟨oc1,by rw [h1h],h1n,by rw [hM1]; rfl,by rw [hM1]; rfl,hL1 b,fun c _ _ => hL1 c,fun k hk => ?_,fun k hk hr => ?_⟩,hoff,hsl,l2,?_,?_⟩
  · have hk0:=(a1a.1 hk).1
    show (a0d M1 k).refs = (a0d M k).refs + _
    rw [hs1]
    by_cases ek : k = s
    · subst ek
      rw [if_pos rfl,if_pos rfl]
      have : (a0d M k).refs = 0:=l2
      show (1 : Int) = (a0d M k).refs + 1
      omega
    · rw [if_neg (by omega),if_neg ek]
      omega
  · have hk0:=(a1a.1 hk).1
    have hne : k.toNat ≠ s.toNat:=fun e => hr (by rw [show k = s by omega]; exact l2)
    unfold a0t
    rw [hs1,if_neg hne]
    exact ⟨rfl,rfl⟩
  · unfold a0t; rw [hs1,if_pos rfl]
  · rw [hs1,if_pos rfl]
theorem b6k {M : Mm} (h : OkC M) {s : Int} (hs : isSl M s = true) (hr : a0s M s ≠ 0) (hk : hasK M (allC M) (a0t M s) = false) {b : Nat} (hb : ownB M s = b) : Eff M (a6f M s b) b (s :: chL M b) (fun _ => 0):=by
  have L:=link_ok h hs hr hk
  have e : a4f M s = a6f M s b:=by unfold a4f a6f; rw [hb]
  rw [e,hb] at L
  refine ⟨L.okc,L.nh,L.ns,rfl,rfl,L.at_,L.else_,fun k _ => ?_,fun k _ _ => ⟨L.key k,L.unt k⟩⟩
  have:=L.refs k
  show (a0d (a6f M s b) k).refs = (a0d M k).refs + 0
  omega
theorem b4v {M : Mm} (h : OkC M) {b : Nat} (hb : b < M.heads.length) {l1 l2 : List Int} {a : Int} (e : chL M b = l1 ++ a :: l2) : Eff M (cutM M b (a8n l1) a) b (l1 ++ l2) (fun _ => 0):=by
  have hach : a ∈ chL M b:=by rw [e]; simp
  have hnd:=h.nodup hb
  rw [e,List.nodup_append,List.nodup_cons] at hnd
  have na1 : ¬ a ∈ l1:=fun h => hnd.2.2 a h a (by simp) rfl
  have hah : a7c a (chL M b) 0 0 = a8n l1:=by rw [e,b2k na1 hnd.2.1.1]; rfl
  have C:=cut_ok h hb hach
  rw [hah] at C
  obtain ⟨m1,m2,s1,s2⟩:=C.at_
  have hnd2:=h.nodup hb
  rw [s1,List.nodup_append,List.nodup_cons] at hnd2
  have nm1 : ¬ a ∈ m1:=fun h => hnd2.2.2 a h a (by simp) rfl
  rw [e] at s1
  obtain ⟨rfl,rfl⟩:=b2e s1 na1 nm1
  refine ⟨C.okc,C.nh,C.ns,?_,?_,s2,C.else_,fun k _ => ?_,fun k _ _ => ⟨C.key k,C.unt k⟩⟩
  · unfold cutM; split <;> rfl
  · unfold cutM; split <;> rfl
  · have:=C.refs k
    show (a0d (cutM M b (a8n l1) a) k).refs = (a0d M k).refs + 0
    omega
end
section
variable {Xb : Ex}
structure Tk where
  busy : Bool
  f : Fr
  held : List Int
structure Wd where
  m : Mm
  ts : List Tk
def Key (f : Fr) : Int × Int:=(f.c.a,f.c.b)
def hasL (f : Fr) : Prop:=(f.c.kind = 2/\2<=f.pl)\/(f.c.kind = 3/\1<=f.pl/\f.pl<=5)\/((f.c.kind = 4\/f.c.kind = 5)/\1<=f.pl)
def a1r (f : Fr) : Bool:=decide (0<=f.slot) && !(f.c.kind == 2 && f.pl == 7)
def hand (t : Tk) (k : Int) : Int:=if t.busy && a1r t.f && t.f.slot == k then 1 else 0
def cnt (t : Tk) (k : Int) : Int:=(t.held.count k : Int) + hand t k
def mapd (m : Mm) (k : Int) : Int:=if k ∈ allC m then 1 else 0
def sumC (ts : List Tk) (k : Int) : Int:=(ts.map (fun t => cnt t k)).sum
def adds (f : Fr) : Prop:=f.c.kind = 2/\1<=f.pl/\f.pl<=6
def Rest (m : Mm) (f : Fr) (l1 l2 : List Int) : Prop:=chL m (bkN m f) = l1 ++ l2/\f.cur = ptr (bkN m f) l2
def NoK (m : Mm) (f : Fr) (l : List Int) : Prop:=∀ a ∈ l,a0t m a ≠ Key f
def StLook (f : Fr) : Prop:=f.pl<=6/\(f.pl<=3->f.slot = -1)/\(4<=f.pl->0<=f.slot)
def StAdd (m : Mm) (f : Fr) : Prop :=
  f.pl<=7/\(f.pl = 0->f.slot = -1)/\(1<=f.pl->f.pl<=6->isSl m f.slot = true/\f.slot ∉ allC m/\a0t m f.slot = Key f) /\
  (f.pl = 3->∃ l1 l2,Rest m f l1 l2/\NoK m f l1)/\(f.pl = 4->∃ l1 a l2,Rest m f l1 (a :: l2)/\NoK m f (l1 ++ [a])) /\
  (f.pl = 5->NoK m f (chL m (bkN m f)))/\(f.pl = 7->(f.e = 0/\0<=f.slot)\/(f.e = 6/\f.slot = -1))
def b8w (m : Mm) (f : Fr) : Prop :=
  f.pl<=6/\(f.pl<=4->f.slot = -1)/\(f.pl = 2->∃ l1 l2,Rest m f l1 l2/\NoK m f l1/\f.prev = a8n l1) /\
  (f.pl = 3->∃ l1 a l2,Rest m f l1 (a :: l2)/\NoK m f (l1 ++ [a])/\f.prev = a8n l1) /\
  (f.pl = 4->∃ l1 a l2,Rest m f l1 (a :: l2)/\a0t m a = Key f/\f.prev = a8n l1)/\(5<=f.pl->(f.e = 5/\f.slot = -1)\/(f.e = 0/\isSl m f.slot = true))
def b4s (m : Mm) (f : Fr) : Prop :=
  f.pl<=6/\(f.pl ≠ 5->f.slot = -1)/\(f.c.kind = 5->f.pl ≠ 4/\f.pl ≠ 5)/\(f.pl = 2->∃ l1 l2,Rest m f l1 l2/\f.prev = a8n l1) /\
  (f.pl = 3\/f.pl = 4->∃ l1 a l2,Rest m f l1 (a :: l2)/\f.prev = a8n l1) /\
  (f.pl = 5->isSl m f.slot = true/\∃ l1 l2,Rest m f l1 l2/\f.prev = a8n l1)
structure FI (m : Mm) (t : Tk) : Prop where
  fit : Fit m t.f
  kind : 1<=t.f.c.kind/\t.f.c.kind<=6
  look : t.f.c.kind = 1->StLook t.f/\t.held.length < 100
  add : t.f.c.kind = 2->StAdd m t.f
  drop : t.f.c.kind = 3->b8w m t.f
  sweep : t.f.c.kind = 4\/t.f.c.kind = 5->b4s m t.f
  leave : t.f.c.kind = 6->t.f.slot = -1/\t.f.c.slot ∈ t.held
structure WInv (w : Wd) : Prop where
  okc : OkC w.m
  nt : 1<=w.ts.length/\w.ts.length<=5
  fi : ∀ t ∈ w.ts,t.busy = true->FI w.m t
  held : ∀ t ∈ w.ts,t.held.length<=100/\∀ a ∈ t.held,isSl w.m a = true
  refs : ∀ k,isSl w.m k = true->a0s w.m k = mapd w.m k + sumC w.ts k
  lockI : ∀ (i : Nat) t,w.ts[i]? = some t->t.busy = true->hasL t.f->a0k w.m (bkN w.m t.f) = i
  lockO : ∀ b,b < w.m.heads.length->a0k w.m b ≠ -1->∃ (i : Nat) (t : Tk),a0k w.m b = i/\w.ts[i]? = some t/\t.busy = true/\hasL t.f/\bkN w.m t.f = b
  own : ∀ (i j : Nat) ti tj,w.ts[i]? = some ti->w.ts[j]? = some tj->i ≠ j->ti.busy = true->tj.busy = true->adds ti.f->adds tj.f->ti.f.slot ≠ tj.f.slot
theorem b1k (t : Tk) (k : Int) : 0<=cnt t k:=by
  unfold cnt hand
  split <;> omega
theorem b3g : ∀ (ts : List Tk) (i : Nat) (t t' : Tk) (k : Int),ts[i]? = some t->sumC (ts.set i t') k = sumC ts k - cnt t k + cnt t' k
  | [],i,t,t',k,h => by simp at h
  | x :: ts,0,t,t',k,h => by
    have hx : x = t:=by simpa using h
    subst hx
    show cnt t' k + sumC ts k = cnt x k + sumC ts k - cnt x k + cnt t' k
    omega
  | x :: ts,i + 1,t,t',k,h => by
    have h' : ts[i]? = some t:=by simpa using h
    have:=b3g ts i t t' k h'
    show cnt x k + sumC (ts.set i t') k = cnt x k + sumC ts k - cnt t k + cnt t' k
    omega
theorem b5j (ts : List Tk) (k : Int) : 0<=sumC ts k:=by
  induction ts with
  | nil => exact Int.le_refl 0
  | cons x ts ih =>
    have:=b1k x k
    show 0<=cnt x k + sumC ts k
    omega
theorem c2e (ts : List Tk) (t : Tk) (k : Int) (h : t ∈ ts) : cnt t k<=sumC ts k:=by
  induction ts with
  | nil => cases h
  | cons x ts ih =>
    have h0:=b5j ts k
    have h1:=b1k x k
    show cnt t k<=cnt x k + sumC ts k
    rcases List.mem_cons.1 h with rfl | h
    · omega
    · have:=ih h
      omega
theorem a6g (m : Mm) (k : Int) : 0<=mapd m k/\mapd m k<=1:=by
  unfold mapd
  split <;> omega
theorem hand_one {t : Tk} (hb : t.busy = true) (hi : a1r t.f = true) : hand t t.f.slot = 1:=by
  unfold hand
  rw [hb,hi]
  simp
theorem WInv.a1r {w : Wd} (I : WInv w) {t : Tk} (ht : t ∈ w.ts) (hb : t.busy = true) (hi : a1r t.f = true) (hs : isSl w.m t.f.slot = true) : 1 + mapd w.m t.f.slot<=a0s w.m t.f.slot:=by
  have h1:=I.refs _ hs
  have h2:=c2e w.ts t t.f.slot ht
  have h3:=hand_one hb hi
  unfold cnt at h2
  omega
theorem WInv.heldIn {w : Wd} (I : WInv w) {t : Tk} (ht : t ∈ w.ts) {a : Int} (ha : a ∈ t.held) : 1 + mapd w.m a<=a0s w.m a:=by
  have h1:=I.refs _ ((I.held t ht).2 a ha)
  have h2:=c2e w.ts t a ht
  have h3 : 0 < t.held.count a:=List.count_pos_iff.2 ha
  have h4 : 0<=hand t a:=by unfold hand; split <;> omega
  unfold cnt at h2
  omega
theorem b5t {m m' : Mm} (h : m'.heads.length = m.heads.length) (f : Fr) : bkN m' f = bkN m f:=by unfold bkN; rw [h]
theorem FI.other {m m' : Mm} {b : Nat} {l : List Int} {d : Int->Int} {t : Tk} (F : FI m t) (hM : OkC m) (E : Eff m m' b l d)
    (hc : hasL t.f->bkN m t.f = b->l = chL m b) (hr : adds t.f->a0s m t.f.slot ≠ 0) (ha : adds t.f->t.f.slot ∉ allC m') : FI m' t:=by
  have hbk:=b5t E.nh t.f
  have hbl : bkN m t.f < m.heads.length:=by
    have:=a2d hM.ok F.fit.call
    unfold bkN; omega
  have hch : hasL t.f->chL m' (bkN m' t.f) = chL m (bkN m t.f):=fun h => by
    rw [hbk]
    by_cases e : bkN m t.f = b
    · rw [e,E.at_,hc h e]
    · exact E.else_ _ hbl e
  have hky : ∀ a,a ∈ chL m (bkN m t.f)->a0t m' a = a0t m a:=fun a hm => by
    have h1:=hM.held _ hbl a hm
    exact (E.key a (a1a.2 (hM.slots hbl a hm)) h1.1).1
  have hsl : ∀ x,isSl m' x = isSl m x:=fun x => by unfold isSl; rw [E.ns]
  have hrest : hasL t.f->∀ {l1 l2},Rest m t.f l1 l2->Rest m' t.f l1 l2:=fun h l1 l2 R => ⟨(hch h).trans R.1,by rw [hbk]; exact R.2⟩
  have hno : ∀ {l1 l2 : List Int},chL m (bkN m t.f) = l1 ++ l2->NoK m t.f l1->NoK m' t.f l1:=fun e N a hm => by
    rw [hky a (by rw [e]; simp [hm])]; exact N a hm
  have hfit : Fit m' t.f:=by
    have h:=F.fit
    refine ⟨?_,h.pl,h.n,h.done,?_,?_,?_,h.keys⟩
    · rw [E.ns,E.nh]; exact h.call
    · rw [E.ns,E.nh]; exact h.cur
    · rw [E.ns]; exact h.prev
    · rw [E.ns]; exact h.slot
  refine ⟨hfit,F.kind,F.look,fun hk => ?_,fun hk => ?_,fun hk => ?_,F.leave⟩
  · obtain ⟨a1,a2,a3,a4,a5,a6,a7⟩:=F.add hk
    refine ⟨a1,a2,fun p1 p2 => ?_,fun p => ?_,fun p => ?_,fun p => ?_,a7⟩
    · obtain ⟨x1,x2,x3⟩:=a3 p1 p2
      exact ⟨by rw [hsl]; exact x1,ha ⟨hk,p1,p2⟩,((E.key _ x1 (hr ⟨hk,p1,p2⟩)).1).trans x3⟩
    · obtain ⟨l1,l2,R,N⟩:=a4 p
      have hl : hasL t.f:=.inl ⟨hk,by omega⟩
      exact ⟨l1,l2,hrest hl R,hno R.1 N⟩
    · obtain ⟨l1,a,l2,R,N⟩:=a5 p
      have hl : hasL t.f:=.inl ⟨hk,by omega⟩
      exact ⟨l1,a,l2,hrest hl R,hno (l2:=l2) (by rw [R.1]; simp) N⟩
    · have hl : hasL t.f:=.inl ⟨hk,by omega⟩
      intro a hm
      rw [hch hl] at hm
      rw [hky a hm]
      exact a6 p a hm
  · obtain ⟨a1,a2,a3,a4,a5,a6⟩:=F.drop hk
    refine ⟨a1,a2,fun p => ?_,fun p => ?_,fun p => ?_,fun p => ?_⟩
    · obtain ⟨l1,l2,R,N,q⟩:=a3 p
      have hl : hasL t.f:=.inr (.inl ⟨hk,by omega,by omega⟩)
      exact ⟨l1,l2,hrest hl R,hno R.1 N,q⟩
    · obtain ⟨l1,a,l2,R,N,q⟩:=a4 p
      have hl : hasL t.f:=.inr (.inl ⟨hk,by omega,by omega⟩)
      exact ⟨l1,a,l2,hrest hl R,hno (l2:=l2) (by rw [R.1]; simp) N,q⟩
    · obtain ⟨l1,a,l2,R,N,q⟩:=a5 p
      have hl : hasL t.f:=.inr (.inl ⟨hk,by omega,by omega⟩)
      exact ⟨l1,a,l2,hrest hl R,by rw [hky a (by rw [R.1]; simp)]; exact N,q⟩
    · rcases a6 p with h | h
      · exact .inl h
      · exact .inr ⟨h.1,by rw [hsl]; exact h.2⟩
  · obtain ⟨a1,a2,a3,a4,a5,a6⟩:=F.sweep hk
    refine ⟨a1,a2,a3,fun p => ?_,fun p => ?_,fun p => ?_⟩
    · obtain ⟨l1,l2,R,q⟩:=a4 p
      exact ⟨l1,l2,hrest (.inr (.inr ⟨hk,by omega⟩)) R,q⟩
    · obtain ⟨l1,a,l2,R,q⟩:=a5 p
      exact ⟨l1,a,l2,hrest (.inr (.inr ⟨hk,by omega⟩)) R,q⟩
    · obtain ⟨x,l1,l2,R,q⟩:=a6 p
      exact ⟨by rw [hsl]; exact x,l1,l2,hrest (.inr (.inr ⟨hk,by omega⟩)) R,q⟩
end
section
theorem bkN_c {m : Mm} {f f' : Fr} (h : f'.c = f.c) : bkN m f' = bkN m f:=by unfold bkN; rw [h]
theorem a4x {ts : List Tk} {i j : Nat} {t' u : Tk} (h : (ts.set i t')[j]? = some u) : (j = i/\u = t'/\i < ts.length)\/(j ≠ i/\ts[j]? = some u):=by
  rw [List.getElem?_set] at h
  by_cases e : i = j
  · subst e
    rw [if_pos rfl] at h
    by_cases hl : i < ts.length
    · rw [if_pos hl] at h
      exact .inl ⟨rfl,by simpa using h.symm,hl⟩
    · rw [if_neg hl] at h; cases h
  · rw [if_neg e] at h
    exact .inr ⟨fun h' => e h'.symm,h⟩
theorem a1o {f : Fr} (h : adds f) (hs : 0<=f.slot) : a1r f = true:=by
  unfold a1r
  obtain ⟨h1,h2,h3⟩:=h
  simp only [Bool.and_eq_true,decide_eq_true_eq,Bool.not_eq_true',Bool.and_eq_false_iff]
  refine ⟨hs,.inr ?_⟩
  simp; omega
theorem WInv.a8f {w : Wd} (I : WInv w) {u : Tk} (hu : u ∈ w.ts) (hb : u.busy = true) (ha : adds u.f) : isSl w.m u.f.slot = true/\a0s w.m u.f.slot ≠ 0/\u.f.slot ∉ allC w.m:=by
  obtain ⟨x1,x2,x3⟩:=((I.fi u hu hb).add ha.1).2.2.1 ha.2.1 ha.2.2
  have h0:=(a1a.1 x1).1
  have:=I.a1r hu hb (a1o ha h0) x1
  have:=(a6g w.m u.f.slot).1
  exact ⟨x1,by omega,x2⟩
set_option maxHeartbeats 800000 in
theorem a9m {w : Wd} (I : WInv w) {i : Nat} {t t' : Tk} {m' : Mm} {l : List Int} {d : Int->Int} (hi : w.ts[i]? = some t) (hb : t.busy = true)
    (E : Eff w.m m' (bkN w.m t.f) l d) (hl : l = chL w.m (bkN w.m t.f)\/hasL t.f)
    (hc : t'.f.c = t.f.c) (hfi : t'.busy = true->FI m' t') (hheld : t'.held.length<=100/\∀ a ∈ t'.held,isSl w.m a = true)
    (hsub : ∀ x ∈ allC m',x ∈ allC w.m\/(adds t.f/\x = t.f.slot))
    (hcnt : ∀ k,isSl w.m k = true->d k = mapd m' k - mapd w.m k + (cnt t' k - cnt t k))
    (hown : t'.busy = true->adds t'.f->(adds t.f/\t'.f.slot = t.f.slot)\/a0s w.m t'.f.slot = 0)
    (hl1 : t'.busy = true->hasL t'.f->a0k m' (bkN w.m t.f) = i)
    (hl2 : ∀ c,c ≠ bkN w.m t.f->a0k m' c = a0k w.m c)
    (hl3 : a0k m' (bkN w.m t.f) = a0k w.m (bkN w.m t.f)\/a0k w.m (bkN w.m t.f) = -1\/a0k w.m (bkN w.m t.f) = i)
    (hl4 : a0k m' (bkN w.m t.f) = -1\/(a0k m' (bkN w.m t.f) = i/\t'.busy = true/\hasL t'.f)\/(a0k m' (bkN w.m t.f) = a0k w.m (bkN w.m t.f)/\a0k w.m (bkN w.m t.f) ≠ i)) :
    WInv ⟨m',w.ts.set i t'⟩:=by
  have htm : t ∈ w.ts:=List.mem_of_getElem? hi
  have hsl : ∀ x,isSl m' x = isSl w.m x:=fun x => by unfold isSl; rw [E.ns]
  have hbk : ∀ f : Fr,bkN m' f = bkN w.m f:=fun f => b5t E.nh f
  refine ⟨E.okc,by simpa using I.nt,fun u hu hbu => ?_,fun u hu => ?_,fun k hk => ?_,fun j u hj hbu hL => ?_,fun b hbb hne => ?_,fun j1 j2 u1 u2 h1 h2 hne b1 b2 a1 a2 => ?_⟩
  · obtain ⟨j,hj⟩:=List.mem_iff_getElem?.1 hu
    rcases a4x hj with ⟨rfl,rfl,_⟩ | ⟨hji,hj'⟩
    · exact hfi hbu
    · have hum:=List.mem_of_getElem? hj'
      refine (I.fi u hum hbu).other I.okc E (fun hL he => ?_) (fun ha => (I.a8f hum hbu ha).2.1) (fun ha hm => ?_)
      · rcases hl with h | h
        · exact h
        · have e1:=I.lockI i t hi hb h
          have e2:=I.lockI j u hj' hbu hL
          rw [he,e1] at e2
          exact (hji (by omega)).elim
      · rcases hsub _ hm with h | ⟨h,e⟩
        · exact (I.a8f hum hbu ha).2.2 h
        · exact I.own j i u t hj' hi hji hbu hb ha h e
  · obtain ⟨j,hj⟩:=List.mem_iff_getElem?.1 hu
    rcases a4x hj with ⟨rfl,rfl,_⟩ | ⟨hji,hj'⟩
    · exact ⟨hheld.1,fun a ha => by show isSl m' a = true; rw [hsl]; exact hheld.2 a ha⟩
    · have h:=I.held u (List.mem_of_getElem? hj')
      exact ⟨h.1,fun a ha => by show isSl m' a = true; rw [hsl]; exact h.2 a ha⟩
  · have hk' : isSl w.m k = true:=by rw [<- hsl]; exact hk
    have h1:=E.refs k hk'
    have h2:=I.refs k hk'
    have h3:=b3g w.ts i t t' k hi
    have h4:=hcnt k hk'
    show a0s m' k = mapd m' k + sumC (w.ts.set i t') k
    omega
  · show a0k m' (bkN m' u.f) = j
    rw [hbk]
    rcases a4x hj with ⟨rfl,rfl,_⟩ | ⟨hji,hj'⟩
    · rw [bkN_c hc]; exact hl1 hbu hL
    · have e:=I.lockI j u hj' hbu hL
      by_cases hbb : bkN w.m u.f = bkN w.m t.f
      · rw [hbb] at e ⊢
        rcases hl3 with h | h | h
        · rw [h]; exact e
        · rw [h] at e; omega
        · rw [h] at e; exact (hji (by omega)).elim
      · rw [hl2 _ hbb]; exact e
  · have hbb' : b < w.m.heads.length:=by rw [<- E.nh]; exact hbb
    have hil : i < w.ts.length:=(List.getElem?_eq_some_iff.1 hi).1
    have keep : a0k m' b = a0k w.m b->a0k w.m b ≠ i->∃ (j : Nat) (u : Tk),a0k m' b = j/\(w.ts.set i t')[j]? = some u/\u.busy = true/\hasL u.f/\bkN m' u.f = b:=fun e hni => by
      have hne' : a0k w.m b ≠ -1:=by rw [<- e]; exact hne
      obtain ⟨j,u,x1,x2,x3,x4,x5⟩:=I.lockO b hbb' hne'
      have hji : j ≠ i:=fun h => hni (by rw [x1,h])
      exact ⟨j,u,e.trans x1,by rw [List.getElem?_set_ne (fun h => hji h.symm)]; exact x2,x3,x4,by rw [hbk]; exact x5⟩
    by_cases hbe : b = bkN w.m t.f
    · subst hbe
      rcases hl4 with h | ⟨h,h',h''⟩ | ⟨h,h'⟩
      · exact (hne h).elim
      · exact ⟨i,t',h,by rw [List.getElem?_set_self hil],h',h'',by rw [hbk,bkN_c hc]⟩
      · exact keep h h'
    · refine keep (hl2 b hbe) fun h => ?_
      have hne' : a0k w.m b ≠ -1:=by omega
      obtain ⟨j,u,x1,x2,x3,x4,x5⟩:=I.lockO b hbb' hne'
      have hji : j = i:=by omega
      subst hji
      rw [hi] at x2
      injection x2 with x2
      subst x2
      exact hbe x5.symm
  · rcases a4x h1 with ⟨rfl,rfl,_⟩ | ⟨e1,g1⟩ <;> rcases a4x h2 with ⟨rfl,rfl,_⟩ | ⟨e2,g2⟩
    · exact (hne rfl).elim
    · have hum:=List.mem_of_getElem? g2
      rcases hown b1 a1 with ⟨x,y⟩ | y
      · rw [y]; exact I.own _ _ t u2 hi g2 hne hb b2 x a2
      · intro e
        rw [e] at y
        exact (I.a8f hum b2 a2).2.1 y
    · have hum:=List.mem_of_getElem? g1
      rcases hown b2 a2 with ⟨x,y⟩ | y
      · rw [y]; exact I.own _ _ u1 t g1 hi hne b1 hb a1 x
      · intro e
        rw [<- e] at y
        exact (I.a8f hum b1 a1).2.1 y
    · exact I.own j1 j2 u1 u2 g1 g2 hne b1 b2 a1 a2
theorem a2h {w : Wd} (I : WInv w) {i : Nat} {t t' : Tk} {m' : Mm} {d : Int->Int} (hi : w.ts[i]? = some t) (hb : t.busy = true)
    (E : Eff w.m m' (bkN w.m t.f) (chL w.m (bkN w.m t.f)) d) (hlk : m'.a0b = w.m.a0b)
    (hc : t'.f.c = t.f.c) (hfi : t'.busy = true->FI m' t') (hheld : t'.held.length<=100/\∀ a ∈ t'.held,isSl w.m a = true)
    (hcnt : ∀ k,isSl w.m k = true->d k = cnt t' k - cnt t k)
    (hown : t'.busy = true->adds t'.f->(adds t.f/\t'.f.slot = t.f.slot)\/a0s w.m t'.f.slot = 0)
    (hL : hasL t.f ↔ (t'.busy = true/\hasL t'.f)) : WInv ⟨m',w.ts.set i t'⟩:=by
  have hA : allC m' = allC w.m:=by
    unfold allC a1e
    rw [E.nh]
    refine a3l fun c hc => ?_
    have:=List.mem_range.1 hc
    by_cases e : c = bkN w.m t.f
    · rw [e]; exact E.at_
    · exact E.else_ c this e
  have hla : ∀ c,a0k m' c = a0k w.m c:=fun c => by unfold a0k; rw [hlk]
  have hmp : ∀ k,mapd m' k = mapd w.m k:=fun k => by unfold mapd; rw [hA]
  refine a9m I hi hb E (.inl rfl) hc hfi hheld (fun x hx => .inl (by rw [<- hA]; exact hx)) (fun k hk => by rw [hmp,hcnt k hk]; omega) hown ?_ (fun c _ => hla c) (.inl (hla _)) ?_
  · intro h1 h2
    rw [hla]
    exact I.lockI i t hi hb (hL.2 ⟨h1,h2⟩)
  · by_cases h : hasL t.f
    · exact .inr (.inl ⟨by rw [hla]; exact I.lockI i t hi hb h,(hL.1 h).1,(hL.1 h).2⟩)
    · refine .inr (.inr ⟨hla _,fun e => ?_⟩)
      have hbl : bkN w.m t.f < w.m.heads.length:=by
        have:=a2d I.okc.ok (I.fi t (List.mem_of_getElem? hi) hb).fit.call
        unfold bkN; omega
      obtain ⟨j,u,x1,x2,x3,x4,x5⟩:=I.lockO _ hbl (by omega)
      have hji : j = i:=by omega
      subst hji
      rw [hi] at x2
      injection x2 with x2
      subst x2
      exact h x4
end
section
theorem a3s {t : Tk} (hb : t.busy = true) (hi : a1r t.f = true) (k : Int) : cnt t k = (t.held.count k : Int) + if k = t.f.slot then 1 else 0:=by
  unfold cnt hand
  rw [hb,hi]
  by_cases e : k = t.f.slot
  · subst e; simp
  · have : (t.f.slot == k) = false:=by simpa using fun h => e h.symm
    rw [this,if_neg e]; simp
theorem a1g {t : Tk} (h : t.busy = false\/a1r t.f = false) (k : Int) : cnt t k = (t.held.count k : Int):=by
  unfold cnt hand
  rcases h with h | h
  · rw [h]; simp
  · rw [h]; simp
theorem a1t {f : Fr} (h : f.c.kind ≠ 2) : a1r f = decide (0<=f.slot):=by
  unfold a1r
  have : (f.c.kind == 2) = false:=by simpa using h
  rw [this]; simp
theorem a3w {f : Fr} (h : f.slot = -1) : a1r f = false:=by
  unfold a1r
  rw [h]; rfl
theorem a5o {m : Mm} {k : Int} (h : k ∈ allC m) : mapd m k = 1:=by unfold mapd; rw [if_pos h]
def a6x (m : Mm) (t : Tk) : Tk:=⟨!(lkF m t.f).done,lkF m t.f,if (lkF m t.f).done && (lkF m t.f).e == 0 then t.held ++ [(lkF m t.f).slot] else t.held⟩
def b5n (t : Tk) : Tk:=⟨false,endF t.f 0,t.held.erase t.f.c.slot⟩
section
variable {w : Wd} {i : Nat} {t : Tk}
theorem b3c {f : Fr} (h : f.c.kind = 1) : ¬ hasL f/\¬ adds f:=by
  unfold hasL adds
  omega
theorem a4h {m' : Mm} {g : Fr} {d : Int->Int} (I : WInv w) (hi : w.ts[i]? = some t) (hb : t.busy = true) (hk : t.f.c.kind = 1) (eg : lkF w.m t.f = g) (em : lkM w.m t.f = m') (hd : g.done = false)
    (E : Eff w.m m' (bkN w.m t.f) (chL w.m (bkN w.m t.f)) d) (hl : m'.a0b = w.m.a0b) (hst : StLook g) (hcnt : ∀ k,isSl w.m k = true->d k = cnt ⟨true,g,t.held⟩ k - cnt t k) : WInv ⟨m',w.ts.set i (a6x w.m t)⟩:=by
  have htm:=List.mem_of_getElem? hi
  have F:=I.fi t htm hb
  have hgc : g.c = t.f.c:=by rw [<- eg]; exact lkF_c _ _
  have e : a6x w.m t = ⟨true,g,t.held⟩:=by unfold a6x; rw [eg,hd]; rfl
  rw [e]
  have hk' : g.c.kind = 1:=by rw [hgc]; exact hk
  refine a2h I hi hb E hl hgc (fun _ => ?_) (I.held t htm) hcnt (fun _ h => ((b3c hk').2 h).elim) ⟨fun h => ((b3c hk).1 h).elim,fun h => ((b3c hk').1 h.2).elim⟩
  refine ⟨?_,by show 1<=g.c.kind/\g.c.kind<=6; omega,fun _ => ⟨hst,(F.look hk).2⟩,fun h => ?_,fun h => ?_,fun h => ?_,fun h => ?_⟩
  · have:=lkF_fit I.okc.ok F.fit (by rw [eg]; exact hd)
    rw [eg,em] at this
    exact this
  · have h' : g.c.kind = 2:=h; omega
  · have h' : g.c.kind = 3:=h; omega
  · have h' : g.c.kind = 4\/g.c.kind = 5:=h; omega
  · have h' : g.c.kind = 6:=h; omega
theorem b0q {m' : Mm} {g : Fr} {d : Int->Int} {held' : List Int} (I : WInv w) (hi : w.ts[i]? = some t) (hb : t.busy = true) (hk : t.f.c.kind = 1) (eg : lkF w.m t.f = g) (hd : g.done = true)
    (hh : (if g.e == 0 then t.held ++ [g.slot] else t.held) = held')
    (E : Eff w.m m' (bkN w.m t.f) (chL w.m (bkN w.m t.f)) d) (hl : m'.a0b = w.m.a0b) (hheld : held'.length<=100/\∀ a ∈ held',isSl w.m a = true) (hcnt : ∀ k,isSl w.m k = true->d k = (held'.count k : Int) - cnt t k) : WInv ⟨m',w.ts.set i (a6x w.m t)⟩:=by
  have hgc : g.c = t.f.c:=by rw [<- eg]; exact lkF_c _ _
  have e : a6x w.m t = ⟨false,g,held'⟩:=by unfold a6x; rw [eg,hd,<- hh]; rfl
  rw [e]
  refine a2h I hi hb E hl hgc (fun h => by cases h) hheld (fun k hk' => ?_) (fun h => by cases h) ⟨fun h => ((b3c hk).1 h).elim,fun h => by cases h.1⟩
  rw [hcnt k hk',a1g (t:=⟨false,g,held'⟩) (.inl rfl)]
set_option maxHeartbeats 800000 in
theorem c0y (I : WInv w) (hi : w.ts[i]? = some t) (hb : t.busy = true) (hk : t.f.c.kind = 1) : WInv ⟨lkM w.m t.f,w.ts.set i (a6x w.m t)⟩:=by
  have htm:=List.mem_of_getElem? hi
  have F:=I.fi t htm hb
  obtain ⟨⟨s1,s2,s3⟩,hlt⟩:=F.look hk
  have hfd:=F.fit.done
  have hpl:=F.fit.pl
  have hh:=I.held t htm
  have hR : Eff w.m w.m (bkN w.m t.f) (chL w.m (bkN w.m t.f)) (fun _ => 0):=Eff.refl I.okc _
  have hsame : ∀ g : Fr,g.c.kind = 1->g.slot = t.f.slot->∀ k : Int,(0 : Int) = cnt ⟨true,g,t.held⟩ k - cnt t k:=fun g h1 h2 k => by
    have e : cnt ⟨true,g,t.held⟩ k = cnt t k:=by
      unfold cnt hand
      dsimp only
      rw [hb,a1t (f:=g) (by omega),a1t (f:=t.f) (by omega),h2]
    omega
  have hneg : t.f.slot = -1->∀ k,cnt t k = (t.held.count k : Int):=fun h k => a1g (.inr (a3w h)) k
  have hpos : 0<=t.f.slot->∀ k,cnt t k = (t.held.count k : Int) + if k = t.f.slot then 1 else 0:=fun h k => a3s hb (by rw [a1t (by omega)]; simpa using h) k
  have hsl : 0<=t.f.slot->isSl w.m t.f.slot = true:=fun h => a1a.2 ⟨h,F.fit.slot.2⟩
  have hp : t.f.pl = 0\/t.f.pl = 1\/t.f.pl = 2\/t.f.pl = 3\/t.f.pl = 4\/t.f.pl = 5\/t.f.pl = 6:=by omega
  rcases hp with p | p | p | p | p | p | p
  · rw [a2l (by omega)]
    have hs:=s2 (by omega)
    refine a4h I hi hb hk (lkF0 p) (a2l (by omega)) hfd hR rfl ⟨by simp [a2b,curF],(fun _ => hs),(fun h => by simp [a2b,curF] at h)⟩ (fun k _ => by refine hsame _ ?_ ?_ k; exact hk; rfl)
  · rw [a2l (by omega)]
    have hs:=s2 (by omega)
    have e:=lkF1 (M:=w.m) p
    unfold a8o at e
    by_cases h1 : t.f.cur = -1 - bkOf w.m.heads.length t.f.c
    · rw [if_pos h1] at e
      exact b0q I hi hb hk e rfl rfl hR rfl hh (fun k _ => by rw [hneg hs]; show (0 : Int) = (t.held.count k : Int) - _; omega)
    · rw [if_neg h1] at e
      by_cases h2 : isAt w.m t.f = true
      · rw [if_pos h2] at e
        refine a4h I hi hb hk e (a2l (by omega)) hfd hR rfl ⟨?_,(fun _ => hs),(fun h => ?_)⟩ (fun k _ => by refine hsame _ ?_ ?_ k; exact hk; rfl)
        · show (if lkK (a0d w.m (t.f.cur - 1)) t.f = true then (3 : Int) else 2)<=6
          split <;> omega
        · have h' : 4<=if lkK (a0d w.m (t.f.cur - 1)) t.f = true then (3 : Int) else 2:=h
          split at h' <;> omega
      · rw [if_neg h2] at e
        exact a4h I hi hb hk e (a2l (by omega)) hfd hR rfl ⟨by simp [toF],(fun _ => hs),(fun h => by simp [toF] at h)⟩ (fun k _ => by refine hsame _ ?_ ?_ k; exact hk; rfl)
  · rw [a2l (by omega)]
    have hs:=s2 (by omega)
    have e:=lkF2 (M:=w.m) p
    unfold a2s at e
    by_cases h2 : isAt w.m t.f = true
    · rw [if_pos h2] at e
      exact a4h I hi hb hk e (a2l (by omega)) hfd hR rfl ⟨by simp [curF],(fun _ => hs),(fun h => by simp [curF] at h)⟩ (fun k _ => by refine hsame _ ?_ ?_ k; exact hk; rfl)
    · rw [if_neg h2] at e
      exact a4h I hi hb hk e (a2l (by omega)) hfd hR rfl ⟨by simp [toF],(fun _ => hs),(fun h => by simp [toF] at h)⟩ (fun k _ => by refine hsame _ ?_ ?_ k; exact hk; rfl)
  · have hs:=s2 (by omega)
    have e:=lkF3 (M:=w.m) p
    have em:=lkM3 (M:=w.m) p
    unfold a5a at e
    unfold a4z a9d at em
    by_cases h2 : isAt w.m t.f = true
    · by_cases h3 : canH w.m (t.f.cur - 1) = true
      · rw [if_pos (by rw [h2,h3]; rfl)] at e
        rw [if_pos h2,if_pos h3] at em
        rw [em]
        have h3':=a9f.1 h3
        have hE:=b6i I.okc (bkN w.m t.f) (a4y h2) h3'.1 h3'.2
        have h0:=(a1a.1 (a4y h2)).1
        refine a4h I hi hb hk e em hfd hE rfl ⟨by simp [a1m],(fun h => by simp [a1m] at h),(fun _ => h0)⟩ (fun k _ => ?_)
        rw [hneg hs,a3s (t:=⟨true,a1m t.f (t.f.cur - 1) 4,t.held⟩) rfl (by rw [a1t (f:=a1m t.f (t.f.cur - 1) 4) (by show t.f.c.kind ≠ 2; omega)]; exact decide_eq_true h0)]
        show (if k = t.f.cur - 1 then (1 : Int) else 0) = (t.held.count k : Int) + (if k = t.f.cur - 1 then 1 else 0) - _
        omega
      · rw [if_neg (by rw [h2]; simpa using h3)] at e
        rw [if_pos h2,if_neg h3] at em
        rw [em]
        exact a4h I hi hb hk e em hfd hR rfl ⟨by simp [toF],(fun _ => hs),(fun h => by simp [toF] at h)⟩ (fun k _ => by refine hsame _ ?_ ?_ k; exact hk; rfl)
    · rw [if_neg (by simpa using fun h => (h2 h).elim)] at e
      rw [if_neg h2] at em
      rw [em]
      exact a4h I hi hb hk e em hfd hR rfl ⟨by simp [toF],(fun _ => hs),(fun h => by simp [toF] at h)⟩ (fun k _ => by refine hsame _ ?_ ?_ k; exact hk; rfl)
  · rw [a2l (by omega)]
    have h0:=s3 (by omega)
    have hs:=hsl h0
    have e:=lkF4 (M:=w.m) p
    unfold a4g at e
    rw [if_pos hs] at e
    by_cases h1 : (lkK (a0d w.m t.f.slot) t.f && (a0d w.m t.f.slot).inn) = true
    · rw [if_pos h1] at e
      by_cases h2 : w.m.now < (a0d w.m t.f.slot).unt
      · rw [if_pos h2] at e
        refine b0q I hi hb hk e rfl rfl hR rfl ⟨?_,fun a ha => ?_⟩ (fun k _ => ?_)
        · show (t.held ++ [t.f.slot]).length<=100
          simp only [List.length_append,List.length_cons,List.length_nil]; omega
        · have ha' : a ∈ t.held ++ [t.f.slot]:=ha
          rcases List.mem_append.1 ha' with h | h
          · exact hh.2 a h
          · have : a = t.f.slot:=by simpa using h
            rw [this]; exact hs
        · rw [hpos h0]
          show (0 : Int) = ((t.held ++ [t.f.slot]).count k : Int) - _
          rw [List.count_append,List.count_cons,List.count_nil]
          by_cases ek : k = t.f.slot
          · subst ek; simp
          · have : (t.f.slot == k) = false:=by simpa using fun h => ek h.symm
            rw [this,if_neg ek]; simp
      · rw [if_neg h2] at e
        exact a4h I hi hb hk e (a2l (by omega)) hfd hR rfl ⟨by simp [toF],(fun h => by simp [toF] at h),(fun _ => h0)⟩ (fun k _ => by refine hsame _ ?_ ?_ k; exact hk; rfl)
    · rw [if_neg h1] at e
      exact a4h I hi hb hk e (a2l (by omega)) hfd hR rfl ⟨by simp [toF],(fun h => by simp [toF] at h),(fun _ => h0)⟩ (fun k _ => by refine hsame _ ?_ ?_ k; exact hk; rfl)
  · have h0:=s3 (by omega)
    have hs:=hsl h0
    have e:=lkF5 (M:=w.m) p
    have em:=lkM5 (M:=w.m) p
    unfold a5n at e
    unfold a1f at em
    rw [if_pos hs] at e em
    rw [em]
    have hin:=I.a1r htm hb (by rw [a1t (by omega)]; simpa using h0) hs
    have hmp:=(a6g w.m t.f.slot)
    have hE:=a6z I.okc (bkN w.m t.f) hs (by omega) (fun hm => by have:=a5o hm; omega)
    refine a4h I hi hb hk e em hfd hE (by unfold putN; split <;> rfl) ⟨by simp [a1m],(fun _ => rfl),(fun h => by simp [a1m] at h)⟩ (fun k _ => ?_)
    rw [hpos h0,a1g (t:=⟨true,a1m t.f (-1) 0,t.held⟩) (.inr rfl)]
    show (if k = t.f.slot then (-1 : Int) else 0) = (t.held.count k : Int) - _
    split <;> omega
  · have h0:=s3 (by omega)
    have hs:=hsl h0
    have e:=lkF6 (M:=w.m) p
    have em:=lkM6 (M:=w.m) p
    unfold a7o at e
    unfold a1f at em
    rw [if_pos hs] at e em
    rw [em]
    have hin:=I.a1r htm hb (by rw [a1t (by omega)]; simpa using h0) hs
    have hmp:=(a6g w.m t.f.slot)
    have hE:=a6z I.okc (bkN w.m t.f) hs (by omega) (fun hm => by have:=a5o hm; omega)
    refine b0q I hi hb hk e rfl rfl hE (by unfold putN; split <;> rfl) hh (fun k _ => ?_)
    rw [hpos h0]
    show (if k = t.f.slot then (-1 : Int) else 0) = (t.held.count k : Int) - _
    split <;> omega
theorem b7p (I : WInv w) (hi : w.ts[i]? = some t) (hb : t.busy = true) (hk : t.f.c.kind = 6) : WInv ⟨putN w.m t.f.c.slot,w.ts.set i (b5n t)⟩:=by
  have htm:=List.mem_of_getElem? hi
  have F:=I.fi t htm hb
  obtain ⟨l1,l2⟩:=F.leave hk
  have hh:=I.held t htm
  have hs:=hh.2 _ l2
  have hin:=I.heldIn htm l2
  have hmp:=(a6g w.m t.f.c.slot)
  have hE:=a6z I.okc (bkN w.m t.f) hs (by omega) (fun hm => by have:=a5o hm; omega)
  have hnl : ¬ hasL t.f:=by unfold hasL; omega
  refine a2h I hi hb hE (by unfold putN; split <;> rfl) rfl (fun h => by cases h) ⟨?_,fun a ha => hh.2 a (List.mem_of_mem_erase ha)⟩ (fun k _ => ?_) (fun h => by cases h) ⟨fun h => (hnl h).elim,fun h => by cases h.1⟩
  · have : (t.held.erase t.f.c.slot).length<=t.held.length:=List.length_erase_le
    show (t.held.erase t.f.c.slot).length<=100
    omega
  · rw [a1g (t:=b5n t) (.inl rfl),a1g (t:=t) (.inr (a3w l1))]
    show (if k = t.f.c.slot then (-1 : Int) else 0) = ((t.held.erase t.f.c.slot).count k : Int) - _
    rw [List.count_erase]
    by_cases ek : k = t.f.c.slot
    · subst ek
      have : 0 < t.held.count t.f.c.slot:=List.count_pos_iff.2 l2
      simp
      omega
    · have : (t.f.c.slot == k) = false:=by simpa using fun h => ek h.symm
      rw [if_neg ek,this]; simp
end
end
section
theorem a8x {m : Mm} {b c : Nat} {v : Int} (h : c ≠ b) : a0k (a3q m b v) c = a0k m c:=by
  unfold a0k a3q
  dsimp only
  rw [List.getD_eq_getElem?_getD,List.getD_eq_getElem?_getD,List.getElem?_set_ne (by omega)]
section
variable {w : Wd} {i : Nat} {t t' : Tk}
theorem WInv.bk (I : WInv w) (hi : w.ts[i]? = some t) (hb : t.busy = true) : bkN w.m t.f < w.m.heads.length/\bkN w.m t.f < w.m.a0b.length:=by
  have F:=I.fi t (List.mem_of_getElem? hi) hb
  have:=a2d I.okc.ok F.fit.call
  have h:=I.okc.ok.nl
  unfold bkN
  omega
theorem WInv.task (I : WInv w) (hi : w.ts[i]? = some t) : (-1 : Int)<=i/\(i : Int)<=4:=by
  have h1 : i < w.ts.length:=(List.getElem?_eq_some_iff.1 hi).1
  have:=I.nt.2
  omega
theorem b2v (I : WInv w) (hi : w.ts[i]? = some t) (hb : t.busy = true) (hf : a0k w.m (bkN w.m t.f) = -1) (hc : t'.f.c = t.f.c) (hb' : t'.busy = true) (hL : hasL t'.f)
    (hfi : FI (a3q w.m (bkN w.m t.f) i) t') (hh : t'.held = t.held) (hcnt : ∀ k,cnt t' k = cnt t k) (hown : adds t'.f->adds t.f/\t'.f.slot = t.f.slot) : WInv ⟨a3q w.m (bkN w.m t.f) i,w.ts.set i t'⟩:=by
  have hbk:=I.bk hi hb
  have hE:=b3b I.okc (bkN w.m t.f) (bkN w.m t.f) (t:=i) (I.task hi)
  have hA : allC (a3q w.m (bkN w.m t.f) i) = allC w.m:=rfl
  refine a9m I hi hb hE (.inl rfl) hc (fun _ => hfi) (by rw [hh]; exact I.held t (List.mem_of_getElem? hi)) (fun x hx => .inl hx) (fun k _ => ?_) (fun _ h => .inl (hown h)) (fun _ _ => a8p hbk.2) (fun c hne => a8x hne) (.inr (.inl hf)) (.inr (.inl ⟨a8p hbk.2,hb',hL⟩))
  show (0 : Int) = mapd w.m k - mapd w.m k + _
  rw [hcnt k]; omega
theorem b2w (I : WInv w) (hi : w.ts[i]? = some t) (hb : t.busy = true) (hL : hasL t.f) (hc : t'.f.c = t.f.c) (hn : t'.busy = true->¬ hasL t'.f)
    (hfi : t'.busy = true->FI (a3q w.m (bkN w.m t.f) (-1)) t') (hh : t'.held = t.held) (hcnt : ∀ k,cnt t' k = cnt t k) (hown : t'.busy = true->¬ adds t'.f) : WInv ⟨a3q w.m (bkN w.m t.f) (-1),w.ts.set i t'⟩:=by
  have hbk:=I.bk hi hb
  have hE:=b3b I.okc (bkN w.m t.f) (bkN w.m t.f) (t:=-1) (by omega)
  refine a9m I hi hb hE (.inl rfl) hc hfi (by rw [hh]; exact I.held t (List.mem_of_getElem? hi)) (fun x hx => .inl hx) (fun k _ => ?_) (fun h1 h2 => (hown h1 h2).elim) (fun h1 h2 => (hn h1 h2).elim) (fun c hne => a8x hne) (.inr (.inr (I.lockI i t hi hb hL))) (.inl (a8p hbk.2))
  show (0 : Int) = mapd w.m k - mapd w.m k + _
  rw [hcnt k]; omega
theorem b0k {m' : Mm} {l : List Int} {d : Int->Int} (I : WInv w) (hi : w.ts[i]? = some t) (hb : t.busy = true) (hL : hasL t.f) (E : Eff w.m m' (bkN w.m t.f) l d) (hlk : m'.a0b = w.m.a0b)
    (hc : t'.f.c = t.f.c) (hb' : t'.busy = true) (hL' : hasL t'.f) (hfi : FI m' t') (hh : t'.held = t.held) (hsub : ∀ x ∈ allC m',x ∈ allC w.m\/(adds t.f/\x = t.f.slot))
    (hcnt : ∀ k,isSl w.m k = true->d k = mapd m' k - mapd w.m k + (cnt t' k - cnt t k)) (hown : ¬ adds t'.f) : WInv ⟨m',w.ts.set i t'⟩:=by
  have hla : ∀ c,a0k m' c = a0k w.m c:=fun c => by unfold a0k; rw [hlk]
  have e:=I.lockI i t hi hb hL
  exact a9m I hi hb E (.inr hL) hc (fun _ => hfi) (by rw [hh]; exact I.held t (List.mem_of_getElem? hi)) hsub hcnt (fun _ h => (hown h).elim) (fun _ _ => by rw [hla]; exact e) (fun c _ => hla c) (.inl (hla _)) (.inr (.inl ⟨by rw [hla]; exact e,hb',hL'⟩))
theorem b0r {M M' : Mm} {b : Nat} {l : List Int} {d : Int->Int} (hb : b < M.heads.length) (E : Eff M M' b l d) (x : Int) : x ∈ allC M' ↔ x ∈ l\/∃ c,c < M.heads.length/\c ≠ b/\x ∈ chL M c:=by
  rw [a2u]
  constructor
  · rintro ⟨c,hc,hx⟩
    rw [E.nh] at hc
    by_cases e : c = b
    · subst e; rw [E.at_] at hx; exact .inl hx
    · rw [E.else_ c hc e] at hx; exact .inr ⟨c,hc,e,hx⟩
  · rintro (h | ⟨c,hc,e,hx⟩)
    · exact ⟨b,by rw [E.nh]; exact hb,by rw [E.at_]; exact h⟩
    · exact ⟨c,by rw [E.nh]; exact hc,by rw [E.else_ c hc e]; exact hx⟩
theorem a7q {M : Mm} {b : Nat} (hb : b < M.heads.length) (x : Int) : x ∈ allC M ↔ x ∈ chL M b\/∃ c,c < M.heads.length/\c ≠ b/\x ∈ chL M c:=by
  rw [a2u]
  constructor
  · rintro ⟨c,hc,hx⟩
    by_cases e : c = b
    · subst e; exact .inl hx
    · exact .inr ⟨c,hc,e,hx⟩
  · rintro (h | ⟨c,hc,e,hx⟩)
    · exact ⟨b,hb,h⟩
    · exact ⟨c,hc,hx⟩
def a0y (g : Fr) (t : Tk) : Tk:=⟨!g.done,g,t.held⟩
theorem a3b {m : Mm} {f : Fr} {l1 l2 : List Int} (hM : OkC m) (hb : bkN m f < m.heads.length) (R : Rest m f l1 l2) : (isAt m f = true ↔ ∃ a l,l2 = a :: l)/\∀ a l,l2 = a :: l->f.cur - 1 = a:=by
  refine ⟨⟨fun h => ?_,fun ⟨a,l,e⟩ => ?_⟩,fun a l e => ?_⟩
  · cases l2 with
    | nil =>
      have h2 : f.cur = -1 - ((bkN m f : Nat) : Int):=R.2
      rw [a1l] at h
      omega
    | cons a l => exact ⟨a,l,rfl⟩
  · subst e
    have h2 : f.cur = a + 1:=R.2
    have:=hM.slots hb a (by rw [R.1]; simp)
    rw [a1l]
    omega
  · subst e
    have h2 : f.cur = a + 1:=R.2
    omega
theorem c1f {m : Mm} {f : Fr} (hM : OkC m) (hk : ¬ (f.c.kind = 4\/f.c.kind = 5)) (hkey : keyB f.c.a f.c.b = true) (h : NoK m f (chL m (bkN m f))) : hasK m (allC m) (Key f) = false:=by
  cases e : hasK m (allC m) (Key f)
  · rfl
  · exfalso
    rw [a5l,List.mem_map] at e
    obtain ⟨a,hm,he⟩:=e
    obtain ⟨b',hb',ha⟩:=a2u.1 hm
    have hbu:=(hM.held b' hb' a ha).2.2
    have hk1 : (a0d m a).a = f.c.a/\(a0d m a).b = f.c.b:=by unfold a0t Key at he; simpa using he
    rw [hk1.1,hk1.2] at hbu
    have hbk:=bk_of hM.ok hk hkey
    have : bkN m f = b':=by unfold bkN; rw [hbk,hbu]; simp
    rw [this] at h
    exact h a ha he
theorem c0x {m : Mm} {f : Fr} {a : Int} : lkK (a0d m a) f = true ↔ a0t m a = Key f:=by
  unfold lkK a0t Key
  simp
set_option maxHeartbeats 1600000 in
theorem add_step (I : WInv w) (hi : w.ts[i]? = some t) (hb : t.busy = true) (hk : t.f.c.kind = 2) : WInv ⟨adM i w.m t.f,w.ts.set i (a0y (adF w.m t.f) t)⟩:=by
  have htm:=List.mem_of_getElem? hi
  have F:=I.fi t htm hb
  have hbk:=I.bk hi hb
  obtain ⟨a1,a2,a3,a4,a5,a6,a7⟩:=F.add hk
  obtain ⟨k1,k2,k3⟩:=b2j hk F.fit.call
  have hfd:=F.fit.done
  have hpl:=F.fit.pl
  have hh:=I.held t htm
  have hR : Eff w.m w.m (bkN w.m t.f) (chL w.m (bkN w.m t.f)) (fun _ => 0):=Eff.refl I.okc _
  have hfit : ∀ g,adF w.m t.f = g->g.done = false->Fit (adM i w.m t.f) g:=fun g e hd => by
    have:=adF_fit (i : Int) I.okc.ok F.fit (by rw [e]; exact hd)
    rwa [e] at this
  have hmk : ∀ (m' : Mm) (g : Fr),adM i w.m t.f = m'->adF w.m t.f = g->g.done = false->g.c = t.f.c->StAdd m' g->FI m' (a0y g t):=fun m' g em e hd hc hst => by
    have hkk : g.c.kind = 2:=by rw [hc]; exact hk
    refine ⟨by rw [<- em]; exact hfit g e hd,by show 1<=g.c.kind/\g.c.kind<=6; omega,fun h => ?_,fun _ => hst,fun h => ?_,fun h => ?_,fun h => ?_⟩
    · have h' : g.c.kind = 1:=h; omega
    · have h' : g.c.kind = 3:=h; omega
    · have h' : g.c.kind = 4\/g.c.kind = 5:=h; omega
    · have h' : g.c.kind = 6:=h; omega
  have hbusy : ∀ g : Fr,g.done = false->(a0y g t).busy = true:=fun g h => by unfold a0y; rw [h]; rfl
  have hsame : ∀ g : Fr,g.done = false->a1r g = a1r t.f->g.slot = t.f.slot->∀ k,cnt (a0y g t) k = cnt t k:=fun g hd h1 h2 k => by
    unfold cnt hand a0y
    dsimp only
    rw [hd,hb,h1,h2]
    rfl
  have hp : t.f.pl = 0\/t.f.pl = 1\/t.f.pl = 2\/t.f.pl = 3\/t.f.pl = 4\/t.f.pl = 5\/t.f.pl = 6\/t.f.pl = 7:=by omega
  rcases hp with p | p | p | p | p | p | p | p
  · have e:=adF0 (M:=w.m) p
    have em:=adM0 (M:=w.m) (t:=(i : Int)) p
    have hs:=a2 p
    unfold a5s at e
    unfold a4b at em
    by_cases hF : w.m.free.length = 0
    · rw [if_pos hF] at e em
      rw [e,em]
      refine a2h I hi hb hR rfl rfl (fun h => by cases h) hh (fun k _ => ?_) (fun h => by cases h) ⟨fun h => ?_,fun h => by cases h.1⟩
      · rw [a1g (t:=a0y (endF t.f 7) t) (.inl rfl),a1g (t:=t) (.inr (a3w hs))]
        show (0 : Int) = (t.held.count k : Int) - (t.held.count k : Int); omega
      · unfold hasL at h; omega
    · rw [if_neg hF] at e em
      obtain ⟨hE,hoff,hsl,hr0,hky,hun⟩:=b6u I.okc (bkN w.m t.f) k1 (c2u I.okc.ok k2) (by omega : 0 < w.m.free.length)
      have h0:=(a1a.1 hsl).1
      have hA : allC (a5d w.m t.f.c.a t.f.c.b (untA w.m t.f)) = allC w.m:=by
        unfold allC a1e
        rw [hE.nh]
        refine a3l fun c hc => ?_
        have:=List.mem_range.1 hc
        by_cases e : c = bkN w.m t.f
        · rw [e]; exact hE.at_
        · exact hE.else_ c this e
      have hg : adds (a1m t.f (a2v w.m) 1):=⟨hk,by simp [a1m],by simp [a1m]⟩
      have hih : a1r (a1m t.f (a2v w.m) 1) = true:=a1o hg h0
      rw [e,em]
      refine a2h I hi hb hE rfl rfl (fun _ => ?_) hh (fun k _ => ?_) (fun _ _ => .inr hr0) ⟨fun h => ?_,fun h => ?_⟩
      · refine hmk _ _ em e hfd rfl ⟨by simp [a1m],(fun h => by simp [a1m] at h),(fun _ _ => ⟨?_,?_,hky⟩),(fun h => by simp [a1m] at h),(fun h => by simp [a1m] at h),(fun h => by simp [a1m] at h),(fun h => by simp [a1m] at h)⟩
        · show isSl _ (a2v w.m) = true
          unfold isSl
          rw [hE.ns]
          exact hsl
        · show a2v w.m ∉ _
          rw [hA]; exact hoff
      · rw [a3s (t:=a0y (a1m t.f (a2v w.m) 1) t) (hbusy _ hfd) hih,a1g (t:=t) (.inr (a3w hs))]
        show (if k = a2v w.m then (1 : Int) else 0) = (t.held.count k : Int) + (if k = a2v w.m then 1 else 0) - (t.held.count k : Int)
        omega
      · unfold hasL at h; omega
      · have h2 : hasL (a1m t.f (a2v w.m) 1):=h.2
        unfold hasL a1m at h2
        dsimp only at h2
        omega
  · obtain ⟨x1,x2,x3⟩:=a3 (by omega) (by omega)
    have e:=adF1 (M:=w.m) p
    have em:=adM1 (M:=w.m) (t:=(i : Int)) p
    unfold a7b at e
    unfold a1x at em
    by_cases hF : a0k w.m (bkN w.m t.f) = -1
    · rw [if_pos hF] at e em
      rw [e,em]
      have h0:=(a1a.1 x1).1
      have hg : adds (toF t.f 2):=⟨hk,by simp [toF],by simp [toF]⟩
      have ha : adds t.f:=⟨hk,by omega,by omega⟩
      refine b2v I hi hb hF rfl (hbusy _ hfd) (.inl ⟨hk,by simp [a0y,toF]⟩) ?_ rfl (hsame _ hfd (by rw [a1o hg h0,a1o ha h0]) rfl) (fun _ => ⟨ha,rfl⟩)
      exact hmk _ _ em e hfd rfl ⟨by simp [toF],(fun h => by simp [toF] at h),(fun _ _ => ⟨x1,x2,x3⟩),(fun h => by simp [toF] at h),(fun h => by simp [toF] at h),(fun h => by simp [toF] at h),(fun h => by simp [toF] at h)⟩
    · rw [if_neg hF] at e em
      rw [e,em]
      have ht : a0y t.f t = t:=by
        unfold a0y
        rw [hfd]
        obtain ⟨bb,ff,hl⟩:=t
        have : bb = true:=hb
        subst this
        rfl
      rw [ht]
      have : w.ts.set i t = w.ts:=by
        apply List.ext_getElem?
        intro j
        rw [List.getElem?_set]
        split
        · rename_i e; subst e
          split
          · exact hi.symm
          · rename_i h; rw [List.getElem?_eq_none (by omega)] at hi; cases hi
        · rfl
      rw [this]
      exact I
  · obtain ⟨x1,x2,x3⟩:=a3 (by omega) (by omega)
    have h0:=(a1a.1 x1).1
    have e:=adF2 (M:=w.m) p
    have em : adM (i : Int) w.m t.f = w.m:=a5h (by omega)
    rw [e,em]
    have hg : adds (curF t.f (a0v w.m (bkN w.m t.f)) 3):=⟨hk,by simp [curF],by simp [curF]⟩
    have ha : adds t.f:=⟨hk,by omega,by omega⟩
    refine a2h I hi hb hR rfl rfl (fun _ => ?_) hh (fun k _ => ?_) (fun _ _ => .inl ⟨ha,rfl⟩) ⟨fun _ => ⟨hbusy _ hfd,.inl ⟨hk,by simp [a0y,curF]⟩⟩,fun _ => .inl ⟨hk,by omega⟩⟩
    · refine hmk _ _ em e hfd rfl ⟨by simp [curF],(fun h => by simp [curF] at h),(fun _ _ => ⟨x1,x2,x3⟩),(fun _ => ⟨[],chL w.m (bkN w.m t.f),⟨rfl,I.okc.b2u hbk.1⟩,fun a h => by cases h⟩),(fun h => by simp [curF] at h),(fun h => by simp [curF] at h),(fun h => by simp [curF] at h)⟩
    · rw [hsame (curF t.f (a0v w.m (bkN w.m t.f)) 3) hfd (by rw [a1o hg h0,a1o ha h0]) rfl]; omega
  · obtain ⟨x1,x2,x3⟩:=a3 (by omega) (by omega)
    have h0:=(a1a.1 x1).1
    obtain ⟨l1,l2,R,N⟩:=a4 p
    obtain ⟨hat,hcur⟩:=a3b I.okc hbk.1 R
    have ha : adds t.f:=⟨hk,by omega,by omega⟩
    have em : adM (i : Int) w.m t.f = w.m:=a5h (by omega)
    have e:=adF3 (M:=w.m) p
    unfold a9v at e
    have done : ∀ n : Int,adF w.m t.f = toF t.f n->4<=n->n<=6->(n = 4->∃ l1 a l2,Rest w.m (toF t.f n) l1 (a :: l2)/\NoK w.m (toF t.f n) (l1 ++ [a]))->(n = 5->NoK w.m (toF t.f n) (chL w.m (bkN w.m (toF t.f n))))->WInv ⟨adM (i : Int) w.m t.f,w.ts.set i (a0y (adF w.m t.f) t)⟩:=fun n e' h4 h6 q4 q5 => by
      rw [e',em]
      have hg : adds (toF t.f n):=⟨hk,by show 1<=n; omega,h6⟩
      refine a2h I hi hb hR rfl rfl (fun _ => ?_) hh (fun k _ => ?_) (fun _ _ => .inl ⟨ha,rfl⟩) ⟨fun _ => ⟨hbusy _ hfd,.inl ⟨hk,by show 2<=n; omega⟩⟩,fun _ => .inl ⟨hk,by omega⟩⟩
      · refine hmk _ _ em e' hfd rfl ⟨by show n<=7; omega,(fun h => by have h' : n = 0:=h; omega),(fun _ _ => ⟨x1,x2,x3⟩),(fun h => by have h' : n = 3:=h; omega),q4,q5,(fun h => by have h' : n = 7:=h; omega)⟩
      · rw [hsame (toF t.f n) hfd (by rw [a1o hg h0,a1o ha h0]) rfl]; omega
    cases l2 with
    | nil =>
      have hna : isAt w.m t.f = false:=by
        cases h : isAt w.m t.f
        · rfl
        · obtain ⟨a,l,e⟩:=hat.1 h; cases e
      rw [hna] at e
      refine done 5 e (by omega) (by omega) (fun h => by omega) (fun _ a hm => ?_)
      have hm' : a ∈ chL w.m (bkN w.m t.f):=hm
      rw [R.1,List.append_nil] at hm'
      exact N a hm'
    | cons a l2 =>
      have hya : isAt w.m t.f = true:=hat.2 ⟨a,l2,rfl⟩
      rw [if_pos hya,hcur a l2 rfl] at e
      by_cases hkk : lkK (a0d w.m a) t.f = true
      · rw [if_pos hkk] at e
        exact done 6 e (by omega) (by omega) (fun h => by omega) (fun h => by omega)
      · rw [if_neg hkk] at e
        refine done 4 e (by omega) (by omega) (fun _ => ⟨l1,a,l2,R,fun x hx => ?_⟩) (fun h => by omega)
        rcases List.mem_append.1 hx with h | h
        · exact N x h
        · have : x = a:=by simpa using h
          rw [this]
          exact fun h => hkk (c0x.2 h)
  · obtain ⟨x1,x2,x3⟩:=a3 (by omega) (by omega)
    have h0:=(a1a.1 x1).1
    obtain ⟨l1,a,l2,R,N⟩:=a5 p
    obtain ⟨hat,hcur⟩:=a3b I.okc hbk.1 R
    have ha : adds t.f:=⟨hk,by omega,by omega⟩
    have em : adM (i : Int) w.m t.f = w.m:=a5h (by omega)
    have e:=adF4 (M:=w.m) p
    unfold a6a at e
    rw [if_pos (hat.2 ⟨a,l2,rfl⟩),hcur a l2 rfl] at e
    rw [e,em]
    have hg : adds (curF t.f (a0d w.m a).next 3):=⟨hk,by simp [curF],by simp [curF]⟩
    refine a2h I hi hb hR rfl rfl (fun _ => ?_) hh (fun k _ => ?_) (fun _ _ => .inl ⟨ha,rfl⟩) ⟨fun _ => ⟨hbusy _ hfd,.inl ⟨hk,by simp [a0y,curF]⟩⟩,fun _ => .inl ⟨hk,by omega⟩⟩
    · refine hmk _ _ em e hfd rfl ⟨by simp [curF],(fun h => by simp [curF] at h),(fun _ _ => ⟨x1,x2,x3⟩),(fun _ => ⟨l1 ++ [a],l2,⟨?_,I.okc.a9r hbk.1 R.1⟩,N⟩),(fun h => by simp [curF] at h),(fun h => by simp [curF] at h),(fun h => by simp [curF] at h)⟩
      have:=R.1
      show chL w.m (bkN w.m t.f) = _
      rw [this]; simp
    · rw [hsame (curF t.f (a0d w.m a).next 3) hfd (by rw [a1o hg h0,a1o ha h0]) rfl]; omega
  · obtain ⟨x1,x2,x3⟩:=a3 (by omega) (by omega)
    have h0:=(a1a.1 x1).1
    have N:=a6 p
    have ha : adds t.f:=⟨hk,by omega,by omega⟩
    have hnk:=c1f I.okc (by omega) k1 N
    have hr:=(I.a8f htm hb ha).2.1
    have hob : ownB w.m t.f.slot = bkN w.m t.f:=by
      unfold a0t Key at x3
      simp only [Prod.mk.injEq] at x3
      unfold ownB bkN
      rw [x3.1,x3.2,bk_of I.okc.ok (by omega) k1]
    have hE:=b6k I.okc x1 hr (by rw [x3]; exact hnk) hob
    have e:=adF5 (M:=w.m) p
    have em:=adM5 (M:=w.m) (t:=(i : Int)) p
    unfold a5z at e
    unfold a4w at em
    rw [if_pos x1] at e em
    rw [e,em]
    have hmem : ∀ x,x ∈ allC (a6f w.m t.f.slot (bkN w.m t.f)) ↔ x = t.f.slot\/x ∈ allC w.m:=fun x => by
      rw [b0r hbk.1 hE,a7q hbk.1,List.mem_cons,or_assoc]
    have hih : a1r t.f = true:=a1o ha h0
    have hig : a1r { t.f with e:=0,pl:=7 } = false:=by
      unfold a1r
      have : (t.f.c.kind == 2) = true:=by simpa using hk
      dsimp only
      rw [this]; simp
    refine b0k I hi hb (.inl ⟨hk,by omega⟩) hE rfl rfl (hbusy _ hfd) (.inl ⟨hk,by simp [a0y]⟩) ?_ rfl (fun x hx => ?_) (fun k _ => ?_) (fun h => by have:=h.2.2; simp [a0y] at this)
    · exact hmk _ _ em e hfd rfl ⟨by simp,(fun h => by simp at h),(fun _ h => by simp at h),(fun h => by simp at h),(fun h => by simp at h),(fun h => by simp at h),(fun _ => .inl ⟨rfl,h0⟩)⟩
    · rcases (hmem x).1 hx with h | h
      · exact .inr ⟨ha,h⟩
      · exact .inl h
    · rw [a3s hb hih,a1g (t:=a0y { t.f with e:=0,pl:=7 } t) (.inr hig)]
      show (0 : Int) = mapd (a6f w.m t.f.slot (bkN w.m t.f)) k - mapd w.m k + ((t.held.count k : Int) - ((t.held.count k : Int) + if k = t.f.slot then 1 else 0))
      unfold mapd
      by_cases ek : k = t.f.slot
      · rw [if_pos ((hmem k).2 (.inl ek)),if_pos ek,if_neg (by rw [ek]; exact x2)]; omega
      · by_cases em' : k ∈ allC w.m
        · rw [if_pos ((hmem k).2 (.inr em')),if_neg ek,if_pos em']; omega
        · rw [if_neg (fun h => ((hmem k).1 h).elim ek em'),if_neg ek,if_neg em']; omega
  · obtain ⟨x1,x2,x3⟩:=a3 (by omega) (by omega)
    have h0:=(a1a.1 x1).1
    have ha : adds t.f:=⟨hk,by omega,by omega⟩
    have hih : a1r t.f = true:=a1o ha h0
    have hin:=I.a1r htm hb hih x1
    have hmp:=(a6g w.m t.f.slot)
    have hE:=a6z I.okc (bkN w.m t.f) x1 (by omega) (fun hm => by have:=a5o hm; omega)
    have e:=adF6 (M:=w.m) p
    have em:=adM6 (M:=w.m) (t:=(i : Int)) p
    unfold a9u at e
    unfold a8t at em
    rw [if_pos x1] at e em
    rw [e,em]
    refine a2h I hi hb hE (by unfold putN; split <;> rfl) rfl (fun _ => ?_) hh (fun k _ => ?_) (fun _ h => by have:=h.2.2; simp [a0y] at this) ⟨fun _ => ⟨hbusy _ hfd,.inl ⟨hk,by simp [a0y]⟩⟩,fun _ => .inl ⟨hk,by omega⟩⟩
    · exact hmk _ _ em e hfd rfl ⟨by simp,(fun h => by simp at h),(fun _ h => by simp at h),(fun h => by simp at h),(fun h => by simp at h),(fun h => by simp at h),(fun _ => .inr ⟨rfl,rfl⟩)⟩
    · rw [a3s hb hih,a1g (t:=a0y { t.f with slot:=-1,e:=6,pl:=7 } t) (.inr rfl)]
      show (if k = t.f.slot then (-1 : Int) else 0) = (t.held.count k : Int) - ((t.held.count k : Int) + if k = t.f.slot then 1 else 0)
      split <;> omega
  · have hL : hasL t.f:=.inl ⟨hk,by omega⟩
    have e:=adF7 (M:=w.m) p
    have em:=adM7 (M:=w.m) (t:=(i : Int)) p
    unfold a1y at em
    rw [if_pos (I.lockI i t hi hb hL)] at em
    rw [e,em]
    refine b2w I hi hb hL rfl (fun h => by cases h) (fun h => by cases h) rfl (fun k => ?_) (fun h => by cases h)
    rw [a1g (t:=a0y (endF t.f t.f.e) t) (.inl rfl),a1g (t:=t) (.inr (by
      unfold a1r
      have h1 : (t.f.c.kind == 2) = true:=by simpa using hk
      have h2 : (t.f.pl == 7) = true:=by simpa using p
      rw [h1,h2]; simp))]
    rfl
end
end
section
section
variable {w : Wd} {i : Nat} {t : Tk}
theorem b6s {ts : List Tk} (hi : ts[i]? = some t) : ts.set i t = ts:=by
  apply List.ext_getElem?
  intro j
  rw [List.getElem?_set]
  split
  · rename_i e; subst e
    split
    · exact hi.symm
    · rename_i h; rw [List.getElem?_eq_none (by omega)] at hi; cases hi
  · rfl
theorem b4o (hb : t.busy = true) (hd : t.f.done = false) : a0y t.f t = t:=by
  unfold a0y
  rw [hd]
  obtain ⟨bb,ff,hl⟩:=t
  have : bb = true:=hb
  subst this
  rfl
theorem b4w {M M' : Mm} (h : OkC M) {b : Nat} (hb : b < M.heads.length) {l1 l2 : List Int} {a : Int} {d : Int->Int} (e : chL M b = l1 ++ a :: l2) (E : Eff M M' b (l1 ++ l2) d) (x : Int) : x ∈ allC M' ↔ x ∈ allC M/\x ≠ a:=by
  have hnd:=h.nodup hb
  rw [e,List.nodup_append,List.nodup_cons] at hnd
  have na1 : ¬ a ∈ l1:=fun h => hnd.2.2 a h a (by simp) rfl
  have hnn:=a2p h.keys
  rw [b0r hb E,a7q hb,e]
  constructor
  · rintro (hx | ⟨c,hc,hne,hx⟩)
    · refine ⟨.inl ?_,?_⟩
      · rcases List.mem_append.1 hx with h | h
        · simp [h]
        · simp [h]
      · rintro rfl
        rcases List.mem_append.1 hx with h | h
        · exact na1 h
        · exact hnd.2.1.1 h
    · refine ⟨.inr ⟨c,hc,hne,hx⟩,?_⟩
      rintro rfl
      have h1:=(h.held c hc x hx).2.2
      have h2:=(h.held b hb x (by rw [e]; simp)).2.2
      omega
  · rintro ⟨hx | hx,hne⟩
    · left
      simp only [List.mem_append,List.mem_cons] at hx ⊢
      rcases hx with h | h | h
      · exact .inl h
      · exact (hne h).elim
      · exact .inr h
    · exact .inr hx
set_option maxHeartbeats 1600000 in
theorem b9o (I : WInv w) (hi : w.ts[i]? = some t) (hb : t.busy = true) (hk : t.f.c.kind = 3) : WInv ⟨drM i w.m t.f,w.ts.set i (a0y (drF w.m t.f) t)⟩:=by
  have htm:=List.mem_of_getElem? hi
  have F:=I.fi t htm hb
  have hbk:=I.bk hi hb
  obtain ⟨a1,a2,a3,a4,a5,a6⟩:=F.drop hk
  have hfd:=F.fit.done
  have hpl:=F.fit.pl
  have hh:=I.held t htm
  have hR : Eff w.m w.m (bkN w.m t.f) (chL w.m (bkN w.m t.f)) (fun _ => 0):=Eff.refl I.okc _
  have hmk : ∀ (m' : Mm) (g : Fr),drM i w.m t.f = m'->drF w.m t.f = g->g.done = false->g.c = t.f.c->b8w m' g->FI m' (a0y g t):=fun m' g em e hd hc hst => by
    have hkk : g.c.kind = 3:=by rw [hc]; exact hk
    have hf:=drF_fit (i : Int) I.okc.ok F.fit (by rw [e]; exact hd)
    rw [e,em] at hf
    refine ⟨hf,by show 1<=g.c.kind/\g.c.kind<=6; omega,fun h => ?_,fun h => ?_,fun _ => hst,fun h => ?_,fun h => ?_⟩
    · have h' : g.c.kind = 1:=h; omega
    · have h' : g.c.kind = 2:=h; omega
    · have h' : g.c.kind = 4\/g.c.kind = 5:=h; omega
    · have h' : g.c.kind = 6:=h; omega
  have hbusy : ∀ g : Fr,g.done = false->(a0y g t).busy = true:=fun g h => by unfold a0y; rw [h]; rfl
  have hna : ∀ g : Fr,g.c = t.f.c->¬ adds g:=fun g hc h => by have:=h.1; rw [hc] at this; omega
  have hsame : ∀ g : Fr,g.done = false->g.c = t.f.c->g.slot = t.f.slot->∀ k,cnt (a0y g t) k = cnt t k:=fun g hd h1 h2 k => by
    unfold cnt hand a0y
    dsimp only
    rw [hd,hb,a1t (f:=g) (by rw [h1]; omega),a1t (f:=t.f) (by omega),h2]
    rfl
  have go : ∀ g : Fr,drF w.m t.f = g->drM i w.m t.f = w.m->g.done = false->g.c = t.f.c->g.slot = t.f.slot->b8w w.m g->(hasL t.f ↔ hasL g)->WInv ⟨drM i w.m t.f,w.ts.set i (a0y (drF w.m t.f) t)⟩:=fun g e em hd hc hs hst hL => by
    rw [e,em]
    refine a2h I hi hb hR rfl hc (fun _ => hmk _ _ em e hd hc hst) hh (fun k _ => by rw [hsame g hd hc hs]; omega) (fun _ h => (hna g hc h).elim) ⟨fun h => ⟨hbusy _ hd,hL.1 h⟩,fun h => hL.2 h.2⟩
  have hp : t.f.pl = 0\/t.f.pl = 1\/t.f.pl = 2\/t.f.pl = 3\/t.f.pl = 4\/t.f.pl = 5\/t.f.pl = 6:=by omega
  have hLd : ∀ n : Int,1<=n->n<=5->∀ g : Fr,g.c = t.f.c->g.pl = n->hasL g:=fun n h1 h2 g hc hn => .inr (.inl ⟨by rw [hc]; exact hk,by omega,by omega⟩)
  rcases hp with p | p | p | p | p | p | p
  · have hs:=a2 (by omega)
    have e:=drF0 (M:=w.m) p
    have em:=drM0 (M:=w.m) (t:=(i : Int)) p
    unfold a3a at e
    unfold a1x at em
    by_cases hF : a0k w.m (bkN w.m t.f) = -1
    · rw [if_pos hF] at e em
      rw [e,em]
      refine b2v I hi hb hF rfl (hbusy _ hfd) (hLd 1 (by omega) (by omega) _ rfl rfl) ?_ rfl (hsame (toF t.f 1) hfd rfl rfl) (fun h => (hna (toF t.f 1) rfl h).elim)
      exact hmk _ _ em e hfd rfl ⟨by simp [toF],(fun _ => hs),(fun h => by simp [toF] at h),(fun h => by simp [toF] at h),(fun h => by simp [toF] at h),(fun h => by simp [toF] at h)⟩
    · rw [if_neg hF] at e em
      rw [e,em,b4o hb hfd,b6s hi]
      exact I
  · have hs:=a2 (by omega)
    refine go _ (drF1 p) (a3t (by omega)) hfd rfl rfl ⟨by simp [a2i],(fun _ => hs),(fun _ => ⟨[],chL w.m (bkN w.m t.f),⟨rfl,I.okc.b2u hbk.1⟩,(fun a h => by cases h),rfl⟩),(fun h => by simp [a2i] at h),(fun h => by simp [a2i] at h),(fun h => by simp [a2i] at h)⟩ ⟨fun _ => hLd 2 (by omega) (by omega) _ rfl rfl,fun _ => hLd 1 (by omega) (by omega) _ rfl p⟩
  · have hs:=a2 (by omega)
    obtain ⟨l1,l2,R,N,q⟩:=a3 p
    obtain ⟨hat,hcur⟩:=a3b I.okc hbk.1 R
    have e:=drF2 (M:=w.m) p
    unfold b0c at e
    have hLt : hasL t.f:=hLd 2 (by omega) (by omega) _ rfl p
    cases l2 with
    | nil =>
      have hno : isAt w.m t.f = false:=by
        cases h : isAt w.m t.f
        · rfl
        · obtain ⟨a,l,e⟩:=hat.1 h; cases e
      rw [hno] at e
      exact go _ e (a3t (by omega)) hfd rfl rfl ⟨by simp [errF],(fun h => by simp [errF] at h),(fun h => by simp [errF] at h),(fun h => by simp [errF] at h),(fun h => by simp [errF] at h),(fun _ => .inl ⟨rfl,hs⟩)⟩ ⟨fun _ => hLd 5 (by omega) (by omega) _ rfl rfl,fun _ => hLt⟩
    | cons a l2 =>
      rw [if_pos (hat.2 ⟨a,l2,rfl⟩),hcur a l2 rfl] at e
      by_cases hkk : lkK (a0d w.m a) t.f = true
      · rw [if_pos hkk] at e
        exact go _ e (a3t (by omega)) hfd rfl rfl ⟨by simp [toF],(fun _ => hs),(fun h => by simp [toF] at h),(fun h => by simp [toF] at h),(fun _ => ⟨l1,a,l2,R,c0x.1 hkk,q⟩),(fun h => by simp [toF] at h)⟩ ⟨fun _ => hLd 4 (by omega) (by omega) _ rfl rfl,fun _ => hLt⟩
      · rw [if_neg hkk] at e
        refine go _ e (a3t (by omega)) hfd rfl rfl ⟨by simp [toF],(fun _ => hs),(fun h => by simp [toF] at h),(fun _ => ⟨l1,a,l2,R,fun x hx => ?_,q⟩),(fun h => by simp [toF] at h),(fun h => by simp [toF] at h)⟩ ⟨fun _ => hLd 3 (by omega) (by omega) _ rfl rfl,fun _ => hLt⟩
        rcases List.mem_append.1 hx with h | h
        · exact N x h
        · have : x = a:=by simpa using h
          rw [this]
          exact fun h => hkk (c0x.2 h)
  · have hs:=a2 (by omega)
    obtain ⟨l1,a,l2,R,N,q⟩:=a4 p
    obtain ⟨hat,hcur⟩:=a3b I.okc hbk.1 R
    have e:=drF3 (M:=w.m) p
    unfold a6c at e
    rw [if_pos (hat.2 ⟨a,l2,rfl⟩),hcur a l2 rfl] at e
    have hca:=hcur a l2 rfl
    refine go _ e (a3t (by omega)) hfd rfl rfl ⟨by simp [a2i],(fun _ => hs),(fun _ => ⟨l1 ++ [a],l2,⟨?_,I.okc.a9r hbk.1 R.1⟩,N,?_⟩),(fun h => by simp [a2i] at h),(fun h => by simp [a2i] at h),(fun h => by simp [a2i] at h)⟩ ⟨fun _ => hLd 2 (by omega) (by omega) _ rfl rfl,fun _ => hLd 3 (by omega) (by omega) _ rfl p⟩
    · have:=R.1
      show chL w.m (bkN w.m t.f) = _
      rw [this]; simp
    · rw [b1t]
      show t.f.cur = a + 1
      omega
  · have hs:=a2 (by omega)
    obtain ⟨l1,a,l2,R,hka,q⟩:=a5 p
    obtain ⟨hat,hcur⟩:=a3b I.okc hbk.1 R
    have hca:=hcur a l2 rfl
    have e:=drF4 (M:=w.m) p
    have em:=drM4 (M:=w.m) (t:=(i : Int)) p
    unfold b0b at e
    unfold a3d at em
    rw [if_pos (hat.2 ⟨a,l2,rfl⟩)] at e em
    rw [q,hca] at em
    have hE:=b4v I.okc hbk.1 R.1
    have hmem:=b4w I.okc hbk.1 R.1 hE
    have hach : a ∈ allC w.m:=a2u.2 ⟨_,hbk.1,by rw [R.1]; simp⟩
    have hasl:=I.okc.a4m a hach
    rw [e,em]
    obtain ⟨g,hg⟩ : ∃ g : Fr,g = { t.f with slot:=t.f.cur - 1,e:=0,pl:=5 }:=⟨_,rfl⟩
    rw [<- hg] at e ⊢
    have gc : g.c = t.f.c:=by rw [hg]
    have gs : g.slot = a:=by rw [hg]; exact hca
    have gd : g.done = false:=by rw [hg]; exact hfd
    have gp : g.pl = 5:=by rw [hg]
    refine b0k I hi hb (hLd 4 (by omega) (by omega) _ rfl p) hE (by unfold cutM; split <;> rfl) gc (hbusy _ gd) (hLd 5 (by omega) (by omega) g gc gp) ?_ rfl (fun x hx => .inl ((hmem x).1 hx).1) (fun k _ => ?_) (hna g gc)
    · refine hmk _ _ em e gd gc ⟨by omega,(fun h => by omega),(fun h => by omega),(fun h => by omega),(fun h => by omega),(fun _ => .inr ⟨by rw [hg],?_⟩)⟩
      rw [gs,a1a,hE.ns]; exact hasl
    · rw [a1g (t:=t) (.inr (a3w hs)),a3s (t:=a0y g t) (hbusy _ gd) (by rw [a1t (f:=(a0y g t).f) (by show g.c.kind ≠ 2; rw [gc]; omega)]; show decide (0<=g.slot) = true; rw [gs]; exact decide_eq_true hasl.1)]
      show (0 : Int) = mapd _ k - mapd w.m k + ((t.held.count k : Int) + (if k = g.slot then 1 else 0) - (t.held.count k : Int))
      rw [gs]
      unfold mapd
      by_cases ek : k = a
      · subst ek
        rw [if_neg (fun h => ((hmem k).1 h).2 rfl),if_pos hach,if_pos rfl]; omega
      · by_cases em' : k ∈ allC w.m
        · rw [if_pos ((hmem k).2 ⟨em',ek⟩),if_pos em',if_neg ek]; omega
        · rw [if_neg (fun h => em' ((hmem k).1 h).1),if_neg em',if_neg ek]; omega
  · have hL : hasL t.f:=hLd 5 (by omega) (by omega) _ rfl p
    have e:=drF5 (M:=w.m) p
    have em:=drM5 (M:=w.m) (t:=(i : Int)) p
    unfold a1y at em
    rw [if_pos (I.lockI i t hi hb hL)] at em
    rw [e,em]
    refine b2w I hi hb hL rfl (fun _ h => ?_) (fun _ => ?_) rfl (hsame (toF t.f 6) hfd rfl rfl) (fun _ => hna (toF t.f 6) rfl)
    · have h2 : hasL (toF t.f 6):=h
      unfold hasL toF at h2
      dsimp only at h2
      omega
    · exact hmk _ _ em e hfd rfl ⟨by simp [toF],(fun h => by simp [toF] at h),(fun h => by simp [toF] at h),(fun h => by simp [toF] at h),(fun h => by simp [toF] at h),(fun _ => a6 (by omega))⟩
  · have hnL : ¬ hasL t.f:=by unfold hasL; omega
    have e:=drF6 (M:=w.m) p
    have em:=drM6 (M:=w.m) (t:=(i : Int)) p
    unfold a3p at em
    rcases a6 (by omega) with ⟨_,hs⟩ | ⟨_,hs⟩
    · rw [if_neg (by rw [hs,a1a]; omega)] at em
      rw [e,em]
      refine a2h I hi hb hR rfl rfl (fun h => by cases h) hh (fun k _ => ?_) (fun h => by cases h) ⟨fun h => (hnL h).elim,fun h => by cases h.1⟩
      rw [a1g (t:=t) (.inr (a3w hs)),a1g (t:=a0y (endF { t.f with slot:=-1 } t.f.e) t) (.inl rfl)]
      show (0 : Int) = (t.held.count k : Int) - (t.held.count k : Int)
      omega
    · rw [if_pos hs] at em
      rw [e,em]
      have h0:=(a1a.1 hs).1
      have hih : a1r t.f = true:=by rw [a1t (by omega)]; exact decide_eq_true h0
      have hin:=I.a1r htm hb hih hs
      have hmp:=(a6g w.m t.f.slot)
      have hE:=a6z I.okc (bkN w.m t.f) hs (by omega) (fun hm => by have:=a5o hm; omega)
      refine a2h I hi hb hE (by unfold putN; split <;> rfl) rfl (fun h => by cases h) hh (fun k _ => ?_) (fun h => by cases h) ⟨fun h => (hnL h).elim,fun h => by cases h.1⟩
      rw [a3s hb hih,a1g (t:=a0y (endF { t.f with slot:=-1 } t.f.e) t) (.inl rfl)]
      show (if k = t.f.slot then (-1 : Int) else 0) = (t.held.count k : Int) - ((t.held.count k : Int) + if k = t.f.slot then 1 else 0)
      split <;> omega
end
end
section
section
variable {w : Wd} {i : Nat} {t : Tk}
set_option maxHeartbeats 1600000 in
theorem b8o (I : WInv w) (hi : w.ts[i]? = some t) (hb : t.busy = true) (hk : t.f.c.kind = 4\/t.f.c.kind = 5) : WInv ⟨swM i w.m t.f,w.ts.set i (a0y (swF w.m t.f) t)⟩:=by
  have htm:=List.mem_of_getElem? hi
  have F:=I.fi t htm hb
  have hbk:=I.bk hi hb
  have hk2 : t.f.c.kind ≠ 2:=by omega
  obtain ⟨a1,a2,a3,a4,a5,a6⟩:=F.sweep hk
  have hfd:=F.fit.done
  have hpl:=F.fit.pl
  have hh:=I.held t htm
  have hR : Eff w.m w.m (bkN w.m t.f) (chL w.m (bkN w.m t.f)) (fun _ => 0):=Eff.refl I.okc _
  have hmk : ∀ (m' : Mm) (g : Fr),swM i w.m t.f = m'->swF w.m t.f = g->g.done = false->g.c = t.f.c->b4s m' g->FI m' (a0y g t):=fun m' g em e hd hc hst => by
    have hkk : g.c.kind = 4\/g.c.kind = 5:=by rw [hc]; exact hk
    have hf:=swF_fit (i : Int) I.okc.ok F.fit (by rw [e]; exact hd)
    rw [e,em] at hf
    refine ⟨hf,by show 1<=g.c.kind/\g.c.kind<=6; omega,fun h => ?_,fun h => ?_,fun h => ?_,fun _ => hst,fun h => ?_⟩
    · have h' : g.c.kind = 1:=h; omega
    · have h' : g.c.kind = 2:=h; omega
    · have h' : g.c.kind = 3:=h; omega
    · have h' : g.c.kind = 6:=h; omega
  have hbusy : ∀ g : Fr,g.done = false->(a0y g t).busy = true:=fun g h => by unfold a0y; rw [h]; rfl
  have hna : ∀ g : Fr,g.c = t.f.c->¬ adds g:=fun g hc h => by have:=h.1; rw [hc] at this; exact hk2 this
  have hsame : ∀ g : Fr,g.done = false->g.c = t.f.c->g.slot = t.f.slot->∀ k,cnt (a0y g t) k = cnt t k:=fun g hd h1 h2 k => by
    unfold cnt hand a0y
    dsimp only
    rw [hd,hb,a1t (f:=g) (by rw [h1]; exact hk2),a1t (f:=t.f) hk2,h2]
    rfl
  have hLs : ∀ g : Fr,g.c = t.f.c->1<=g.pl->hasL g:=fun g hc hn => .inr (.inr ⟨by rw [hc]; exact hk,hn⟩)
  have go : ∀ g : Fr,swF w.m t.f = g->swM i w.m t.f = w.m->g.done = false->g.c = t.f.c->g.slot = t.f.slot->b4s w.m g->1<=t.f.pl->1<=g.pl->WInv ⟨swM i w.m t.f,w.ts.set i (a0y (swF w.m t.f) t)⟩:=fun g e em hd hc hs hst h1 h2 => by
    rw [e,em]
    refine a2h I hi hb hR rfl hc (fun _ => hmk _ _ em e hd hc hst) hh (fun k _ => by rw [hsame g hd hc hs]; omega) (fun _ h => (hna g hc h).elim) ⟨fun _ => ⟨hbusy _ hd,hLs g hc h2⟩,fun _ => hLs t.f rfl h1⟩
  have hp : t.f.pl = 0\/t.f.pl = 1\/t.f.pl = 2\/t.f.pl = 3\/t.f.pl = 4\/t.f.pl = 5\/t.f.pl = 6:=by omega
  rcases hp with p | p | p | p | p | p | p
  · have hs:=a2 (by omega)
    have e:=swF0 (M:=w.m) p
    have em:=swM0 (M:=w.m) (t:=(i : Int)) p
    unfold a3a at e
    unfold a1x at em
    by_cases hF : a0k w.m (bkN w.m t.f) = -1
    · rw [if_pos hF] at e em
      rw [e,em]
      refine b2v I hi hb hF rfl (hbusy _ hfd) (hLs (toF t.f 1) rfl (by simp [toF])) ?_ rfl (hsame (toF t.f 1) hfd rfl rfl) (fun h => (hna (toF t.f 1) rfl h).elim)
      exact hmk _ _ em e hfd rfl ⟨by simp [toF],(fun _ => hs),(fun _ => by simp [toF]),(fun h => by simp [toF] at h),(fun h => by simp [toF] at h),(fun h => by simp [toF] at h)⟩
    · rw [if_neg hF] at e em
      rw [e,em,b4o hb hfd,b6s hi]
      exact I
  · have hs:=a2 (by omega)
    exact go _ (swF1 p) (a3n (by omega)) hfd rfl rfl ⟨by simp [a2i],(fun _ => hs),(fun _ => by simp [a2i]),(fun _ => ⟨[],chL w.m (bkN w.m t.f),⟨rfl,I.okc.b2u hbk.1⟩,rfl⟩),(fun h => by simp [a2i] at h),(fun h => by simp [a2i] at h)⟩ (by omega) (by simp [a2i])
  · have hs:=a2 (by omega)
    obtain ⟨l1,l2,R,q⟩:=a4 p
    obtain ⟨hat,hcur⟩:=a3b I.okc hbk.1 R
    have e:=swF2 (M:=w.m) p
    unfold a3j at e
    cases l2 with
    | nil =>
      have hno : isAt w.m t.f = false:=by
        cases h : isAt w.m t.f
        · rfl
        · obtain ⟨a,l,e⟩:=hat.1 h; cases e
      rw [hno] at e
      exact go _ e (a3n (by omega)) hfd rfl rfl ⟨by simp [toF],(fun _ => hs),(fun _ => by simp [toF]),(fun h => by simp [toF] at h),(fun h => by simp [toF] at h),(fun h => by simp [toF] at h)⟩ (by omega) (by simp [toF])
    | cons a l2 =>
      rw [if_pos (hat.2 ⟨a,l2,rfl⟩)] at e
      by_cases h5 : t.f.c.kind = 5
      · rw [if_pos h5] at e
        exact go _ e (a3n (by omega)) hfd rfl rfl ⟨by simp,(fun _ => hs),(fun _ => by simp),(fun h => by simp at h),(fun _ => ⟨l1,a,l2,R,q⟩),(fun h => by simp at h)⟩ (by omega) (by simp)
      · rw [if_neg h5] at e
        by_cases hu : w.m.now < (a0d w.m (t.f.cur - 1)).unt
        · rw [if_pos hu] at e
          exact go _ e (a3n (by omega)) hfd rfl rfl ⟨by simp [toF],(fun _ => hs),(fun h => (h5 h).elim),(fun h => by simp [toF] at h),(fun _ => ⟨l1,a,l2,R,q⟩),(fun h => by simp [toF] at h)⟩ (by omega) (by simp [toF])
        · rw [if_neg hu] at e
          exact go _ e (a3n (by omega)) hfd rfl rfl ⟨by simp [toF],(fun _ => hs),(fun h => (h5 h).elim),(fun h => by simp [toF] at h),(fun _ => ⟨l1,a,l2,R,q⟩),(fun h => by simp [toF] at h)⟩ (by omega) (by simp [toF])
  · have hs:=a2 (by omega)
    obtain ⟨l1,a,l2,R,q⟩:=a5 (.inl p)
    obtain ⟨hat,hcur⟩:=a3b I.okc hbk.1 R
    have hca:=hcur a l2 rfl
    have e:=swF3 (M:=w.m) p
    unfold a4v at e
    rw [if_pos (hat.2 ⟨a,l2,rfl⟩),hca] at e
    refine go _ e (a3n (by omega)) hfd rfl rfl ⟨by simp [a2i],(fun _ => hs),(fun _ => by simp [a2i]),(fun _ => ⟨l1 ++ [a],l2,⟨?_,I.okc.a9r hbk.1 R.1⟩,?_⟩),(fun h => by simp [a2i] at h),(fun h => by simp [a2i] at h)⟩ (by omega) (by simp [a2i])
    · have:=R.1
      show chL w.m (bkN w.m t.f) = _
      rw [this]; simp
    · rw [b1t]
      show t.f.cur = a + 1
      omega
  · have hs:=a2 (by omega)
    have hk4 : t.f.c.kind = 4:=by
      rcases hk with h | h
      · exact h
      · exact absurd p (a3 h).1
    obtain ⟨l1,a,l2,R,q⟩:=a5 (.inr p)
    obtain ⟨hat,hcur⟩:=a3b I.okc hbk.1 R
    have hca:=hcur a l2 rfl
    have e:=swF4 (M:=w.m) p
    have em:=swM4 (M:=w.m) (t:=(i : Int)) p
    unfold a7z at e
    unfold a3d at em
    rw [if_pos (hat.2 ⟨a,l2,rfl⟩)] at e em
    rw [q,hca] at em
    rw [hca] at e
    have hE:=b4v I.okc hbk.1 R.1
    have hmem:=b4w I.okc hbk.1 R.1 hE
    have hach : a ∈ allC w.m:=a2u.2 ⟨_,hbk.1,by rw [R.1]; simp⟩
    have hasl:=I.okc.a4m a hach
    have hnx:=I.okc.a9r hbk.1 R.1
    rw [e,em]
    obtain ⟨g,hg⟩ : ∃ g : Fr,g = { t.f with slot:=a,cur:=(a0d w.m a).next,pl:=5 }:=⟨_,rfl⟩
    rw [<- hg] at e ⊢
    have gc : g.c = t.f.c:=by rw [hg]
    have gs : g.slot = a:=by rw [hg]
    have gd : g.done = false:=by rw [hg]; exact hfd
    have gp : g.pl = 5:=by rw [hg]
    have gb : bkN (cutM w.m (bkN w.m t.f) (a8n l1) a) g = bkN w.m t.f:=by rw [b5t hE.nh,bkN_c gc]
    refine b0k I hi hb (hLs t.f rfl (by omega)) hE (by unfold cutM; split <;> rfl) gc (hbusy _ gd) (hLs g gc (by omega)) ?_ rfl (fun x hx => .inl ((hmem x).1 hx).1) (fun k _ => ?_) (hna g gc)
    · refine hmk _ _ em e gd gc ⟨by omega,(fun h => by omega),(fun h => by rw [gc] at h; omega),(fun h => by omega),(fun h => by omega),(fun _ => ⟨?_,l1,l2,⟨?_,?_⟩,?_⟩)⟩
      · rw [gs,a1a,hE.ns]; exact hasl
      · rw [gb]; exact hE.at_
      · rw [gb,hg]; exact hnx
      · rw [hg]; exact q
    · rw [a1g (t:=t) (.inr (a3w hs)),a3s (t:=a0y g t) (hbusy _ gd) (by rw [a1t (f:=(a0y g t).f) (by show g.c.kind ≠ 2; rw [gc]; omega)]; show decide (0<=g.slot) = true; rw [gs]; exact decide_eq_true hasl.1)]
      show (0 : Int) = mapd _ k - mapd w.m k + ((t.held.count k : Int) + (if k = g.slot then 1 else 0) - (t.held.count k : Int))
      rw [gs]
      unfold mapd
      by_cases ek : k = a
      · subst ek
        rw [if_neg (fun h => ((hmem k).1 h).2 rfl),if_pos hach,if_pos rfl]; omega
      · by_cases em' : k ∈ allC w.m
        · rw [if_pos ((hmem k).2 ⟨em',ek⟩),if_pos em',if_neg ek]; omega
        · rw [if_neg (fun h => em' ((hmem k).1 h).1),if_neg em',if_neg ek]; omega
  · obtain ⟨hs,l1,l2,R,q⟩:=a6 p
    have hk4 : t.f.c.kind = 4:=by
      rcases hk with h | h
      · exact h
      · exact absurd p (a3 h).2
    have h0:=(a1a.1 hs).1
    have hih : a1r t.f = true:=by rw [a1t (by omega)]; exact decide_eq_true h0
    have hin:=I.a1r htm hb hih hs
    have hmp:=(a6g w.m t.f.slot)
    have hE:=a6z I.okc (bkN w.m t.f) hs (by omega) (fun hm => by have:=a5o hm; omega)
    have e:=swF5 (M:=w.m) p
    have em:=swM5 (M:=w.m) (t:=(i : Int)) p
    unfold a5y at e
    unfold a3p at em
    rw [if_pos hs] at e em
    rw [e,em]
    obtain ⟨g,hg⟩ : ∃ g : Fr,g = { t.f with slot:=-1,n:=if t.f.n < 1000000 then t.f.n + 1 else t.f.n,pl:=2 }:=⟨_,rfl⟩
    rw [<- hg] at e ⊢
    have gc : g.c = t.f.c:=by rw [hg]
    have gs : g.slot = -1:=by rw [hg]
    have gd : g.done = false:=by rw [hg]; exact hfd
    have gp : g.pl = 2:=by rw [hg]
    have gb : bkN (putN w.m t.f.slot) g = bkN w.m t.f:=by rw [b5t hE.nh,bkN_c gc]
    refine a2h I hi hb hE (by unfold putN; split <;> rfl) gc (fun _ => ?_) hh (fun k _ => ?_) (fun _ h => (hna g gc h).elim) ⟨fun _ => ⟨hbusy _ gd,hLs g gc (by omega)⟩,fun _ => hLs t.f rfl (by omega)⟩
    · refine hmk _ _ em e gd gc ⟨by omega,(fun _ => gs),(fun h => by rw [gc] at h; omega),(fun _ => ⟨l1,l2,⟨?_,?_⟩,?_⟩),(fun h => by omega),(fun h => by omega)⟩
      · rw [gb,hE.at_]; exact R.1
      · rw [gb,hg]; exact R.2
      · rw [hg]; exact q
    · rw [a3s hb hih,a1g (t:=a0y g t) (.inr (a3w gs))]
      show (if k = t.f.slot then (-1 : Int) else 0) = (t.held.count k : Int) - ((t.held.count k : Int) + if k = t.f.slot then 1 else 0)
      split <;> omega
  · have hs:=a2 (by omega)
    have hL : hasL t.f:=hLs t.f rfl (by omega)
    have e:=swF6 (M:=w.m) p
    have em:=swM6 (M:=w.m) (t:=(i : Int)) p
    unfold a1y at em
    rw [if_pos (I.lockI i t hi hb hL)] at em
    rw [e,em]
    refine b2w I hi hb hL rfl (fun h => by cases h) (fun h => by cases h) rfl (fun k => ?_) (fun h => by cases h)
    rw [a1g (t:=a0y (endF t.f 0) t) (.inl rfl),a1g (t:=t) (.inr (a3w hs))]
    rfl
theorem c2o (I : WInv w) (h : w.m.now < 1000000) : WInv ⟨{ w.m with now:=w.m.now + 1 },w.ts⟩:=by
  have hok : Ok { w.m with now:=w.m.now + 1 }:=by
    have o:=I.okc.ok
    exact ⟨o.ns,o.nh,o.nl,⟨by have:=o.now; show 0<=w.m.now + 1; omega,by show w.m.now + 1<=1000000; omega⟩,o.slot,o.chain,o.free,o.nodup,o.all⟩
  refine ⟨⟨hok,I.okc.ends,I.okc.held,I.okc.keys⟩,I.nt,fun t ht hb => ?_,I.held,I.refs,I.lockI,I.lockO,I.own⟩
  have F:=I.fi t ht hb
  exact ⟨⟨F.fit.call,F.fit.pl,F.fit.n,F.fit.done,F.fit.cur,F.fit.prev,F.fit.slot,F.fit.keys⟩,F.kind,F.look,F.add,F.drop,F.sweep,F.leave⟩
end
end
section
structure Pk where
  task : Int
  step : Bool
  tick : Bool
  c : Cl
def stepT (m : Mm) (i : Nat) (t : Tk) : Mm × Tk :=
  if t.f.c.kind = 1 then (lkM m t.f,a6x m t) else if t.f.c.kind = 2 then (adM i m t.f,a0y (adF m t.f) t) else if t.f.c.kind = 3 then (drM i m t.f,a0y (drF m t.f) t)
  else if t.f.c.kind = 6 then (if t.f.c.slot ∈ t.held then putN m t.f.c.slot else m,b5n t) else (swM i m t.f,a0y (swF m t.f) t)
def idle : Tk:=⟨false,⟨⟨0,0,0,0,0,0⟩,0,0,0,0,0,[],false,0⟩,[]⟩
def tkAt (w : Wd) (x : Pk) : Tk:=w.ts.getD x.task.toNat idle
def b5s (w : Wd) (x : Pk) : Int :=
  if (tkAt w x).busy then 8 else if a2o w.m.slots.length w.m.heads.length x.c ≠ 0 then a2o w.m.slots.length w.m.heads.length x.c
  else if x.c.kind = 1/\(tkAt w x).held.length = 100 then 7 else if x.c.kind = 6/\x.c.slot ∉ (tkAt w x).held then 6 else 0
def doE (w : Wd) (x : Pk) : Int :=
  if x.tick then (if w.m.now = 1000000 then 7 else 0) else if ¬ (0<=x.task/\x.task < w.ts.length) then 5
  else if x.step then (if (tkAt w x).busy then 0 else 8) else b5s w x
def doW (w : Wd) (x : Pk) : Wd :=
  if x.tick then ⟨{ w.m with now:=w.m.now + 1 },w.ts⟩
  else if x.step then ⟨(stepT w.m x.task.toNat (tkAt w x)).1,w.ts.set x.task.toNat (stepT w.m x.task.toNat (tkAt w x)).2⟩
  else ⟨w.m,w.ts.set x.task.toNat ⟨true,newF x.c,(tkAt w x).held⟩⟩
section
variable {w : Wd} {i : Nat} {t : Tk}
theorem any_step (I : WInv w) (hi : w.ts[i]? = some t) (hb : t.busy = true) : WInv ⟨(stepT w.m i t).1,w.ts.set i (stepT w.m i t).2⟩:=by
  have F:=I.fi t (List.mem_of_getElem? hi) hb
  have hk:=F.kind
  unfold stepT
  by_cases h1 : t.f.c.kind = 1
  · rw [if_pos h1]; exact c0y I hi hb h1
  rw [if_neg h1]
  by_cases h2 : t.f.c.kind = 2
  · rw [if_pos h2]; exact add_step I hi hb h2
  rw [if_neg h2]
  by_cases h3 : t.f.c.kind = 3
  · rw [if_pos h3]; exact b9o I hi hb h3
  rw [if_neg h3]
  by_cases h6 : t.f.c.kind = 6
  · rw [if_pos h6,if_pos (F.leave h6).2]; exact b7p I hi hb h6
  rw [if_neg h6]
  exact b8o I hi hb (by omega)
theorem fit_new {M : Mm} {c : Cl} (h : a2o M.slots.length M.heads.length c = 0) : Fit M (newF c):=by
  refine ⟨h,by simp [newF],(show inB 0 0 1000000 = true by decide),rfl,?_,?_,?_,by simp [newF]⟩
  · simp only [newF]; omega
  · simp only [newF]; omega
  · simp only [newF]; omega
theorem b3l {nS nH : Nat} {c : Cl} (h : a2o nS nH c = 0) : 1<=c.kind/\c.kind<=6:=by
  unfold a2o at h
  by_cases h1 : c.kind = 1\/c.kind = 3
  · omega
  rw [if_neg h1] at h
  by_cases h2 : c.kind = 2
  · omega
  rw [if_neg h2] at h
  by_cases h3 : c.kind = 4\/c.kind = 5
  · omega
  rw [if_neg h3] at h
  by_cases h4 : c.kind = 6
  · omega
  rw [if_neg h4] at h
  omega
theorem b7c {c : Cl} (I : WInv w) (hi : w.ts[i]? = some t) (hb : t.busy = false) (hc : a2o w.m.slots.length w.m.heads.length c = 0) (h1 : c.kind = 1->t.held.length ≠ 100) (h6 : c.kind = 6->c.slot ∈ t.held) : WInv ⟨w.m,w.ts.set i ⟨true,newF c,t.held⟩⟩:=by
  have htm:=List.mem_of_getElem? hi
  have hk:=b3l hc
  have hh:=I.held t htm
  have hil : i < w.ts.length:=(List.getElem?_eq_some_iff.1 hi).1
  have hnL : ¬ hasL (newF c):=by unfold hasL newF; dsimp only; omega
  have hna : ¬ adds (newF c):=by unfold adds newF; dsimp only; omega
  refine ⟨I.okc,by simpa using I.nt,fun u hu hbu => ?_,fun u hu => ?_,fun k hk' => ?_,fun j u hj hbu hL => ?_,fun b hbb hne => ?_,fun j1 j2 u1 u2 g1 g2 hne b1 b2 a1 a2 => ?_⟩
  · obtain ⟨j,hj⟩:=List.mem_iff_getElem?.1 hu
    rcases a4x hj with ⟨rfl,rfl,_⟩ | ⟨hji,hj'⟩
    · refine ⟨fit_new hc,hk,fun h => ⟨⟨by simp [newF],(fun _ => rfl),(fun h => by simp [newF] at h)⟩,?_⟩,fun h => ⟨by simp [newF],(fun _ => rfl),(fun h => by simp [newF] at h),(fun h => by simp [newF] at h),(fun h => by simp [newF] at h),(fun h => by simp [newF] at h),(fun h => by simp [newF] at h)⟩,
        fun h => ⟨by simp [newF],(fun _ => rfl),(fun h => by simp [newF] at h),(fun h => by simp [newF] at h),(fun h => by simp [newF] at h),(fun h => by simp [newF] at h)⟩,fun h => ⟨by simp [newF],(fun _ => rfl),(fun _ => by simp [newF]),(fun h => by simp [newF] at h),(fun h => by simp [newF] at h),(fun h => by simp [newF] at h)⟩,fun h => ⟨rfl,h6 h⟩⟩
      have:=h1 h
      show t.held.length < 100
      omega
    · exact I.fi u (List.mem_of_getElem? hj') hbu
  · obtain ⟨j,hj⟩:=List.mem_iff_getElem?.1 hu
    rcases a4x hj with ⟨rfl,rfl,_⟩ | ⟨hji,hj'⟩
    · exact hh
    · exact I.held u (List.mem_of_getElem? hj')
  · have h2:=I.refs k hk'
    have h3:=b3g w.ts i t ⟨true,newF c,t.held⟩ k hi
    have h4 : cnt ⟨true,newF c,t.held⟩ k = (t.held.count k : Int):=a1g (.inr rfl) k
    have h5 : cnt t k = (t.held.count k : Int):=a1g (.inl hb) k
    show a0s w.m k = mapd w.m k + sumC (w.ts.set i ⟨true,newF c,t.held⟩) k
    omega
  · rcases a4x hj with ⟨rfl,rfl,_⟩ | ⟨hji,hj'⟩
    · exact (hnL hL).elim
    · exact I.lockI j u hj' hbu hL
  · obtain ⟨j,u,x1,x2,x3,x4,x5⟩:=I.lockO b hbb hne
    have hji : j ≠ i:=fun h => by
      subst h
      rw [hi] at x2
      injection x2 with x2
      subst x2
      rw [hb] at x3; cases x3
    exact ⟨j,u,x1,by rw [List.getElem?_set_ne (fun h => hji h.symm)]; exact x2,x3,x4,x5⟩
  · rcases a4x g1 with ⟨rfl,rfl,_⟩ | ⟨e1,k1⟩
    · exact (hna a1).elim
    · rcases a4x g2 with ⟨rfl,rfl,_⟩ | ⟨e2,k2⟩
      · exact (hna a2).elim
      · exact I.own j1 j2 u1 u2 k1 k2 hne b1 b2 a1 a2
theorem a5p {x : Pk} (I : WInv w) (h : doE w x = 0) : WInv (doW w x):=by
  unfold doE at h
  unfold doW
  by_cases ht : x.tick = true
  · rw [if_pos ht] at h ⊢
    by_cases hn : w.m.now = 1000000
    · rw [if_pos hn] at h; omega
    · exact c2o I (by have:=I.okc.ok.now; omega)
  rw [if_neg ht] at h ⊢
  by_cases hr : 0<=x.task/\x.task < w.ts.length
  · rw [if_neg (by simpa using hr)] at h
    have hi : w.ts[x.task.toNat]? = some (tkAt w x):=by
      unfold tkAt
      have : x.task.toNat < w.ts.length:=by omega
      rw [List.getD_eq_getElem?_getD,List.getElem?_eq_getElem this]
      rfl
    by_cases hs : x.step = true
    · rw [if_pos hs] at h ⊢
      by_cases hb : (tkAt w x).busy = true
      · exact any_step I hi hb
      · rw [if_neg hb] at h; omega
    · rw [if_neg hs] at h ⊢
      unfold b5s at h
      by_cases hb : (tkAt w x).busy = true
      · rw [if_pos hb] at h; omega
      rw [if_neg hb] at h
      by_cases hc : a2o w.m.slots.length w.m.heads.length x.c = 0
      · rw [if_neg (by simpa using hc)] at h
        by_cases h1 : x.c.kind = 1/\(tkAt w x).held.length = 100
        · rw [if_pos h1] at h; omega
        rw [if_neg h1] at h
        by_cases h6 : x.c.kind = 6/\x.c.slot ∉ (tkAt w x).held
        · rw [if_pos h6] at h; omega
        refine b7c I hi (by simpa using hb) hc (fun h => fun e => h1 ⟨h,e⟩) (fun h => ?_)
        by_cases hm : x.c.slot ∈ (tkAt w x).held
        · exact hm
        · exact (h6 ⟨h,hm⟩).elim
      · rw [if_pos hc] at h; exact (hc h).elim
  · rw [if_pos (by simpa using hr)] at h; omega
end
end
section
def newW (many buckets tasks : Nat) : Wd:=⟨newM many buckets,List.replicate tasks idle⟩
theorem new_head {many buckets b : Nat} (hb : b < buckets) : a0v (newM many buckets) b = -1 - (b : Int):=by
  unfold a0v newM
  simp [List.getD_eq_getElem?_getD,hb]
theorem b0t {many buckets b : Nat} (hb : b < buckets) : chL (newM many buckets) b = []/\chE (newM many buckets) b = -1 - (b : Int):=by
  unfold chL chE
  rw [new_head hb]
  cases (newM many buckets).slots.length with
  | zero => exact ⟨rfl,rfl⟩
  | succ k =>
    unfold a3r a5f
    rw [if_neg (by omega),if_neg (by omega)]
    exact ⟨rfl,rfl⟩
theorem c1d (many buckets : Nat) : allC (newM many buckets) = []:=by
  unfold allC a1e
  have hl : (newM many buckets).heads.length = buckets:=by simp [newM]
  rw [hl]
  apply List.flatMap_eq_nil_iff.2
  intro b hb
  exact (b0t (List.mem_range.1 hb)).1
theorem newM_ok {many buckets : Nat} (h1 : many<=12) (h2 : 1<=buckets/\buckets<=4) : Ok (newM many buckets):=by
  have hl : (newM many buckets).heads.length = buckets:=by simp [newM]
  have hs : (newM many buckets).slots.length = many:=by simp [newM]
  refine ⟨by rw [hs]; exact h1,by rw [hl]; exact h2,by simp [newM],by simp [newM],fun s hm => ?_,fun p hm => ?_,fun a hm => ?_,?_,fun i hi _ => ?_⟩
  · have : s = sl0:=by
      have h : s ∈ List.replicate many sl0:=hm
      exact List.eq_of_mem_replicate h
    rw [this,hl,hs]
    unfold a2n
    have e1 : (inB sl0.refs 0 1000 && inB sl0.unt 0 2000000 && keyB sl0.a sl0.b) = true:=by decide
    rw [if_pos e1,if_pos]
    rw [a0h]
    show -(buckets : Int)<=0/\(0 : Int)<=many
    omega
  · obtain ⟨i,hi,e⟩:=List.getElem_of_mem hm
    rw [List.getElem_zip] at e
    have hi' : i < buckets:=by simp [newM] at hi; omega
    subst e
    rw [hl,hs]
    unfold a2f
    have e1 : (newM many buckets).heads[i]'(by rw [hl]; exact hi') = -1 - (i : Int):=by simp [newM]
    have e2 : (newM many buckets).a0b[i]'(by simp [newM]; exact hi') = -1:=by simp [newM]
    dsimp only
    rw [e1,e2]
    rw [if_pos ⟨by omega,by rw [a0h]; omega⟩,if_pos (by first | decide | exact Ex.ne _ _ (by decide))]
  · have h : a ∈ (List.range many).map fun (a : Nat) => (many : Int) - 1 - (a : Int):=hm
    obtain ⟨j,hj,rfl⟩:=List.mem_map.1 h
    have:=List.mem_range.1 hj
    rw [a2a]
    refine ⟨by omega,by rw [hs]; omega,?_⟩
    show ((List.replicate many sl0).getD _ sl0).refs = 0
    rw [List.getD_eq_getElem?_getD,List.getElem?_replicate]
    split <;> rfl
  · show ((List.range many).map fun (a : Nat) => (many : Int) - 1 - (a : Int)).Nodup
    refine List.Pairwise.map _ (fun a b hab => ?_) List.nodup_range
    omega
  · rw [hs] at hi
    show (i : Int) ∈ (List.range many).map fun (a : Nat) => (many : Int) - 1 - (a : Int)
    exact List.mem_map.2 ⟨many - 1 - i,List.mem_range.2 (by omega),by omega⟩
theorem new_okc {many buckets : Nat} (h1 : many<=12) (h2 : 1<=buckets/\buckets<=4) : OkC (newM many buckets):=by
  have hl : (newM many buckets).heads.length = buckets:=by simp [newM]
  refine ⟨newM_ok h1 h2,fun b hb => ?_,fun b hb a ha => ?_,?_⟩
  · rw [hl] at hb; exact (b0t hb).2
  · rw [hl] at hb; rw [(b0t hb).1] at ha; cases ha
  · rw [c1d]; exact List.nodup_nil
theorem c2f (n : Nat) (k : Int) : sumC (List.replicate n idle) k = 0:=by
  induction n with
  | zero => rfl
  | succ n ih =>
    have h0 : cnt idle k = 0:=by rw [a1g (.inl rfl)]; rfl
    show cnt idle k + sumC (List.replicate n idle) k = 0
    omega
theorem c1e {many buckets tasks : Nat} (h1 : many<=12) (h2 : 1<=buckets/\buckets<=4) (h3 : 1<=tasks/\tasks<=5) : WInv (newW many buckets tasks):=by
  have hid : ∀ {j : Nat} {t : Tk},(newW many buckets tasks).ts[j]? = some t->t = idle:=fun {j t} h => by
    have h' : (List.replicate tasks idle)[j]? = some t:=h
    rw [List.getElem?_replicate] at h'
    split at h'
    · injection h' with h'; exact h'.symm
    · cases h'
  have him : ∀ t ∈ (newW many buckets tasks).ts,t = idle:=fun t ht => List.eq_of_mem_replicate ht
  have hs : (newM many buckets).slots.length = many:=by simp [newM]
  refine ⟨new_okc h1 h2,by simpa [newW] using h3,fun t ht hb => ?_,fun t ht => ?_,fun k hk => ?_,fun i t hi hb => ?_,fun b hb hne => ?_,fun i j ti tj hi hj _ hb => ?_⟩
  · rw [him t ht] at hb; cases hb
  · rw [him t ht]; exact ⟨by simp [idle],fun a ha => by cases ha⟩
  · have e1 : sumC (newW many buckets tasks).ts k = 0:=c2f tasks k
    have e2 : mapd (newW many buckets tasks).m k = 0:=by unfold mapd; rw [if_neg]; show k ∉ allC (newM many buckets); rw [c1d]; simp
    have e3 : a0s (newW many buckets tasks).m k = 0:=by
      show ((List.replicate many sl0).getD _ sl0).refs = 0
      rw [List.getD_eq_getElem?_getD,List.getElem?_replicate]
      split <;> rfl
    omega
  · rw [hid hi] at hb; cases hb
  · exfalso
    apply hne
    have hb' : b < buckets:=by simpa [newW,newM] using hb
    show (List.replicate buckets (-1 : Int)).getD b 0 = -1
    rw [List.getD_eq_getElem?_getD,List.getElem?_replicate,if_pos hb']
    rfl
  · rw [hid hi] at hb; cases hb
def runW : Wd->List Pk->Wd
  | w,[] => w
  | w,x :: l => runW (if doE w x = 0 then doW w x else w) l
theorem c1w : ∀ (l : List Pk) {w : Wd},WInv w->WInv (runW w l)
  | [],_,I => I
  | x :: l,w,I => by
    unfold runW
    refine c1w l ?_
    split
    · rename_i h; exact a5p I h
    · exact I
theorem WInv.a0b {w : Wd} (I : WInv w) {b : Nat} (hb : b < w.m.heads.length) (h : a0k w.m b ≠ -1) :
    ∃ (i : Nat) (t : Tk),a0k w.m b = i/\w.ts[i]? = some t/\t.busy = true/\t.f.c.kind ≠ 1/\t.f.c.kind ≠ 6/\bkN w.m t.f = b:=by
  obtain ⟨i,t,x1,x2,x3,x4,x5⟩:=I.lockO b hb h
  refine ⟨i,t,x1,x2,x3,?_,?_,x5⟩
  · unfold hasL at x4; omega
  · unfold hasL at x4; omega
theorem WInv.b7v {w : Wd} (I : WInv w) {b c : Nat} (hb : b < w.m.heads.length) (hc : c < w.m.heads.length) (h : a0k w.m b ≠ -1) (e : a0k w.m b = a0k w.m c) : b = c:=by
  obtain ⟨i,t,x1,x2,x3,x4,x5⟩:=I.lockO b hb h
  obtain ⟨j,u,y1,y2,y3,y4,y5⟩:=I.lockO c hc (by rw [<- e]; exact h)
  have : i = j:=by omega
  subst this
  rw [x2] at y2
  injection y2 with y2
  subst y2
  rw [<- x5,y5]
end
section
def Chg (m : Mm) (l l' : List Int) : Prop:=l' = l\/(∃ s,s ∉ allC m/\isSl m s = true/\l' = s :: l)\/∃ l1 a l2,l = l1 ++ a :: l2/\l' = l1 ++ l2
def Turn (m m' : Mm) : Prop:=∃ b l d,b < m.heads.length/\Eff m m' b l d/\(∀ k,-1<=d k/\d k<=1)/\Chg m (chL m b) l
section
variable {w : Wd} {i : Nat} {t : Tk}
theorem a1n (I : WInv w) : Turn w.m w.m :=
  ⟨0,_,_,by have:=I.okc.ok.nh; omega,Eff.refl I.okc 0,(fun k => by omega),.inl rfl⟩
theorem a5e (I : WInv w) (b : Nat) {v : Int} (hv : -1<=v/\v<=4) : Turn w.m (a3q w.m b v) :=
  ⟨0,_,_,by have:=I.okc.ok.nh; omega,b3b I.okc b 0 hv,(fun k => by omega),.inl rfl⟩
theorem a8a (I : WInv w) {s : Int} (hs : isSl w.m s = true) (h : 1 + mapd w.m s<=a0s w.m s) : Turn w.m (putN w.m s):=by
  have hmp:=a6g w.m s
  refine ⟨0,_,_,by have:=I.okc.ok.nh; omega,a6z I.okc 0 hs (by omega) (fun hm => by have:=a5o hm; omega),(fun k => ?_),.inl rfl⟩
  split <;> omega
theorem c2q (I : WInv w) {s : Int} (hs : isSl w.m s = true) (h0 : 0 < a0s w.m s) (h1 : a0s w.m s < 1000) : Turn w.m (b7i w.m s):=by
  refine ⟨0,_,_,by have:=I.okc.ok.nh; omega,b6i I.okc 0 hs h0 h1,(fun k => ?_),.inl rfl⟩
  split <;> omega
theorem c2s (I : WInv w) {ka kb u : Int} (hk : keyB ka kb = true) (hu : inB u 0 2000000 = true) (hF : 0 < w.m.free.length) : Turn w.m (a5d w.m ka kb u):=by
  refine ⟨0,_,_,by have:=I.okc.ok.nh; omega,(b6u I.okc 0 hk hu hF).1,(fun k => ?_),.inl rfl⟩
  split <;> omega
theorem c0z (I : WInv w) (hi : w.ts[i]? = some t) (hb : t.busy = true) (hk : t.f.c.kind = 1) : Turn w.m (lkM w.m t.f):=by
  have htm:=List.mem_of_getElem? hi
  have F:=I.fi t htm hb
  have hput : isSl w.m t.f.slot = true->Turn w.m (putN w.m t.f.slot):=fun hs =>
    a8a I hs (I.a1r htm hb (by rw [a1t (by omega)]; exact decide_eq_true (a1a.1 hs).1) hs)
  unfold lkM a4z a1f a9d
  split
  · split
    · rename_i ha
      split
      · rename_i hc
        have:=a9f.1 hc
        exact c2q I (a4y ha) this.1 this.2
      · exact a1n I
    · exact a1n I
  · split
    · split
      · exact hput (by assumption)
      · exact a1n I
    · split
      · split
        · exact hput (by assumption)
        · exact a1n I
      · exact a1n I
theorem add_turn (I : WInv w) (hi : w.ts[i]? = some t) (hb : t.busy = true) (hk : t.f.c.kind = 2) : Turn w.m (adM i w.m t.f):=by
  have htm:=List.mem_of_getElem? hi
  have F:=I.fi t htm hb
  have hbk:=I.bk hi hb
  obtain ⟨k1,k2,k3⟩:=b2j hk F.fit.call
  have S:=F.add hk
  have htk:=I.task hi
  unfold adM a4b a1x a4w a8t a1y
  split
  · split
    · exact a1n I
    · exact c2s I k1 (c2u I.okc.ok k2) (by omega)
  split
  · split
    · exact a5e I _ htk
    · exact a1n I
  split
  · rename_i p
    have ha : adds t.f:=⟨hk,by omega,by omega⟩
    obtain ⟨x1,x2,x3⟩:=S.2.2.1 ha.2.1 ha.2.2
    rw [if_pos x1]
    have hnk:=c1f I.okc (by omega) k1 (S.2.2.2.2.2.1 p)
    have hob : ownB w.m t.f.slot = bkN w.m t.f:=by
      have x3':=x3
      unfold a0t Key at x3'
      simp only [Prod.mk.injEq] at x3'
      unfold ownB bkN
      rw [x3'.1,x3'.2,bk_of I.okc.ok (by omega) k1]
    exact ⟨_,_,_,hbk.1,b6k I.okc x1 (I.a8f htm hb ha).2.1 (by rw [x3]; exact hnk) hob,(fun k => by omega),.inr (.inl ⟨_,x2,x1,rfl⟩)⟩
  split
  · rename_i p
    have ha : adds t.f:=⟨hk,by omega,by omega⟩
    obtain ⟨x1,x2,x3⟩:=S.2.2.1 ha.2.1 ha.2.2
    rw [if_pos x1]
    exact a8a I x1 (I.a1r htm hb (a1o ha (a1a.1 x1).1) x1)
  split
  · split
    · exact a5e I _ (by omega)
    · exact a1n I
  · exact a1n I
theorem b5y (I : WInv w) {b : Nat} (hb : b < w.m.heads.length) {l1 l2 : List Int} {a : Int} (e : chL w.m b = l1 ++ a :: l2) : Turn w.m (cutM w.m b (a8n l1) a) :=
  ⟨b,_,_,hb,b4v I.okc hb e,(fun k => by omega),.inr (.inr ⟨l1,a,l2,e,rfl⟩)⟩
theorem b9p (I : WInv w) (hi : w.ts[i]? = some t) (hb : t.busy = true) (hk : t.f.c.kind = 3) : Turn w.m (drM i w.m t.f):=by
  have htm:=List.mem_of_getElem? hi
  have F:=I.fi t htm hb
  have hbk:=I.bk hi hb
  have htk:=I.task hi
  obtain ⟨a1,a2,a3,a4,a5,a6⟩:=F.drop hk
  unfold drM a1x a3d a1y a3p
  split
  · split
    · exact a5e I _ htk
    · exact a1n I
  split
  · rename_i p
    obtain ⟨l1,a,l2,R,_,q⟩:=a5 p
    obtain ⟨hat,hcur⟩:=a3b I.okc hbk.1 R
    rw [if_pos (hat.2 ⟨a,l2,rfl⟩),q,hcur a l2 rfl]
    exact b5y I hbk.1 R.1
  split
  · split
    · exact a5e I _ (by omega)
    · exact a1n I
  split
  · split
    · rename_i hs
      exact a8a I hs (I.a1r htm hb (by rw [a1t (by omega)]; exact decide_eq_true (a1a.1 hs).1) hs)
    · exact a1n I
  · exact a1n I
theorem b8p (I : WInv w) (hi : w.ts[i]? = some t) (hb : t.busy = true) (hk : t.f.c.kind = 4\/t.f.c.kind = 5) : Turn w.m (swM i w.m t.f):=by
  have htm:=List.mem_of_getElem? hi
  have F:=I.fi t htm hb
  have hbk:=I.bk hi hb
  have htk:=I.task hi
  have hk2 : t.f.c.kind ≠ 2:=by omega
  obtain ⟨a1,a2,a3,a4,a5,a6⟩:=F.sweep hk
  unfold swM a1x a3d a1y a3p
  split
  · split
    · exact a5e I _ htk
    · exact a1n I
  split
  · rename_i p
    obtain ⟨l1,a,l2,R,q⟩:=a5 (.inr p)
    obtain ⟨hat,hcur⟩:=a3b I.okc hbk.1 R
    rw [if_pos (hat.2 ⟨a,l2,rfl⟩),q,hcur a l2 rfl]
    exact b5y I hbk.1 R.1
  split
  · split
    · rename_i hs
      exact a8a I hs (I.a1r htm hb (by rw [a1t hk2]; exact decide_eq_true (a1a.1 hs).1) hs)
    · exact a1n I
  split
  · split
    · exact a5e I _ ⟨Int.le_refl _,by decide⟩
    · exact a1n I
  · exact a1n I
theorem any_turn (I : WInv w) (hi : w.ts[i]? = some t) (hb : t.busy = true) : Turn w.m (stepT w.m i t).1:=by
  have htm:=List.mem_of_getElem? hi
  have F:=I.fi t htm hb
  have hk:=F.kind
  unfold stepT
  by_cases h1 : t.f.c.kind = 1
  · rw [if_pos h1]; exact c0z I hi hb h1
  rw [if_neg h1]
  by_cases h2 : t.f.c.kind = 2
  · rw [if_pos h2]; exact add_turn I hi hb h2
  rw [if_neg h2]
  by_cases h3 : t.f.c.kind = 3
  · rw [if_pos h3]; exact b9p I hi hb h3
  rw [if_neg h3]
  by_cases h6 : t.f.c.kind = 6
  · have hm:=(F.leave h6).2
    rw [if_pos h6,if_pos hm]
    exact a8a I ((I.held t htm).2 _ hm) (I.heldIn htm hm)
  rw [if_neg h6]
  exact b8p I hi hb (by omega)
end
theorem b8s {m m' : Mm} (hM : OkC m) (T : Turn m m') :
    (∀ f,f ∈ a1h m' ↔ f ∈ a1h m)\/(∃ g,∀ f,f ∈ a1h m' ↔ f = g\/f ∈ a1h m)\/(∃ g,∀ f,f ∈ a1h m ↔ f = g\/f ∈ a1h m'):=by
  obtain ⟨b,l,d,hb,E,hd,hc⟩:=T
  have hfl : ∀ a ∈ allC m,a1q m' a = a1q m a:=fun a ha => by
    obtain ⟨c,hc,hm⟩:=a2u.1 ha
    obtain ⟨e1,e2⟩:=E.key a (a1a.2 (hM.a4m a ha)) (hM.held c hc a hm).1
    unfold a0t at e1
    simp only [Prod.mk.injEq] at e1
    unfold a1q
    rw [e1.1,e1.2,e2]
  rcases hc with rfl | ⟨s,hs,_,rfl⟩ | ⟨l1,a,l2,e,rfl⟩
  · left
    intro f
    unfold a1h
    rw [List.mem_map,List.mem_map]
    constructor
    · rintro ⟨a,ha,rfl⟩
      have ha' : a ∈ allC m:=by rw [b0r hb E] at ha; rw [a7q hb]; exact ha
      exact ⟨a,ha',(hfl a ha').symm⟩
    · rintro ⟨a,ha,rfl⟩
      exact ⟨a,by rw [b0r hb E,<- a7q hb]; exact ha,hfl a ha⟩
  · right; left
    have hmem : ∀ x,x ∈ allC m' ↔ x = s\/x ∈ allC m:=fun x => by rw [b0r hb E,a7q hb,List.mem_cons,or_assoc]
    refine ⟨a1q m' s,fun f => ?_⟩
    unfold a1h
    rw [List.mem_map,List.mem_map]
    constructor
    · rintro ⟨a,ha,rfl⟩
      rcases (hmem a).1 ha with rfl | h
      · exact .inl rfl
      · exact .inr ⟨a,h,(hfl a h).symm⟩
    · rintro (rfl | ⟨a,ha,rfl⟩)
      · exact ⟨s,(hmem s).2 (.inl rfl),rfl⟩
      · exact ⟨a,(hmem a).2 (.inr ha),hfl a ha⟩
  · right; right
    have hmem:=b4w hM hb e E
    have hach : a ∈ allC m:=a2u.2 ⟨b,hb,by rw [e]; simp⟩
    refine ⟨a1q m a,fun f => ?_⟩
    unfold a1h
    rw [List.mem_map,List.mem_map]
    constructor
    · rintro ⟨x,hx,rfl⟩
      by_cases ex : x = a
      · subst ex; exact .inl rfl
      · exact .inr ⟨x,(hmem x).2 ⟨hx,ex⟩,hfl x hx⟩
    · rintro (rfl | ⟨x,hx,rfl⟩)
      · exact ⟨a,hach,rfl⟩
      · have:=(hmem x).1 hx
        exact ⟨x,this.1,(hfl x this.1).symm⟩
theorem b8t {m m' : Mm} (T : Turn m m') {k : Int} (hk : isSl m k = true) (h0 : a0s m k ≠ 0) : a0t m' k = a0t m k/\(a0d m' k).unt = (a0d m k).unt/\a0s m' k<=a0s m k + 1/\a0s m k - 1<=a0s m' k:=by
  obtain ⟨b,l,d,hb,E,hd,hc⟩:=T
  obtain ⟨e1,e2⟩:=E.key k hk h0
  have h1:=E.refs k hk
  have h2:=hd k
  exact ⟨e1,e2,by omega,by omega⟩
end
section
def nx (m : Mm) (y : Int) : Int:=(a0d m y).next
end
section
section
variable {w : Wd} {G : List (List Mm)} {i : Nat} {t : Tk}
theorem b8i (m : Mm) (i : Nat) (t : Tk) : (stepT m i t).2.f.c = t.f.c:=by
  unfold stepT
  split
  · exact lkF_c _ _
  split
  · exact adF_c _ _
  split
  · exact drF_c _ _
  split
  · rfl
  · exact swF_c _ _
end
end
section
structure Pst where
  task : Int
  c : Cl
  fro : Nat
  to : Nat
  e : Int
  slot : Int
  n : Int
  keys : List (Int × Int)
def b3d (w : Wd) (x : Pk) : Wd:=if doE w x = 0 then doW w x else w
def Kd (w : Wd) (x : Pk) : Prop :=
  (x.tick = true ∧ w.m.now ≠ 1000000 ∧ doW w x = ⟨{ w.m with now:=w.m.now + 1 },w.ts⟩) ∨
  (x.tick = false ∧ x.step = true ∧ (0<=x.task/\x.task < w.ts.length) ∧ w.ts[x.task.toNat]? = some (tkAt w x) ∧ (tkAt w x).busy = true ∧ doW w x = ⟨(stepT w.m x.task.toNat (tkAt w x)).1,w.ts.set x.task.toNat (stepT w.m x.task.toNat (tkAt w x)).2⟩) ∨
  (x.tick = false ∧ x.step = false ∧ (0<=x.task/\x.task < w.ts.length) ∧ w.ts[x.task.toNat]? = some (tkAt w x) ∧ (tkAt w x).busy = false ∧ a2o w.m.slots.length w.m.heads.length x.c = 0 ∧ (x.c.kind = 1->(tkAt w x).held.length ≠ 100) ∧ (x.c.kind = 6->x.c.slot ∈ (tkAt w x).held) ∧ doW w x = ⟨w.m,w.ts.set x.task.toNat ⟨true,newF x.c,(tkAt w x).held⟩⟩)
theorem Kd.tick {w : Wd} {x : Pk} (h : x.tick = true) (hn : w.m.now ≠ 1000000) (e : doW w x = ⟨{ w.m with now:=w.m.now + 1 },w.ts⟩) : Kd w x := .inl ⟨h,hn,e⟩
theorem Kd.step {w : Wd} {x : Pk} (h : x.tick = false) (hs : x.step = true) (hr : 0<=x.task/\x.task < w.ts.length) (hi : w.ts[x.task.toNat]? = some (tkAt w x)) (hb : (tkAt w x).busy = true) (e : doW w x = ⟨(stepT w.m x.task.toNat (tkAt w x)).1,w.ts.set x.task.toNat (stepT w.m x.task.toNat (tkAt w x)).2⟩) : Kd w x := .inr (.inl ⟨h,hs,hr,hi,hb,e⟩)
theorem Kd.begin {w : Wd} {x : Pk} (h : x.tick = false) (hs : x.step = false) (hr : 0<=x.task/\x.task < w.ts.length) (hi : w.ts[x.task.toNat]? = some (tkAt w x)) (hb : (tkAt w x).busy = false) (hc : a2o w.m.slots.length w.m.heads.length x.c = 0) (h1 : x.c.kind = 1->(tkAt w x).held.length ≠ 100) (h6 : x.c.kind = 6->x.c.slot ∈ (tkAt w x).held) (e : doW w x = ⟨w.m,w.ts.set x.task.toNat ⟨true,newF x.c,(tkAt w x).held⟩⟩) : Kd w x := .inr (.inr ⟨h,hs,hr,hi,hb,hc,h1,h6,e⟩)
theorem Kd.rule {w : Wd} {x : Pk} {motive : Kd w x -> Prop} (tick : ∀ (h : x.tick = true) (hn : w.m.now ≠ 1000000) (e : doW w x = ⟨{ w.m with now:=w.m.now + 1 },w.ts⟩),motive (Kd.tick h hn e)) (step : ∀ (h : x.tick = false) (hs : x.step = true) (hr : 0<=x.task/\x.task < w.ts.length) (hi : w.ts[x.task.toNat]? = some (tkAt w x)) (hb : (tkAt w x).busy = true) (e : doW w x = ⟨(stepT w.m x.task.toNat (tkAt w x)).1,w.ts.set x.task.toNat (stepT w.m x.task.toNat (tkAt w x)).2⟩),motive (Kd.step h hs hr hi hb e)) (begin : ∀ (h : x.tick = false) (hs : x.step = false) (hr : 0<=x.task/\x.task < w.ts.length) (hi : w.ts[x.task.toNat]? = some (tkAt w x)) (hb : (tkAt w x).busy = false) (hc : a2o w.m.slots.length w.m.heads.length x.c = 0) (h1 : x.c.kind = 1->(tkAt w x).held.length ≠ 100) (h6 : x.c.kind = 6->x.c.slot ∈ (tkAt w x).held) (e : doW w x = ⟨w.m,w.ts.set x.task.toNat ⟨true,newF x.c,(tkAt w x).held⟩⟩),motive (Kd.begin h hs hr hi hb hc h1 h6 e)) (k : Kd w x) : motive k := by
  rcases k with ⟨h,hn,e⟩ | ⟨h,hs,hr,hi,hb,e⟩ | ⟨h,hs,hr,hi,hb,hc,h1,h6,e⟩
  · exact tick h hn e
  · exact step h hs hr hi hb e
  · exact begin h hs hr hi hb hc h1 h6 e
theorem b4k {w : Wd} {x : Pk} (h : doE w x = 0) : Kd w x:=by
  unfold doE at h
  by_cases ht : x.tick = true
  · rw [if_pos ht] at h
    by_cases hn : w.m.now = 1000000
    · rw [if_pos hn] at h; omega
    · exact .tick ht hn (by unfold doW; rw [if_pos ht])
  rw [if_neg ht] at h
  have ht' : x.tick = false:=by simpa using ht
  by_cases hr : 0<=x.task/\x.task < w.ts.length
  · rw [if_neg (by simpa using hr)] at h
    have hi : w.ts[x.task.toNat]? = some (tkAt w x):=by
      unfold tkAt
      have : x.task.toNat < w.ts.length:=by omega
      rw [List.getD_eq_getElem?_getD,List.getElem?_eq_getElem this]
      rfl
    by_cases hs : x.step = true
    · rw [if_pos hs] at h
      by_cases hb : (tkAt w x).busy = true
      · exact .step ht' hs hr hi hb (by unfold doW; rw [if_neg ht,if_pos hs])
      · rw [if_neg hb] at h; omega
    · rw [if_neg hs] at h
      unfold b5s at h
      by_cases hb : (tkAt w x).busy = true
      · rw [if_pos hb] at h; omega
      rw [if_neg hb] at h
      by_cases hc : a2o w.m.slots.length w.m.heads.length x.c = 0
      · rw [if_neg (by simpa using hc)] at h
        by_cases h1 : x.c.kind = 1/\(tkAt w x).held.length = 100
        · rw [if_pos h1] at h; omega
        rw [if_neg h1] at h
        by_cases h6 : x.c.kind = 6/\x.c.slot ∉ (tkAt w x).held
        · rw [if_pos h6] at h; omega
        refine .begin ht' (by simpa using hs) hr hi (by simpa using hb) hc (fun h => fun e => h1 ⟨h,e⟩) (fun h => ?_) (by unfold doW; rw [if_neg ht,if_neg hs])
        by_cases hm : x.c.slot ∈ (tkAt w x).held
        · exact hm
        · exact (h6 ⟨h,hm⟩).elim
      · rw [if_pos hc] at h; exact (hc h).elim
  · rw [if_pos (by simpa using hr)] at h; omega
structure Rs where
  w : Wd
  said : List Int
  past : List Pst
  beg : List Nat
def overP (n : Nat) (x : Pk) (b : Nat) (t : Tk) : Pst:=⟨x.task,t.f.c,b,n,t.f.e,t.f.slot,t.f.n,t.f.keys⟩
def b0z (n : Nat) (s : Rs) (x : Pk) : Rs :=
  if doE s.w x = 0 then
    (if x.tick then ⟨doW s.w x,s.said ++ [0],s.past,s.beg⟩
     else if x.step then
       (if ((doW s.w x).ts.getD x.task.toNat idle).busy then ⟨doW s.w x,s.said ++ [0],s.past,s.beg⟩
        else ⟨doW s.w x,s.said ++ [0],s.past ++ [overP n x (s.beg.getD x.task.toNat 0) ((doW s.w x).ts.getD x.task.toNat idle)],s.beg⟩)
     else ⟨doW s.w x,s.said ++ [0],s.past,s.beg.set x.task.toNat n⟩)
  else ⟨s.w,s.said ++ [doE s.w x],s.past,s.beg⟩
def runR : Nat->Rs->List Pk->Rs
  | _,s,[] => s
  | n,s,x :: l => runR (n + 1) (b0z n s x) l
def rs0 (w : Wd) : Rs:=⟨w,[],[],List.replicate w.ts.length 0⟩
theorem stepR_w (n : Nat) (s : Rs) (x : Pk) : (b0z n s x).w = b3d s.w x:=by
  unfold b0z b3d
  by_cases h : doE s.w x = 0
  · rw [if_pos h,if_pos h]
    repeat' split
    all_goals rfl
  · rw [if_neg h,if_neg h]
end
end Go.Proofs.YthhgoenomehobaaGreat.mm
