/- Parts. -/
import Derived.Test.YthhgoenomehobaaGreatE47
import Derived.Test.YthhgoenomehobaaGreatE10
namespace Go.Proofs.YthhgoenomehobaaGreat.mm
set_option maxRecDepth 100000
set_option linter.unusedVariables false
open Go.Value renaming int → Vi, slice → Vs
open Go.IntKind renaming i64 → Qi
section
open Go.ChangeShapes Go.WideShapes Go.ChangeAt Go.RowKit Go.Joins Go.Deep Go.Maps
def tab (n : Nat) (f : Nat->Int) : List Int:=(List.range n).map f
def bump (f : Nat->Int) (a : Nat) : Nat->Int:=fun k => if k = a then f k + 1 else f k
theorem tab_len (n : Nat) (f : Nat->Int) : (tab n f).length = n:=by simp [tab]
theorem tab_zero (n : Nat) : tab n (fun _ => 0) = (List.replicate n 0).map Int.ofNat:=by
  apply List.ext_getElem?
  intro j
  by_cases h : j < n
  · simp [tab,h]
  · rw [List.getElem?_eq_none (by rw [tab_len]; omega),List.getElem?_eq_none (by simp; omega)]
theorem tab_set {n : Nat} {f : Nat->Int} {a : Nat} (h : a < n) : (encI (tab n f)).set a (Vi Qi (f a + 1)) = encI (tab n (bump f a)):=by
  apply List.ext_getElem?
  intro j
  by_cases hj : j < n
  · by_cases e : a = j
    · subst e; simp [encI,tab,bump,hj]
    · have e' : ¬ j = a:=fun h => e h.symm
      simp [encI,tab,bump,hj,e,e']
  · rw [List.getElem?_eq_none (by simp [encI,tab]; omega),List.getElem?_eq_none (by simp [encI,tab]; omega)]
def NRow (w : World) (g n : Nat) (f : Nat->Int) : Prop:=w.heap[g]? = some (.cells (encI (tab n f)).toArray 3 (0,0))
theorem NRow.cell {w : World} {g n : Nat} {f : Nat->Int} (h : NRow w g n f) {a : Nat} (ha : a < n) : w.cell? ⟨g,a,none⟩ = some (Vi Qi (f a))/\w.frozen? ⟨g,a,none⟩ = false:=by
  refine ⟨?_,unfrozen_of_block h _⟩
  rw [cell_of_block h]
  simp [encI,tab,ha]
theorem NRow.set {w : World} {g n : Nat} {f : Nat->Int} (h : NRow w g n f) {a : Nat} (ha : a < n) : NRow (w.setCell ⟨g,a,none⟩ (Vi Qi (f a + 1))) g n (bump f a):=by
  unfold NRow at h ⊢
  rw [block_setCell (i:=a) h]
  congr 1
  congr 1
  apply Array.ext'
  rw [<- tab_set ha]
  simp
theorem NRow.below {w w' : World} {g n : Nat} {f : Nat->Int} (h : NRow w g n f) (hb : Below w.heap.size w w') : NRow w' g n f:=(hb.block _ (lt_of_block h)).trans h
def fF (M : Mm) (j k : Nat) : Int:=(((allC M).take j).count (k : Int) : Nat)
theorem fF_step {M : Mm} {j : Nat} (h : j < (allC M).length) (h0 : 0<=(allC M)[j]) : bump (fF M j) ((allC M)[j]).toNat = fF M (j + 1):=by
  funext k
  unfold bump fF
  rw [List.take_succ_eq_append_getElem h,List.count_append]
  by_cases e : k = ((allC M)[j]).toNat
  · rw [if_pos e]
    have : (allC M)[j] = (k : Int):=by omega
    rw [this]
    simp
  · rw [if_neg e]
    have : (allC M)[j] ≠ (k : Int):=by omega
    rw [List.count_singleton]
    simp [this]
theorem fF_all {M : Mm} (h : OkC M) (k : Nat) : fF M (allC M).length k = mapd M k:=by
  unfold fF mapd
  rw [List.take_length]
  have hn : (allC M).Nodup:=a2p h.keys
  by_cases e : (k : Int) ∈ allC M
  · rw [if_pos e,hn.count,if_pos e]; rfl
  · rw [if_neg e,List.count_eq_zero_of_not_mem e]; rfl
def fH (c : Nat->Int) (t : Tk) (j k : Nat) : Int:=c k + (((t.held).take j).count (k : Int) : Nat)
theorem fH_step {c : Nat->Int} {t : Tk} {j : Nat} (h : j < t.held.length) (h0 : 0<=t.held[j]) : bump (fH c t j) (t.held[j]).toNat = fH c t (j + 1):=by
  funext k
  unfold bump fH
  rw [List.take_succ_eq_append_getElem h,List.count_append]
  by_cases e : k = (t.held[j]).toNat
  · rw [if_pos e]
    have : t.held[j] = (k : Int):=by omega
    rw [this]
    simp
    omega
  · rw [if_neg e]
    have : t.held[j] ≠ (k : Int):=by omega
    rw [List.count_singleton]
    simp [this]
def fT (W : Wd) (j k : Nat) : Int:=mapd W.m k + sumC (W.ts.take j) k
theorem b6t (l l' : List Tk) (k : Int) : sumC (l ++ l') k = sumC l k + sumC l' k:=by simp [sumC]
theorem fT_skip {W : Wd} {j : Nat} {t : Tk} (h : W.ts[j]? = some t) (hh : ∀ k,hand t k = 0) : fH (fT W j) t t.held.length = fT W (j + 1):=by
  funext k
  have hj:=(List.getElem?_eq_some_iff.1 h).1
  have he:=(List.getElem?_eq_some_iff.1 h).2
  unfold fH fT
  rw [List.take_succ_eq_append_getElem hj,b6t,he,List.take_length]
  simp [sumC,cnt,hh]
  omega
theorem fT_hand {W : Wd} {j : Nat} {t : Tk} (h : W.ts[j]? = some t) (hb : t.busy = true) (hi : a1r t.f = true) (h0 : 0<=t.f.slot) : bump (fH (fT W j) t t.held.length) t.f.slot.toNat = fT W (j + 1):=by
  funext k
  have hj:=(List.getElem?_eq_some_iff.1 h).1
  have he:=(List.getElem?_eq_some_iff.1 h).2
  unfold bump fH fT
  rw [List.take_succ_eq_append_getElem hj,b6t,he,List.take_length]
  by_cases e : k = t.f.slot.toNat
  · have : t.f.slot = (k : Int):=by omega
    rw [if_pos e]
    simp [sumC,cnt,hand,hb,hi,this]
    omega
  · have : t.f.slot ≠ (k : Int):=by omega
    rw [if_neg e]
    simp [sumC,cnt,hand,hb,hi,this]
    omega
theorem count_le (l : List Int) (k : Int) : l.count k<=l.length:=List.count_le_length
theorem hand_le (t : Tk) (k : Int) : 0<=hand t k/\hand t k<=1:=by unfold hand; split <;> omega
theorem sumC_few {ts : List Tk} (h : ∀ t ∈ ts,t.held.length<=100) (k : Int) : 0<=sumC ts k/\sumC ts k<=101 * ts.length:=by
  induction ts with
  | nil => simp [sumC]
  | cons t ts ih =>
    have h1:=ih (fun t ht => h t (.tail _ ht))
    have h2:=h t (.head _)
    have h3:=hand_le t k
    have h4:=count_le t.held k
    have e : sumC (t :: ts) k = cnt t k + sumC ts k:=by simp [sumC]
    rw [e,List.length_cons]
    unfold cnt
    push_cast
    omega
theorem mapd_le (m : Mm) (k : Int) : 0<=mapd m k/\mapd m k<=1:=by unfold mapd; split <;> omega
theorem fT_le {W : Wd} (I : WInv W) (j k : Nat) : 0<=fT W j k/\fT W j k<=600:=by
  have h1:=mapd_le W.m k
  have h2:=sumC_few (ts:=W.ts.take j) (fun t ht => (I.held t (List.mem_of_mem_take ht)).1) k
  have h3:=I.nt.2
  have h4 : (W.ts.take j).length<=W.ts.length:=by rw [List.length_take]; omega
  unfold fT
  omega
theorem fT_zero {W : Wd} (I : WInv W) : fF W.m (allC W.m).length = fT W 0:=by
  funext k
  rw [fF_all I.okc]
  simp [fT,sumC]
theorem fT_all {W : Wd} (I : WInv W) {k : Nat} (hk : k < W.m.slots.length) : W.m.slots[k].refs = fT W W.ts.length k:=by
  have hs : isSl W.m k = true:=a1a.2 ⟨by omega,by omega⟩
  have h:=I.refs k hs
  unfold fT
  rw [List.take_length,<- h]
  unfold a0s
  simp [hk]
theorem fF_next {M : Mm} {j a : Nat} (h : (allC M)[j]? = some (a : Int)) : bump (fF M j) a = fF M (j + 1):=by
  have hj:=(List.getElem?_eq_some_iff.1 h).1
  have he:=(List.getElem?_eq_some_iff.1 h).2
  have:=fF_step (M:=M) hj (by rw [he]; omega)
  rw [he,Int.toNat_natCast] at this
  exact this
theorem fF_le {M : Mm} (j k : Nat) : 0<=fF M j k/\fF M j k<=(allC M).length:=by
  have h2:=count_le ((allC M).take j) k
  have h3 : ((allC M).take j).length<=(allC M).length:=by rw [List.length_take]; omega
  unfold fF
  omega
theorem fH_next {c : Nat->Int} {t : Tk} {j a : Nat} (h : t.held[j]? = some (a : Int)) : bump (fH c t j) a = fH c t (j + 1):=by
  have hj:=(List.getElem?_eq_some_iff.1 h).1
  have he:=(List.getElem?_eq_some_iff.1 h).2
  have:=fH_step (c:=c) (t:=t) hj (by rw [he]; omega)
  rw [he,Int.toNat_natCast] at this
  exact this
theorem c1m {w : World} {lo size n c : Nat} {e : TypeId} {a : Option Addr} {xs : List Value} (h : w.ownsRow lo e size (Vs a n c) n xs) (h0 : 0 < n) : ∃ g,a = some ⟨g,0,none⟩/\n<=c/\lo<=g/\g < w.heap.size/\∀ j,j < n * size->w.cell? ⟨g,j,none⟩ = xs[j]?:=by
  obtain ⟨h1,h2⟩:=h
  rcases h2 with ⟨-,h3⟩ | ⟨g,cap,cur,hv,hg,hb,hn,-,hs,hc⟩
  · omega
  · cases hv
    refine ⟨g,rfl,hn,hg,lt_of_block hb,fun j hj => ?_⟩
    rw [cell_of_block hb,<- hc,List.getElem?_take_of_lt hj]
    simp
theorem allC_few {M : Mm} (h : OkC M) : (allC M).length<=M.slots.length:=few' _ _ (a2p h.keys) h.a4m
theorem flows_of {M : Mm} (h : OkC M) : a2k M = (allC M).map (a1q M):=by unfold a2k; rw [if_pos ((a7e _).2 h)]
end
end Go.Proofs.YthhgoenomehobaaGreat.mm
