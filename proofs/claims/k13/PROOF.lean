import PyProof.Rows.All
import Wide.All
import OpenK.AllK
import Wide.FinOn
import KE.KeyNested
import HandS.TupSets
import HandS.SortOrd
import KE.SortData
import HandS.ForMost
import HandS.Dict
import HandS.ForExc
import HandS.Codes
import HandS.Wide
import HandS.IsInst
import HandS.RaiseMore
import HandS.ExcIs
import HandS.EndBits
import HandS.Conv
import HandS.TupAny
import HandS.SortRule
import HandS.Walk
import HandS.ClsMeth
import HandS.DictComp
import HandS.Style
import HandS.ExcInit
import KE.KExcSuper
import HandS.ExcSuper
import KE.KExcIs
import KE.KIsAll
import HandS.Deep
import HandS.Iter
import PySem.Challenge.RW_papersorliars_k13_line_trees_judged
/-! NsKey -/
set_option Elab.async false
set_option linter.all false
set_option maxRecDepth 100000
/-! keys that are tuples of ints and of such tuples: what a set asks of them -/
namespace Ns
open PySem PySem.Spec PyProof.Rows L2
mutual
/-- no text and no None in it -/
def numK : NestedKey → Bool
  | .none => false
  | .num _ => true
  | .text _ => false
  | .tup ks => numKs ks
def numKs : List NestedKey → Bool
  | [] => true
  | k :: r => numK k && numKs r
end
/-- the tuple at b is the key k -/
def IsN (h : Heap) (k : NestedKey) (b : Addr) : Prop := NestedIs h k (.ref b) ∧ k.depth ≤ 8 ∧ numK k = true
section
variable {P : Program} {w : World}
/-- a tuple is of no class statement -/
def NoCls (P : Program) (w : World) (n : Nat) (s : Shared) (v : Value) : Prop := ∀ (A : Around) (E : Value → Shared → Prop) (Q : Bool → Shared → Prop), Q false s → wpAny (model P w) A (ofAClassStatement n v) Q E s
def ByVal (P : Program) (w : World) (n : Nat) (s : Shared) (v : Value) : Prop := ∀ (A : Around) (E : Value → Shared → Prop) (Q : Bool → Shared → Prop), Q true s → wpAny (model P w) A (hashByValue n v) Q E s
theorem noCls_tup {n m : Nat} {s : Shared} {a : Addr} {o : Obj} {vs : Array Value} (hg : s.heap.get? a = some o) (hc : o.cls = .type "tuple") (hd : o.data = .seq vs m) (hall : ∀ v ∈ vs.toList, NoCls P w n s v) : NoCls P w (n + 1) s (.ref a) := by
  intro A E Q hq
  unfold ofAClassStatement
  refine wpAny_bind (wpAny_typeOf (show s.TypeIs (.ref a) "tuple" from ⟨o, hg, hc⟩) ?_)
  dsimp only
  have e : (("tuple" : String) == "tuple") = true := by decide
  simp only [e, if_true, Bool.not_true, Bool.false_eq_true, if_false]
  try refine wpAny_bind (wpAny_pure ?_)
  try simp only [Bool.not_true, Bool.false_eq_true, if_false]
  show wpAny _ _ (seqItems? (.ref a) >>= _) _ _ s
  refine wpAny_bind (wpAny_seqItems hg hd ?_)
  dsimp only
  refine wpAny_bind ?_
  show wpAny _ _ (forIn vs _ _) _ _ s
  rw [← Array.forIn_toList]
  refine wpAny_forIn_list _ (fun left r s1 => r.1 = none ∧ s1 = s ∧ ∀ v ∈ left, NoCls P w n s v) _ ?_ ?_ _ _ ⟨rfl, rfl, hall⟩
  · rintro v left r s1 ⟨hr, rfl, hl⟩
    refine wpAny_bind (hl v List.mem_cons_self _ _ _ ?_)
    simp only [Bool.false_eq_true, if_false]
    exact wpAny_pure ⟨rfl, rfl, fun u hu => hl u (List.mem_cons_of_mem _ hu)⟩
  · rintro ⟨r1, r2⟩ s1 ⟨hr, rfl, _⟩
    simp only at hr
    subst hr
    exact wpAny_pure hq
theorem byVal_tup {n m : Nat} {s : Shared} {a : Addr} {o : Obj} {vs : Array Value} (hg : s.heap.get? a = some o) (hc : o.cls = .type "tuple") (hd : o.data = .seq vs m) (hall : ∀ v ∈ vs.toList, ByVal P w n s v) : ByVal P w (n + 1) s (.ref a) := by
  intro A E Q hq
  unfold hashByValue
  refine wpAny_bind (wpAny_specialOf (show s.TypeIs (.ref a) "tuple" from ⟨o, hg, hc⟩) F.slot_tuple_hash.lookup ?_)
  show wpAny _ _ (seqItems? (.ref a) >>= _) _ _ s
  refine wpAny_bind (wpAny_seqItems hg hd ?_)
  refine wpAny_bind ?_
  show wpAny _ _ (forIn vs _ _) _ _ s
  rw [← Array.forIn_toList]
  refine wpAny_forIn_list _ (fun left r s1 => r.1 = none ∧ s1 = s ∧ ∀ v ∈ left, ByVal P w n s v) _ ?_ ?_ _ _ ⟨rfl, rfl, hall⟩
  · rintro v left r s1 ⟨hr, rfl, hl⟩
    refine wpAny_bind (hl v List.mem_cons_self _ _ _ ?_)
    simp only [Bool.not_true, Bool.false_eq_true, if_false]
    exact wpAny_pure ⟨rfl, rfl, fun u hu => hl u (List.mem_cons_of_mem _ hu)⟩
  · rintro ⟨r1, r2⟩ s1 ⟨hr, rfl, _⟩
    simp only at hr
    subst hr
    exact wpAny_pure hq
mutual
theorem noCls_key : ∀ (k : NestedKey) (v : Value) (n : Nat) (s : Shared), NestedIs s.heap k v → k.depth ≤ n → NoCls P w n s v
  | .none, _, n, s, x, _ => by
    cases x
    intro A E Q q
    cases n <;> exact wpAny_pure q
  | .num i, _, n, s, x, _ => by
    cases x <;> (intro A E Q q; cases n <;> exact wpAny_pure q)
  | .text y, _, n, s, x, _ => by
    cases x
    intro A E Q q
    cases n <;> exact wpAny_pure q
  | .tup ks, _, n, s, x, hn => by
    cases x with
    | tup hg hc hd hk =>
      simp only [NestedKey.depth] at hn
      cases n with
      | zero => omega
      | succ n => exact noCls_tup hg hc hd (noCls_keys ks _ n s hk (by omega))
theorem noCls_keys : ∀ (ks : List NestedKey) (vs : List Value) (n : Nat) (s : Shared), NestedAll s.heap ks vs → NestedKey.depthAll ks ≤ n → ∀ v ∈ vs, NoCls P w n s v
  | [], _, n, s, x, _, v, hv => by cases x; cases hv
  | k :: ks, _, n, s, x, hn, v, hv => by
    cases x with
    | cons x1 x2 =>
      simp only [NestedKey.depthAll] at hn
      rcases List.mem_cons.mp hv with e | hv
      · rw [e]; exact noCls_key k _ n s x1 (by omega)
      · exact noCls_keys ks _ n s x2 (by omega) v hv
end
mutual
theorem byVal_key : ∀ (k : NestedKey) (v : Value) (n : Nat) (s : Shared), NestedIs s.heap k v → k.depth ≤ n → numK k = true → ByVal P w n s v
  | .none, _, n, s, x, _, z => by cases z
  | .num i, _, n, s, x, _, _ => by
    cases x <;> (intro A E Q q; cases n <;> exact wpAny_pure q)
  | .text y, _, n, s, x, _, z => by cases z
  | .tup ks, _, n, s, x, hn, z => by
    cases x with
    | tup hg hc hd hk =>
      simp only [NestedKey.depth] at hn
      cases n with
      | zero => omega
      | succ n => exact byVal_tup hg hc hd (byVal_keys ks _ n s hk (by omega) z)
theorem byVal_keys : ∀ (ks : List NestedKey) (vs : List Value) (n : Nat) (s : Shared), NestedAll s.heap ks vs → NestedKey.depthAll ks ≤ n → numKs ks = true → ∀ v ∈ vs, ByVal P w n s v
  | [], _, n, s, x, _, _, v, hv => by cases x; cases hv
  | k :: ks, _, n, s, x, hn, z, v, hv => by
    cases x with
    | cons x1 x2 =>
      simp only [NestedKey.depthAll] at hn
      simp only [numKs, Bool.and_eq_true] at z
      rcases List.mem_cons.mp hv with e | hv
      · rw [e]; exact byVal_key k _ n s x1 (by omega) z.1
      · exact byVal_keys ks _ n s x2 (by omega) z.2 v hv
end
variable {A : Around} {E : Value → Shared → Prop} {s : Shared}
/-- a search among such keys shows nothing -/
theorem unseen {k : NestedKey} {b : Addr} {Q : Bool → Shared → Prop} (hk : IsN s.heap k b) {ys : List Value} (hy : ∀ y ∈ ys, ∃ k1 c, y = Value.ref c ∧ IsN s.heap k1 c) (h : Q false s) :
    wpAny (model P w) A (searchCouldBeSeen (.ref b) ys) Q E s := by
  unfold searchCouldBeSeen
  refine wpAny_bind ?_
  refine wpAny_forIn_list _ (fun left r s1 => r.1 = none ∧ s1 = s ∧ ∀ y ∈ left, ∃ k1 c, y = Value.ref c ∧ IsN s.heap k1 c) _ ?_ ?_ _ _ ⟨rfl, rfl, hy⟩
  · rintro v left r s1 ⟨hr, rfl, hl⟩
    obtain ⟨k1, c, rfl, hc⟩ := hl v List.mem_cons_self
    have more : ∀ y ∈ left, ∃ k1 c, y = Value.ref c ∧ IsN s1.heap k1 c := fun u hu => hl u (List.mem_cons_of_mem _ hu)
    dsimp only
    by_cases hv : (b == c || (carriedByValue (.ref b) && carriedByValue (.ref c))) = true
    · refine wp_if_pos hv ?_
      exact wpAny_pure ⟨rfl, rfl, more⟩
    · refine wp_if_neg hv ?_
      refine wpAny_bind (quiet_key k _ 8 s1 hk.1 hk.2.1 _ _ _ ?_)
      simp only [Bool.not_true, Bool.false_eq_true, if_false]
      refine wpAny_bind (quiet_key k1 _ 8 s1 hc.1 hc.2.1 _ _ _ ?_)
      simp only [Bool.not_true, Bool.false_eq_true, if_false]
      refine wpAny_bind (noCls_key k _ 8 s1 hk.1 hk.2.1 _ _ _ ?_)
      simp only [Bool.false_eq_true, if_false]
      refine wpAny_bind (noCls_key k1 _ 8 s1 hc.1 hc.2.1 _ _ _ ?_)
      simp only [Bool.false_eq_true, if_false]
      exact wpAny_pure ⟨rfl, rfl, more⟩
  · rintro ⟨r1, r2⟩ s1 ⟨hr, rfl, _⟩
    simp only at hr
    subst hr
    exact wpAny_pure h
theorem keyHash {k : NestedKey} {b : Addr} {Q : Int → Shared → Prop} (hu : A.units + 8 < cLine) (hk : IsN s.heap k b) (h : Q (k.hash w) { s with toks := s.toks + k.draws }) : wpAny (model P w) A (pyHash (.ref b)) Q E s :=
  pyHash_key k _ A s Q hk.1 (by have := hk.2.1; omega) h
theorem keyEq {x y : NestedKey} {a b : Addr} {Q : Bool → Shared → Prop} (hu : A.units + 8 < cLine) (hx : IsN s.heap x a) (hy : IsN s.heap y b) (h : Q (decide (x = y)) s) : wpAny (model P w) A (eqBool (.ref a) (.ref b)) Q E s :=
  eqAt_key x y A s _ _ hx.1 hy.1 (by have := hx.2.1; omega) _ _ _ _ (by rw [← NestedKey.decide_eq]; exact h)
theorem IsN.inj {h : Heap} {x y : NestedKey} {a : Addr} (hx : IsN h x a) (hy : IsN h y a) : x = y := NestedIs.inj _ _ _ hx.1 hy.1
theorem IsN.stay {h h1 : Heap} {k : NestedKey} {a : Addr} (x : IsN h k a) (hk : ∀ b o vs n, h.get? b = some o → o.data = .seq vs n → h1.get? b = some o) : IsN h1 k a := ⟨NestedIs.at hk _ _ x.1, x.2⟩
theorem IsN.keep {h h1 : Heap} {k : NestedKey} {a : Addr} (x : IsN h k a) (hk : ∀ b o, h.get? b = some o → h1.get? b = some o) : IsN h1 k a := x.stay fun b o _ _ e _ => hk b o e
theorem IsN.but {h h1 : Heap} {k : NestedKey} {a b : Addr} {o : Obj} {es : Array (Int × Value)} {ep : Nat} {t : SetTable} (x : IsN h k b) (ho : h.get? a = some o) (hd : o.data = .set es ep t) (hs : Heap.SameBut a h h1) : IsN h1 k b :=
  x.stay fun c oc vs n e f => by
    refine (hs.2 c fun z => ?_).trans e
    subst z
    rw [ho] at e
    cases e
    rw [hd] at f
    cases f
end
end Ns
/-! NsSet -/
set_option Elab.async false
set_option linter.all false
set_option maxRecDepth 100000
/-! sets of such keys: searching, adding, laying anew (up to 76 elements) -/
namespace Ns
open PySem PySem.Spec PyProof.Rows L2
abbrev Row : Type := Addr × NestedKey
def rw' (w : World) (L : List Row) : List (Int × Value) := L.map fun p => (p.2.hash w, Value.ref p.1)
def hsh (w : World) (L : List Row) : List Int := L.map fun p => p.2.hash w
/-- the set at a holds the rows L, in the order of its table -/
structure NSt (w : World) (h : Heap) (a : Addr) (L : List Row) (es : Array (Int × Value)) (ep : Nat) (t : SetTable) : Prop where
  obj : ∃ o, h.get? a = some o ∧ o.ExactSet ∧ o.data = .set es ep t
  row : es.toList = rw' w L
  tab : TabOk t (hsh w L)
  dis : (L.map (·.2)).Nodup
  key : ∀ p ∈ L, IsN h p.2 p.1
  pl : t.plain = true
  ld : w.params.followText "set-order" = true ∨ t.led = true
  rm : L.length * 5 < t.mask * 3
section
variable {P : Program} {w : World} {A : Around} {E : Value → Shared → Prop} {s : Shared} {a : Addr} {L : List Row} {es : Array (Int × Value)} {ep : Nat} {t : SetTable}
theorem rows_len {w : World} {L : List Row} {es : Array (Int × Value)} (h : es.toList = rw' w L) : es.size = L.length := by
  have q := congrArg List.length h
  simpa [rw'] using q
theorem NSt.few {h : Heap} (S : NSt w h a L es ep t) : L.length ≤ 76 := by
  have := S.rm
  rcases S.tab.mok with e | e | e <;> omega
theorem NSt.fit {h : Heap} (S : NSt w h a L es ep t) : t.fits es.size = true := by
  have h1 : t.place.size = L.length := S.tab.sz.trans (List.length_map _)
  have h2 := rows_len S.row
  have h3 := S.rm
  unfold SetTable.fits SetTable.fill
  rw [S.tab.dm, Bool.and_eq_true, beq_iff_eq, decide_eq_true_eq]
  show t.place.size = es.size ∧ t.place.size + 0 ≤ t.mask
  omega
theorem rows_at {w : World} {L : List Row} {es : Array (Int × Value)} (h : es.toList = rw' w L) {i : Nat} {p : Row} (e : L[i]? = some p) : es[i]? = some (p.2.hash w, Value.ref p.1) := by
  have q : es.toList[i]? = some (p.2.hash w, Value.ref p.1) := by rw [h]; simp [rw', e]
  rwa [Array.getElem?_toList] at q
theorem no_gave (S : TabOk t (hsh w L)) : ¬ t.gaveWay = true := by
  have h := mask_odd S.mok
  unfold SetTable.gaveWay
  rw [h]
  decide
theorem start_nd (m : Nat) (n : Nat) : ∀ p : SetTable.Probe, p.dummy = none → (nth m p n).dummy = none := by
  induction n with
  | zero => exact fun p q => q
  | succ n ih =>
    intro p q
    have z : (adv m p).dummy = none := by unfold adv; split <;> exact q
    exact ih _ z
/-- where the c-th step of the way of g stands -/
abbrev stp (m : Nat) (g : Int) (c : Nat) : SetTable.Probe := nth m (runAt m (SetTable.bits g % (m + 1)) (SetTable.bits g)) c
theorem stp_add (m : Nat) (g : Int) (c q : Nat) : nth m (stp m g c) q = stp m g (c + q) := (nth_add m c _ q).symm
/-- THE SEARCH from step c of the way on: the first empty slot is step K -/
theorem seek (S : NSt w s.heap a L es ep t) {x : Addr} {k : NestedKey} (hx : IsN s.heap k x) (hu : A.units + 8 < cLine) {K : Nat} (far : K < 10 * SetTable.turns t.mask)
    (open_ : way t.mask (k.hash w) K ∉ t.place.toList) (shut : ∀ c, c < K → way t.mask (k.hash w) c ∈ t.place.toList) {Q : SetFound → Shared → Prop}
    (yes : k ∈ L.map (·.2) → Q (.there none) s) (no : k ∉ L.map (·.2) → Q (.free (way t.mask (k.hash w) K) false) s) :
    ∀ (n c : Nat) (at_ : Option SetTable.Probe), at_.getD (t.probeStart (k.hash w)) = stp t.mask (k.hash w) c → c ≤ K → K - c < n →
      (∀ (i : Nat) p, L[i]? = some p → p.2 = k → ∃ d, c ≤ d ∧ d < K ∧ t.place.toList[i]? = some (way t.mask (k.hash w) d)) →
      wpAny (model P w) A (setSearchFrom a (.ref x) (k.hash w) true n at_) Q E s := by
  obtain ⟨o, hob, hex, hda⟩ := S.obj
  intro n
  induction n with
  | zero => exact fun c at_ _ _ z _ => absurd z (Nat.not_lt_zero _)
  | succ n ih =>
    intro c at_ here cK cn ahead
    rw [setSearchFrom_succ]
    refine wpAny_bind (wpAny_setState_of hob hda S.fit ?_)
    dsimp only
    refine wp_if_neg (no_gave S.tab) ?_
    try refine wpAny_bind (wpAny_pure ?_)
    have slot_of : ∀ q, (nth t.mask (stp t.mask (k.hash w) c) q).j = way t.mask (k.hash w) (c + q) := fun q => congrArg SetTable.Probe.j (stp_add t.mask (k.hash w) c q)
    have hashes : ∀ (i : Nat) p, L[i]? = some p → (fun i => (es[i]?.map (·.1)).getD 0) i = p.2.hash w := fun i p e => by
      show (es[i]?.map (·.1)).getD 0 = _
      rw [rows_at S.row e] <;> rfl
    rcases go_spec t S.tab.ris S.tab.dm (fun i => (es[i]?.map (·.1)).getD 0) (k.hash w) (10 * SetTable.turns t.mask) (K - c) (stp t.mask (k.hash w) c) (start_nd t.mask c _ rfl) (by omega)
      (fun q hq => by rw [slot_of]; exact shut (c + q) (by omega)) (by rw [slot_of, show c + (K - c) = K by omega]; exact open_) with ⟨q, i, hq, hi, hh, before, met⟩ | ⟨before, met⟩
    · rw [slot_of] at hi
      have met' : t.probe (fun i => (es[i]?.map (·.1)).getD 0) (k.hash w) (at_.getD (t.probeStart (k.hash w))) = some (.candidate (way t.mask (k.hash w) (c + q)) i (stp t.mask (k.hash w) (c + (q + 1)))) := by
        rw [here, ← slot_of, ← stp_add]
        exact met
      rw [met']
      dsimp only
      have small : i < L.length := by
        have z1 := (List.getElem?_eq_some_iff.mp hi).1
        have z2 : t.place.size = L.length := S.tab.sz.trans (List.length_map _)
        rwa [Array.length_toList, z2] at z1
      obtain ⟨p, hp⟩ : ∃ p, L[i]? = some p := ⟨_, List.getElem?_eq_getElem small⟩
      have hm : p ∈ L := List.mem_of_getElem? hp
      have live : t.slot (way t.mask (k.hash w) (c + q)) = .live i := slot_live S.tab.ris hi
      have tail : wpAny (model P w) A (searchRest a (.ref x) (k.hash w) true n es t (way t.mask (k.hash w) (c + q)) i (stp t.mask (k.hash w) (c + (q + 1)))) Q E s := by
        unfold searchRest
        rw [rows_at S.row hp]
        dsimp only
        refine wpAny_bind (wpAny_holding (keyEq hu (S.key p hm) hx ?_))
        refine wpAny_bind (wpAny_setState_of hob hda S.fit ?_)
        dsimp only
        by_cases same : p.2 = k
        · refine wp_if_pos (by simp [same]) ?_
          exact wpAny_pure (yes (List.mem_map.mpr ⟨p, hm, same⟩))
        · refine wp_if_neg (by simp [same]) ?_
          try refine wpAny_bind (wpAny_pure ?_)
          rw [sameMem]
          dsimp only
          simp only [if_true, live, rows_at S.row hp]
          refine wpAny_bind (wpAny_isSame_ref_self (wpAny_bind (wpAny_pure ?_)))
          simp only [if_true]
          refine wp_if_neg (by simp [same]) ?_
          refine ih (c + (q + 1)) _ rfl (by omega) (by omega) fun i1 p1 e1 k1 => ?_
          obtain ⟨d, d1, d2, d3⟩ := ahead i1 p1 e1 k1
          refine ⟨d, ?_, d2, d3⟩
          rcases Nat.lt_trichotomy d (c + q) with z | z | z
          · exfalso
            refine before (d - c) i1 (by omega) (by rw [slot_of, show c + (d - c) = d by omega]; exact d3) ?_
            exact (hashes i1 p1 e1).trans (congrArg (NestedKey.hash w) k1)
          · exfalso
            rw [z] at d3
            have l1 := slot_live S.tab.ris d3
            rw [live] at l1
            injection l1 with l1
            subst l1
            rw [hp] at e1
            exact same ((congrArg Prod.snd (Option.some.inj e1)).trans k1)
          · omega
      by_cases hl : t.led = true
      · refine wp_if_neg (by simp [hl]) ?_
        try refine wpAny_bind (wpAny_pure ?_)
        exact tail
      · refine wp_if_pos (by simp [hl]) ?_
        refine wpAny_bind (unseen hx (fun y hy => ?_) ?_)
        · obtain ⟨e, he, ee⟩ := List.mem_map.mp hy
          have he1 : e ∈ es := by
            have z : e ∈ es ∧ e.1 = k.hash w := by simpa using he
            exact z.1
          have he2 : e ∈ es.toList := by simpa using he1
          rw [S.row] at he2
          obtain ⟨p2, hp2, e2⟩ := List.mem_map.mp he2
          exact ⟨p2.2, p2.1, by rw [← ee, ← e2], S.key p2 hp2⟩
        · refine wp_if_neg (by decide) ?_
          try refine wpAny_bind (wpAny_pure ?_)
          exact tail
    · have met' : t.probe (fun i => (es[i]?.map (·.1)).getD 0) (k.hash w) (at_.getD (t.probeStart (k.hash w))) = some (.empty (way t.mask (k.hash w) K) none) := by
        have z : way t.mask (k.hash w) K = (nth t.mask (stp t.mask (k.hash w) c) (K - c)).j := by rw [slot_of, show c + (K - c) = K by omega]
        rw [here, z]
        exact met
      rw [met']
      dsimp only
      refine wpAny_pure (no fun hm => ?_)
      obtain ⟨p1, hp1, k1⟩ := List.mem_map.mp hm
      obtain ⟨i1, hi1, e1⟩ := List.getElem_of_mem hp1
      have e2 : L[i1]? = some p1 := by rw [List.getElem?_eq_getElem hi1, e1]
      obtain ⟨d, d1, d2, d3⟩ := ahead i1 p1 e2 k1
      refine before (d - c) i1 (by omega) (by rw [slot_of, show c + (d - c) = d by omega]; exact d3) ?_
      exact (hashes i1 p1 e2).trans (congrArg (NestedKey.hash w) k1)
/-- the whole search, as adding asks for it -/
theorem seek_all (S : NSt w s.heap a L es ep t) {x : Addr} {k : NestedKey} (hx : IsN s.heap k x) (hu : A.units + 8 < cLine) {Q : SetFound → Shared → Prop} (yes : k ∈ L.map (·.2) → Q (.there none) s)
    (no : ∀ K, k ∉ L.map (·.2) → way t.mask (k.hash w) K ∉ t.place.toList → (∀ c, c < K → way t.mask (k.hash w) c ∈ t.place.toList) → Q (.free (way t.mask (k.hash w) K) false) s) :
    wpAny (model P w) A (setSearch a (.ref x) (k.hash w) true) Q E s := by
  have hl : (hsh w L).length = L.length := List.length_map _
  have hr := S.rm
  obtain ⟨K, far, op, sh⟩ := S.tab.first (by omega) (k.hash w)
  have turns : 10 * SetTable.turns t.mask ≤ 1420 := by
    unfold SetTable.turns
    rcases S.tab.mok with e | e | e <;> omega
  unfold setSearch
  refine seek S hx hu far op sh yes (fun z => no K z op sh) 100000 0 none rfl (Nat.zero_le _) (by omega) fun i p hp hk => ?_
  have hi : (hsh w L)[i]? = some (k.hash w) := by unfold hsh; rw [List.getElem?_map, hp, ← hk] <;> rfl
  have hil : i < t.place.toList.length := by
    rw [Array.length_toList, S.tab.sz, hl]
    exact (List.getElem?_eq_some_iff.mp hp).1
  have hj := List.getElem?_eq_getElem hil
  obtain ⟨c, hc, e⟩ := S.tab.before op hi hj
  exact ⟨c, Nat.zero_le _, hc, by rw [hj, e]⟩
end
end Ns
/-! NsAdd -/
set_option Elab.async false
set_option linter.all false
set_option maxRecDepth 100000
namespace Ns
open PySem PySem.Spec PyProof.Rows L2
theorem picked {w : World} (L : List Row) (es : Array (Int × Value)) (order : Array Nat) (hr : es.toList = rw' w L) (hp : order.toList.Perm (List.range L.length)) :
    ∃ M : List Row, (order.filterMap (es[·]?)).toList = rw' w M ∧ M.Perm L ∧ hsh w M = order.toList.map fun i => (es.map (·.1)).getD i 0 := by
  have one : ∀ i p, L[i]? = some p → (es.map (·.1)).getD i 0 = p.2.hash w := fun i p e => by
    have z : (es.map (·.1))[i]? = some (p.2.hash w) := by rw [Array.getElem?_map, rows_at hr e] <;> rfl
    simp [Array.getD_eq_getD_getElem?, z]
  have go : ∀ l : List Nat, (∀ i ∈ l, i < L.length) → l.filterMap (fun i => es[i]?) = rw' w (l.filterMap fun i => L[i]?) ∧ hsh w (l.filterMap fun i => L[i]?) = l.map fun i => (es.map (·.1)).getD i 0 := by
    intro l
    induction l with
    | nil => exact fun _ => ⟨rfl, rfl⟩
    | cons i l ih =>
      intro hl
      obtain ⟨p, e⟩ : ∃ p, L[i]? = some p := ⟨_, List.getElem?_eq_getElem (hl i List.mem_cons_self)⟩
      obtain ⟨e1, e2⟩ := ih fun j hj => hl j (List.mem_cons_of_mem _ hj)
      constructor
      · rw [List.filterMap_cons_some (rows_at hr e), List.filterMap_cons_some e, e1] <;> rfl
      · rw [List.filterMap_cons_some e, List.map_cons, ← e2, one i _ e] <;> rfl
  obtain ⟨e1, e2⟩ := go order.toList fun i hi => List.mem_range.mp (hp.mem_iff.mp hi)
  refine ⟨order.toList.filterMap fun i => L[i]?, by first | (rw [Array.toList_filterMap]; exact e1) | simpa using e1, ?_, e2⟩
  have all : ∀ n, n ≤ L.length → (List.range n).filterMap (fun i => L[i]?) = L.take n := by
    intro n
    induction n with
    | zero => exact fun _ => rfl
    | succ n ih =>
      intro hn
      obtain ⟨p, e⟩ : ∃ p, L[n]? = some p := ⟨_, List.getElem?_eq_getElem hn⟩
      rw [List.range_succ, List.filterMap_append, ih (Nat.le_of_lt hn), List.take_succ, e, List.filterMap_cons_some e] <;> rfl
  have z := hp.filterMap fun i => L[i]?
  rwa [all L.length (Nat.le_refl _), List.take_length] at z
section
variable {P : Program} {w : World} {A : Around} {E : Value → Shared → Prop} {s : Shared} {a : Addr} {L : List Row} {es : Array (Int × Value)} {ep : Nat} {t : SetTable}
/-- the table laid anew -/
theorem laid_anew {o : Obj} (ho : s.heap.get? a = some o) (hex : o.ExactSet) (hd : o.data = .set es ep t) (hr : es.toList = rw' w L) (hsz : t.place.size = es.size) (hdm : t.dummies = #[]) (hfl : es.size ≤ t.mask)
    (nd : (L.map (·.2)).Nodup) (ks : ∀ p ∈ L, IsN s.heap p.2 p.1) (pl : t.plain = true) (ld : w.params.followText "set-order" = true ∨ t.led = true) {wanted M : Nat}
    (hw : SetTable.sizeAbove wanted - 1 = M) (hM : MaskOk M) (hb : SetTable.sizeAbove wanted ≤ 128) (hn : L.length * 5 < M * 3) {Q : Unit → Shared → Prop}
    (hQ : ∀ h1 L1 es1 ep1 t1, Heap.SameBut a s.heap h1 → NSt w h1 a L1 es1 ep1 t1 → L1.Perm L → Q () { s with heap := h1 }) : wpAny (model P w) A (setRelay a wanted) Q E s := by
  have hl := rows_len hr
  have fits : t.fits es.size = true := by
    unfold SetTable.fits SetTable.fill
    rw [hdm, Bool.and_eq_true, beq_iff_eq, decide_eq_true_eq]
    show t.place.size = es.size ∧ t.place.size + 0 ≤ t.mask
    omega
  obtain ⟨t1, order, e, pm, T, em, el, epl, edm⟩ := relaid_ok t (hs := es.map (·.1)) (wanted := wanted) hw hM (by rw [Array.size_map, hl]; omega)
  rw [Array.size_map, hl] at pm
  obtain ⟨M1, r1, r2, r3⟩ := picked L es order hr pm
  rw [← r3] at T
  have hs1 : (order.filterMap (es[·]?)).size = es.size := by rw [rows_len r1, r2.length_eq, hl]
  rw [setRelay_eq]
  refine wpAny_bind (wpAny_setState_of ho hd fits ?_)
  dsimp only
  refine wp_if_neg (by rw [sizeLine_eq]; omega) ?_
  try refine wpAny_bind (wpAny_pure ?_)
  rw [e]
  dsimp only
  refine wpAny_bind ?_
  refine wp_if_neg (by rw [hs1]; simp) ?_
  try refine wpAny_bind (wpAny_pure ?_)
  refine wpAny_pure ?_
  dsimp only
  refine wpAny_storeSet_of ho hd ?_ (by rw [hs1, hl, sizeLine_eq]; rcases hM with z | z | z <;> omega)
  have but : Heap.SameBut a s.heap (s.heap.update a (Obj.putSet (order.filterMap (es[·]?)) t1)) := Heap.SameBut.update ..
  refine hQ _ M1 _ (ep + 1) t1 but ⟨⟨_, store_at ho hd, ⟨hex.1, hex.2.1, hex.2.2⟩, rfl⟩, r1, T, (r2.map (·.2)).nodup_iff.mpr nd, fun p hp => (ks p (r2.mem_iff.mp hp)).but ho hd but, by rw [epl]; exact pl, by rw [el]; exact ld, ?_⟩ r2
  rw [r2.length_eq, em]
  exact hn
/-- ADDING one key -/
theorem put_in (S : NSt w s.heap a L es ep t) {x : Addr} {k : NestedKey} (hx : IsN s.heap k x) (hu : A.units + 8 < cLine) (few1 : k ∉ L.map (·.2) → L.length + 1 ≤ 76) {Q : Bool → Shared → Prop}
    (hQ : ∀ b h1 L1 es1 ep1 t1, Heap.SameBut a s.heap h1 → NSt w h1 a L1 es1 ep1 t1 → (k ∈ L.map (·.2) → L1 = L) → (k ∉ L.map (·.2) → L1.Perm ((x, k) :: L)) → Q b { s with heap := h1 }) :
    wpAny (model P w) A (setAddHashed a (.ref x) (k.hash w)) Q E s := by
  obtain ⟨o, ho, hex, hd⟩ := S.obj
  have hl := rows_len S.row
  have hlh : (hsh w L).length = L.length := List.length_map _
  have hrm := S.rm
  unfold setAddHashed
  refine wpAny_holding ?_
  rw [show (100000 : Nat) = 99999 + 1 from rfl, setAddHashedIn_succ]
  refine wpAny_bind (wpAny_setState_of ho hd S.fit ?_)
  dsimp only
  refine wp_if_neg (by simp [byScan, Value.scannable]) ?_
  try refine wpAny_bind (wpAny_pure ?_)
  refine wpAny_bind (seek_all S hx hu (fun hm => ?_) fun K hm op sh => ?_)
  · dsimp only
    exact wpAny_pure (hQ false s.heap L es ep t (Heap.SameBut.refl a s.heap) S (fun _ => rfl) fun z => absurd hm z)
  have few := few1 hm
  dsimp only
  refine wpAny_bind (wpAny_setState_of ho hd S.fit ?_)
  dsimp only
  obtain ⟨c1, c2, c3, c4, c5, c6, c7, c8, c9⟩ := S.tab.put op sh
  have pl1 : (t.put (way t.mask (k.hash w) K)).1.plain = true := by rw [c6]; exact S.pl
  generalize t.put (way t.mask (k.hash w) K) = pt at c1 c3 c4 c5 c6 c7 c8 c9 pl1 ⊢
  obtain ⟨t1, p⟩ := pt
  dsimp only at c1 c3 c4 c5 c6 c7 c8 c9 pl1 ⊢
  subst c1
  first
    | (refine wpAny_bind ?_; refine wp_if_pos pl1 ?_; refine byVal_key k _ 8 _ hx.1 hx.2.1 hx.2.2 _ _ _ ?_)
    | refine wp_if_pos pl1 (wpAny_bind (byVal_key k _ 8 _ hx.1 hx.2.1 hx.2.2 _ _ _ ?_))
  simp only [if_true]
  generalize SetTable.below t.place (way t.mask (k.hash w) K) = p at c2 c3 ⊢
  have row1 : (SetTable.insertAt es p (k.hash w, Value.ref x)).toList = rw' w (L.take p ++ (x, k) :: L.drop p) := by
    rw [SetTable.toList_insertAt, S.row]
    unfold rw'
    rw [List.map_append, List.map_cons, List.map_take, List.map_drop]
  have pm : (L.take p ++ (x, k) :: L.drop p).Perm ((x, k) :: L) := put_perm L p (x, k)
  have tab1 : TabOk t1 (hsh w (L.take p ++ (x, k) :: L.drop p)) := by
    have z : hsh w (L.take p ++ (x, k) :: L.drop p) = (hsh w L).take p ++ k.hash w :: (hsh w L).drop p := by
      unfold hsh
      rw [List.map_append, List.map_cons, List.map_take, List.map_drop]
    rw [z]
    exact c3
  generalize L.take p ++ (x, k) :: L.drop p = L1 at row1 pm tab1
  have len1 : L1.length = L.length + 1 := pm.length_eq
  have es1 := rows_len row1
  rw [len1] at es1
  generalize SetTable.insertAt es p (k.hash w, Value.ref x) = ees at row1 es1 ⊢
  have nd1 : (L1.map (·.2)).Nodup := by
    refine (pm.map (·.2)).nodup_iff.mpr ?_
    rw [List.map_cons]
    exact List.nodup_cons.mpr ⟨hm, S.dis⟩
  refine wpAny_bind (wpAny_storeSet_of ho hd ?_ (by rw [es1, sizeLine_eq]; omega))
  have but : Heap.SameBut a s.heap (s.heap.update a (Obj.putSet ees t1)) := Heap.SameBut.update ..
  have ho1 := store_at (es' := ees) (t' := t1) ho hd
  generalize s.heap.update a (Obj.putSet ees t1) = h1 at but ho1 ⊢
  have key1 : ∀ q ∈ L1, IsN h1 q.2 q.1 := fun q hq => by
    rcases List.mem_cons.mp (pm.mem_iff.mp hq) with z | z
    · rw [z]; exact hx.but ho hd but
    · exact (S.key q z).but ho hd but
  have ld1 : w.params.followText "set-order" = true ∨ t1.led = true := by rw [c5]; exact S.ld
  have hlh1 : (hsh w L1).length = L.length + 1 := (List.length_map _).trans len1
  by_cases full : t1.tooFull = true
  · first
      | (refine wpAny_bind ?_; refine wp_if_pos (by simp [full]) ?_)
      | (refine wp_if_pos (by simp [full]) ?_; refine wpAny_bind ?_)
    have much : (L.length + 1) * 5 ≥ t1.mask * 3 := by
      have z := full
      unfold SetTable.tooFull at z
      rw [decide_eq_true_eq, c9, hlh] at z
      exact z
    rw [hl]
    have which : (t.mask = 7 ∧ L.length = 4) ∨ (t.mask = 31 ∧ L.length = 18) := by
      rw [c4] at much
      rcases S.tab.mok with z | z | z
      · exact .inl ⟨z, by omega⟩
      · exact .inr ⟨z, by omega⟩
      · omega
    have grow : ∀ M, SetTable.sizeAbove (SetTable.grown (L.length + 1)) - 1 = M → MaskOk M → SetTable.sizeAbove (SetTable.grown (L.length + 1)) ≤ 128 → (L.length + 1) * 5 < M * 3 →
        wpAny (model P w) A (setRelay a (SetTable.grown (L.length + 1))) (fun _ s1 => wpAny (model P w) A (pure true) Q E s1) E { s with heap := h1 } := fun M g1 g2 g3 g4 => by
      refine laid_anew (s := { s with heap := h1 }) ho1 ⟨hex.1, hex.2.1, hex.2.2⟩ rfl row1 (by rw [tab1.sz, hlh1, es1]) tab1.dm (by rw [es1, c4]; rcases which with ⟨z, z2⟩ | ⟨z, z2⟩ <;> omega) nd1 key1 pl1 ld1 g1 g2 g3 (by rw [len1]; exact g4) ?_
      intro h2 L2 es2 ep2 t2 but2 S2 pm2
      exact wpAny_pure (hQ true h2 L2 es2 ep2 t2 (but.trans but2) S2 (fun z => absurd z hm) fun _ => pm2.trans pm)
    rcases which with ⟨_, z⟩ | ⟨_, z⟩
    · exact grow 31 (by rw [z, size_20]) (.inr (.inl rfl)) (by rw [z, size_20]; decide) (by omega)
    · exact grow 127 (by rw [z, size_76]) (.inr (.inr rfl)) (by rw [z, size_76]; decide) (by omega)
  · first
      | refine wp_if_neg (by simp [full]) ?_
      | (refine wpAny_bind ?_; refine wp_if_neg (by simp [full]) ?_; refine wpAny_pure ?_)
    refine wpAny_pure (hQ true h1 L1 ees (ep + 1) t1 but ⟨⟨_, ho1, ⟨hex.1, hex.2.1, hex.2.2⟩, rfl⟩, row1, tab1, nd1, key1, pl1, ld1, ?_⟩ (fun z => absurd z hm) fun _ => pm)
    have z := full
    unfold SetTable.tooFull at z
    rw [decide_eq_true_eq, c9, hlh] at z
    rw [len1]
    omega
end
end Ns
/-! NsCall -/
set_option Elab.async false
set_option linter.all false
set_option maxRecDepth 100000
namespace Ns
open PySem PySem.Spec PyProof.Rows L2
/-- what the set holds after the first i of the rows ks -/
structure Held (ks : List Row) (i : Nat) (L : List Row) : Prop where
  sub : ∀ p ∈ L, p ∈ ks.take i
  all : ∀ p ∈ ks.take i, p.2 ∈ L.map (·.2)
theorem Held.none (ks : List Row) : Held ks 0 [] := ⟨fun p h => (by cases h), fun p h => (by simp at h)⟩
theorem Held.old {ks L : List Row} {i : Nat} {x : Row} (hd : Held ks i L) (h : ks[i]? = some x) (hm : x.2 ∈ L.map (·.2)) : Held ks (i + 1) L := by
  have e := take_next h
  refine ⟨fun p hq => ?_, fun p hq => ?_⟩
  · rw [e]; exact List.mem_append_left _ (hd.sub p hq)
  · rw [e] at hq
    rcases List.mem_append.mp hq with cz | cz
    · exact hd.all p cz
    · rw [List.mem_singleton.mp cz]; exact hm
theorem Held.new {ks L M : List Row} {i : Nat} {x : Row} (hd : Held ks i L) (h : ks[i]? = some x) (pq : M.Perm (x :: L)) : Held ks (i + 1) M := by
  have e := take_next h
  refine ⟨fun p hq => ?_, fun p hq => ?_⟩
  · rw [e]
    rcases List.mem_cons.mp (pq.mem_iff.mp hq) with cz | cz
    · rw [cz]; exact List.mem_append_right _ (List.mem_singleton.mpr rfl)
    · exact List.mem_append_left _ (hd.sub p cz)
  · rw [(pq.map (·.2)).mem_iff, List.map_cons]
    rw [e] at hq
    rcases List.mem_append.mp hq with cz | cz
    · exact List.mem_cons_of_mem _ (hd.all p cz)
    · rw [List.mem_singleton.mp cz]; exact List.mem_cons_self
theorem nodup_le {α : Type} [DecidableEq α] : ∀ (l D : List α), l.Nodup → (∀ x ∈ l, x ∈ D) → l.length ≤ D.length
  | [], _, _, _ => Nat.zero_le _
  | x :: l, D, hn, hs => by
    obtain ⟨h1, h2⟩ := List.nodup_cons.mp hn
    have hx := hs x List.mem_cons_self
    have ih := nodup_le l (D.erase x) h2 fun y hy => (List.mem_erase_of_ne (fun (e : y = x) => h1 (by rw [← e]; exact hy))).mpr (hs y (List.mem_cons_of_mem _ hy))
    rw [List.length_erase_of_mem hx] at ih
    have hq := List.length_pos_of_mem hx
    rw [List.length_cons]
    omega
/-- distinct keys of some rows are no more than the rows' distinct keys -/
theorem Held.le {ks L : List Row} {i m : Nat} (hd : Held ks i L) (nd : (L.map (·.2)).Nodup) (D : List NestedKey) (hD : ∀ p ∈ ks, p.2 ∈ D) (hm : D.length ≤ m) : L.length ≤ m := by
  have h1 : (L.map (·.2)).length ≤ D.length := by
    refine nodup_le _ D nd fun k hk => ?_
    obtain ⟨p, hq, e⟩ := List.mem_map.mp hk
    rw [← e]
    exact hD p (List.mem_of_mem_take (hd.sub p hq))
  rw [List.length_map] at h1
  omega
section
variable {P : Program} {w : World} {A : Around} {E : Value → Shared → Prop} {s : Shared}
theorem NSt.move {h h1 : Heap} {a : Addr} {L : List Row} {es : Array (Int × Value)} {ep : Nat} {t : SetTable} (S : NSt w h a L es ep t) (ha : ∀ o, h.get? a = some o → h1.get? a = some o) (hk : ∀ p ∈ L, IsN h1 p.2 p.1) : NSt w h1 a L es ep t := by
  obtain ⟨o, ho, q⟩ := S.obj
  exact { S with obj := ⟨o, ha o ho, q⟩, key := hk }
abbrev freshObj (w : World) : Obj := { cls := .type "set", dict := none, data := .set #[] 0 (.fresh 0 0 (!w.params.followText "set-order")) }
theorem nst_new {h : Heap} {a : Addr} (ho : h.get? a = some (freshObj w)) : NSt w h a [] #[] 0 (.fresh 0 0 (!w.params.followText "set-order")) where
  obj := ⟨_, ho, ⟨rfl, rfl, rfl⟩, rfl⟩
  row := rfl
  tab := ⟨List.Pairwise.nil, rfl, rfl, .inl rfl, fun x hx => (by cases hx), fun i h j hi => (by simp [hsh] at hi)⟩
  dis := List.nodup_nil
  key := fun p hq => nomatch hq
  pl := rfl
  ld := by
    show _ ∨ (!w.params.followText "set-order") = true
    cases w.params.followText "set-order"
    · exact .inr rfl
    · exact .inl rfl
  rm := by
    show 0 * 5 < 7 * 3
    decide
/-- the loop of set.update over such rows -/
theorem loop_in {I : Addr} {fp wrt : List Addr} {G : Array GenState → Array GenState → Prop} {n : Nat} {Pv : Nat → Value → Prop} {St : Nat → Shared → Prop} {R : Result → Shared → Prop}
    (W : WalksS P w A.in1 I fp wrt G n Pv St) (S : Addr) (offF : S ∉ fp) (ks : List Row) (hn : n = ks.length) (D : List NestedKey) (hD : ∀ p ∈ ks, p.2 ∈ D) (few : D.length ≤ 76) (itm : ∀ i v, Pv i v → ∃ p, ks[i]? = some p ∧ v = .ref p.1)
    (g0 : Heap) (hk : ∀ p ∈ ks, IsN g0 p.2 p.1) (freeS : g0.get? S = none) (freeW : ∀ b ∈ wrt, g0.get? b = none) (room : A.in1.units + 8 < cLine) :
    ∀ (k i : Nat) (s : Shared), n - i = k → i ≤ n → St i s → (∀ b o, g0.get? b = some o → s.heap.get? b = some o) → (∃ L es ep t, NSt w s.heap S L es ep t ∧ Held ks i L) →
      (∀ s1 L es ep t, Moved (S :: wrt) G s s1 → NSt w s1.heap S L es ep t → Held ks n L → (∀ b o, g0.get? b = some o → s1.heap.get? b = some o) → R (.ok (.ret .none)) s1) →
      codeAny (model P w) A (.builtin "set.update.loop" ⟨[.ref S, .ref I], []⟩) R s := by
  have offW : S ∉ wrt := fun h => offF (W.sub _ h)
  have wider : ∀ b ∈ wrt, b ∈ S :: wrt := fun b hb => List.mem_cons_of_mem _ hb
  have after : ∀ {s s1 : Shared}, Moved wrt G s s1 → (∀ b o, g0.get? b = some o → s.heap.get? b = some o) → ∀ b o, g0.get? b = some o → s1.heap.get? b = some o := fun hm stays b o e =>
    hm.heap b o (fun hb => by rw [freeW b hb] at e; cases e) (stays b o e)
  intro k
  induction k with
  | zero =>
    intro i s hk1 hi hst stays ⟨L, es, ep, t, hS, hd⟩ hR
    obtain rfl : i = n := by omega
    refine codeAny_builtin F.entry_set_update_loop ?_
    rw [Around.under_plainId F.plain_set_update_loop _]
    show wpAny _ A.in1 (pyNext (.ref I) >>= _) _ _ s
    refine wpAny_bind (W.done s _ _ hst fun s1 hm => ?_)
    show wpAny _ A.in1 (ret Value.none) _ _ s1
    have kp1 := after hm stays
    exact wpAny_pure (hR s1 L es ep t (hm.mono wider) (hS.move (fun o e => hm.heap S o offW e) fun p hq => (hk p (List.mem_of_mem_take (hd.sub p hq))).keep kp1) hd kp1)
  | succ k ih =>
    intro i s hk1 hi hst stays ⟨L, es, ep, t, hS, hd⟩ hR
    have hlt : i < n := by omega
    refine codeAny_builtin F.entry_set_update_loop ?_
    rw [Around.under_plainId F.plain_set_update_loop _]
    show wpAny _ A.in1 (pyNext (.ref I) >>= _) _ _ s
    refine wpAny_bind (W.item i s _ _ hlt hst fun v s1 itP hst1 hm => ?_)
    obtain ⟨p, hq, rfl⟩ := itm i v itP
    have kp1 := after hm stays
    have S1 : NSt w s1.heap S L es ep t := hS.move (fun o e => hm.heap S o offW e) fun q hq => (hk q (List.mem_of_mem_take (hd.sub q hq))).keep kp1
    have hx : IsN s1.heap p.2 p.1 := (hk p (List.mem_of_getElem? hq)).keep kp1
    show wpAny _ A.in1 (holding [Value.ref p.1] (setAdd S (.ref p.1)) >>= _) _ _ s1
    refine wpAny_bind (wpAny_holding ?_)
    unfold setAdd
    refine wpAny_holding ?_
    refine wpAny_bind (keyHash room hx ?_)
    have fits : p.2 ∉ L.map (·.2) → L.length + 1 ≤ 76 := fun hnm => by
      have nd2 : (((p :: L) : List Row).map (·.2)).Nodup := by
        rw [List.map_cons]
        exact List.nodup_cons.mpr ⟨hnm, hS.dis⟩
      exact (hd.new hq (List.Perm.refl _)).le nd2 D hD few
    refine put_in (s := { s1 with toks := s1.toks + p.2.draws }) S1 hx room fits fun b h1 L1 es1 ep1 t1 but S2 c1 c2 => ?_
    have g1 : Held ks (i + 1) L1 := by
      by_cases c : p.2 ∈ L.map (·.2)
      · rw [c1 c]; exact hd.old hq c
      · exact hd.new hq (c2 c)
    have kp2 : ∀ b o, g0.get? b = some o → h1.get? b = some o := fun b o e => (but.2 b (fun cz => by rw [cz, freeS] at e; cases e)).trans (kp1 b o e)
    refine wpAny_pure ⟨plainId_quiet F.plain_set_update_loop _, ih (i + 1) _ (by omega) hlt (W.frame _ s1 _ _ hst1 (Nat.le_add_right _ _) fun b hb o e => ?_) kp2 ⟨L1, es1, ep1, t1, S2, g1⟩ fun s2 L2 es2 ep2 t2 hm2 S3 g2 kp3 => ?_⟩
    · rw [but.2 b (fun h : b = S => offF (by rw [← h]; exact hb))]; exact e
    · refine hR s2 L2 es2 ep2 t2 (Moved.trans W.gtrans ((hm.mono wider).then_heap (Nat.le_add_right _ _) fun b o hb e => ?_) hm2) S3 g2 kp3
      rw [but.2 b (fun h : b = S => hb (by rw [h]; exact List.mem_cons_self))]; exact e
set_option maxHeartbeats 3200000 in
/-- set(xs), xs a list of such keys, at most 76 different ones -/
theorem make_set {l : Addr} {items : Array Value} (ks : List Row) {Q : Value → Shared → Prop} (calm : A.handled = none) (hl : s.heap.IsList l items) (eqs : items.toList = ks.map fun p => Value.ref p.1)
    (hk : ∀ p ∈ ks, IsN s.heap p.2 p.1) (D : List NestedKey) (hD : ∀ p ∈ ks, p.2 ∈ D) (few : D.length ≤ 76) (room : A.units + 11 < cLine)
    (h : ∀ (h1 : Heap) (tk : Nat) L es ep t, NSt w h1 s.heap.objs.size L es ep t → Held ks ks.length L → (∀ b o, s.heap.get? b = some o → h1.get? b = some o) → Q (.ref s.heap.objs.size) { s with heap := h1, toks := tk }) :
    wpAny (model P w) A (call (.type "set") [.ref l]) Q E s := by
  have isz : items.size = ks.length := by
    have q := congrArg List.length eqs
    rwa [Array.length_toList, List.length_map] at q
  obtain ⟨c, tl, hmro⟩ := F.called_set.mro
  have f1 := F.called_set.made
  have f2 := F.called_set.sub
  have f3 := F.called_set.notType
  have f4 := F.called_set.canCreate
  have f5 := F.typeCall_set_1 (.ref l)
  refine wpAny_call (codeAny_of_tree ?_)
  show wpAny _ _ (callAny (.type "set") _) _ _ _
  refine wpAny_pure ⟨Code.quiet_builtin _ (by decide +kernel), codeAny_builtin F.entry_type_call ?_⟩
  rw [Around.under_plain (weight_type_call_type "set" [.ref l] []) rfl]
  repeat (any_goals (first | assumption | wp_step))
  refine codeAny_mono (code_set_led1 (.ref l) (E := E) (Q₁ := fun obj s₁ => obj = .ref s.heap.objs.size ∧ s₁ = { s with heap := s.heap.push (freshObj w) }) ⟨rfl, rfl⟩) fun r s₁ hr => ?_
  cases r with
  | error e => exact hr
  | ok fl =>
    cases fl with
    | ret obj =>
      obtain ⟨rfl, rfl⟩ := hr
      have newS : (s.heap.push (freshObj w)).get? s.heap.objs.size = some (freshObj w) := Heap.get?_push_size _ rfl
      have newT : Shared.TypeIs { s with heap := s.heap.push (freshObj w) } (.ref s.heap.objs.size) "set" := ⟨_, newS, rfl⟩
      have f6 := F.called_set.init.lookup
      have f7 := F.called_set.init.bind (.ref s.heap.objs.size)
      repeat (any_goals (first | assumption | wp_step))
      refine codeAny_mono (codeAny_call_builtin (R := wants (fun r s₂ => r = .none ∧ ∃ h1 tk L es ep t, s₂ = { s with heap := h1, toks := tk } ∧ NSt w h1 s.heap.objs.size L es ep t ∧ Held ks ks.length L ∧
          (∀ b o, s.heap.get? b = some o → h1.get? b = some o)) E) F.called_set.init.plain F.entry_set_init (check_set_init_1 newT ?_)) fun r₂ s₂ hr₂ => ?_
      · obtain ⟨ob, gob, cob, nob, dob⟩ := hl
        obtain ⟨ocls, odict, odata, oslots⟩ := ob
        simp only at cob dob
        subst cob; subst dob
        have hol2 : (s.heap.push (freshObj w)).get? l = some { cls := .type "list", dict := odict, data := .seq items nob, slots := oslots } := Heap.get?_push_of_some _ gob
        have f8 := F.sub_list_set
        have f9 := F.sub_list_frozenset
        have nd : (Value.type "list" == Value.type "dict") = false := by decide
        have lst1 : (s.heap.push (freshObj w)).IsList l items := ⟨_, hol2, rfl, nob, rfl⟩
        unfold Builtin.«set.__init__» noKeywords Builtin.Frozenset.updateFrom
        generalize hPI : pyIter = PI
        wp_walk
        subst hPI
        refine wpAny_pyIter_list lst1 ?_
        refine wpAny_bind (wpAny_runValue ?_)
        have small : l < s.heap.objs.size := Heap.lt_size gob
        have calm3 : A.in1.in1.in1.handled = none := by simp [calm]
        have sz1 : (s.heap.push (freshObj w)).objs.size = s.heap.objs.size + 1 := Heap.size_push ..
        have apart : l ≠ (s.heap.push (freshObj w)).objs.size := by rw [sz1]; exact Nat.ne_of_lt (Nat.lt_succ_of_lt small)
        have notIn : s.heap.objs.size ∉ [(s.heap.push (freshObj w)).objs.size, l] := by
          rw [sz1]
          simp only [List.mem_cons, List.not_mem_nil, or_false, not_or]
          exact ⟨Nat.ne_of_lt (Nat.lt_succ_self _), Nat.ne_of_gt small⟩
        have itm : ∀ (i : Nat) (v : Value), items[i]? = some v → ∃ p, ks[i]? = some p ∧ v = .ref p.1 := fun i v hv => by
          have q : items.toList[i]? = some v := by rw [Array.getElem?_toList]; exact hv
          rw [eqs, List.getElem?_map] at q
          cases e : ks[i]? with
          | none => rw [e] at q; cases q
          | some p =>
            rw [e] at q
            exact ⟨p, rfl, (Option.some.inj q).symm⟩
        have nothing : ∀ b, s.heap.objs.size ≤ b → s.heap.get? b = none := fun b hb => by
          cases q : s.heap.get? b with
          | none => rfl
          | some o => exact absurd (Nat.lt_of_lt_of_le (Heap.lt_size q) hb) (Nat.lt_irrefl _)
        refine loop_in ((Walks.list calm3 _ l apart items).toS) s.heap.objs.size notIn ks isz D hD few itm s.heap hk (nothing _ (Nat.le_refl _)) (fun b hb => nothing b (by
            rw [List.mem_singleton.mp hb, sz1]
            exact Nat.le_succ _)) (by first | (show A.units + 1 + 1 + 1 + 8 < cLine; omega) | exact room | (simp [Around.in1] at *; omega)) (items.size - 0) 0 _ (by omega) (Nat.zero_le _)
          ⟨⟨_, Heap.get?_push_size _ rfl, rfl, rfl⟩, (lst1.push _)⟩ (fun b o e => Heap.get?_push_of_some _ (Heap.get?_push_of_some _ e)) ?start ?fin
        case start => exact ⟨[], #[], 0, _, nst_new (Heap.get?_push_of_some _ newS), Held.none ks⟩
        case fin =>
          intro s1 L es ep t hm S1 g1 kp
          obtain ⟨h1, g2, d1, tk1, os1⟩ := s1
          have eg : g2 = s.gens := hm.gens
          have ed : d1 = s.drawn := hm.drawn
          have eo : os1 = s.os := hm.os
          subst eg; subst ed; subst eo
          show wpAny _ _ _ _ _ _
          refine wpAny_pure ?_
          show wpAny _ _ (ret Value.none) _ _ _
          rw [isz] at g1
          exact wpAny_pure ⟨rfl, h1, tk1, L, es, ep, t, rfl, S1, g1, kp⟩
      · cases r₂ with
        | error e => exact hr₂
        | ok fl₂ =>
          cases fl₂ with
          | ret r =>
            obtain ⟨rfl, h1, tk, L, es, ep, t, rfl, S1, g1, kp⟩ := hr₂
            repeat (any_goals (first | assumption | wp_step))
            exact h _ _ _ _ _ _ S1 g1 kp
          | _ => exact hr₂.elim
    | _ => exact hr.elim
end
end Ns
/-! NsSort -/
set_option Elab.async false
set_option linter.all false
set_option maxRecDepth 100000
/-! sorting rows that are tuples of alike data, some of them empty -/
namespace Ns
open PySem PySem.Calls PySem.SeqAt PySem.W PyProof.Rows
section
variable {prog : Program} {w : World} {A : Around} {E : Value → Shared → Prop} {s : Shared}
theorem ask_tuple_lt {Q : Value → Shared → Prop} {l b : Addr} {xs ys : Array Value} {e r : Nat → Bool} {o1 o2 : Obj} {n1 n2 : Nat} (g1 : s.heap.get? l = some o1) (c1 : o1.cls = .type "tuple") (d1 : o1.data = .seq xs n1)
    (g2 : s.heap.get? b = some o2) (c2 : o2.cls = .type "tuple") (d2 : o2.data = .seq ys n2) (he : ∀ j (h1 : j < xs.size) (h2 : j < ys.size), EqAt A.in1 s xs[j] ys[j] (e j)) (hr : ∀ j (h1 : j < xs.size) (h2 : j < ys.size), e j = false → RcLt A.in1 s xs[j] ys[j] (r j))
    (h : Q (.bool (firstLt e r (decide (xs.size < ys.size)) (List.range (min xs.size ys.size)))) s) : wpAny (model prog w) A (call (.builtin "tuple.__lt__") [.ref l, .ref b]) Q E s := by
  obtain ⟨k1, q1, a1, s1⟩ := o1
  obtain ⟨k2, q2, a2, s2⟩ := o2
  simp only at c1 d1 c2 d2
  subst c1 d1 c2 d2
  exact call_meets F.slot_tuple_lt ⟨_, g1, rfl⟩ F.entry_tuple_lt (F.args_tuple_lt_2 _ _) (tuple_ltAt l b xs ys n1 n2 q1 q2 s1 s2 e r) ⟨g1, g2, he, hr, h⟩
/-- one tuple against another, by the type's own word or not -/
theorem row_lt {f : Bool} {ds es : List PyData} {a b : Value} {as bs : List Addr} {Q : Bool → Shared → Prop} (ra : Reads s.heap a (.tuple ds) as) (rb : Reads s.heap b (.tuple es) bs) (h : alike (.tuple ds) (.tuple es) = true)
    (hu : A.units + min (PyData.tuple ds).depth (PyData.tuple es).depth < cLine) (hq : Q (dataLt (.tuple ds) (.tuple es)) s) : wpAny (model prog w) A (oneLt' f a b) Q E s := by
  cases f with
  | false => exact oneLt_alike (fun z => nomatch z) ra rb h (fun z => nomatch z) hu hq
  | true =>
    have hal : alikeAll ds es = true := by simpa [alike] using h
    cases ra with
    | @tuple l o vs n _ _ g1 g2 g3 g4 =>
      cases rb with
      | @tuple m o2 ws n2 _ _ k1 k2 k3 k4 =>
        have z1 : vs.size = ds.length := by simpa using ReadsAll.length _ _ _ g4
        have z2 : ws.size = es.length := by simpa using ReadsAll.length _ _ _ k4
        rw [dataLt_tuple, ← firstLt_toks ds es hal, ← z1, ← z2] at hq
        rw [oneLt'_eq]
        simp only [if_true]
        refine wpAny_bind (wpAny_cRoomFor (room_here hu) ?_)
        refine wpAny_bind (wpAny_callSpecialIfBound?_slot (T := "tuple") ⟨_, g1, g2⟩ F.slot_tuple_lt (ask_tuple_lt (e := pairEq ds es) (r := fun j => dataLt (ds.getD j .none) (es.getD j .none)) g1 g2 g3 k1 k2 k3 (fun j j1 j2 => ?_) (fun j j1 j2 hj => ?_) ?_))
        · have q := eqAt_alikeAll ds es A.in1 s vs.toList ws.toList _ _ g4 k4 hal (room_in hu) j (by simpa using j1) (by simpa using j2)
          simpa using q
        · have q := rcLt_alikeAll ds es A.in1 s vs.toList ws.toList _ _ g4 k4 hal (room_in hu) j (by simpa using j1) (by simpa using j2) hj
          simpa using q
        · exact wpAny_truthy_bool hq
/-- does the tuple have an item -/
def full : PyData → Bool
  | .tuple (_ :: _) => true
  | _ => false
theorem firsts_any {M : Model} : ∀ {vs : List Value} {ds : List PyData} {Q : List (Option Value) → Shared → Prop}, EachIs (fun v d => ∃ as, Reads s.heap v d as) vs ds → (∀ d, d ∈ ds → ∃ xs, d = .tuple xs) →
    (∀ os : List (Option Value), os.map (·.isSome) = ds.map full → Q os s) → wpAny M A (vs.mapM firstOfTuple') Q E s
  | [], _, Q, .nil, _, h => by rw [List.mapM_nil]; exact wpAny_pure (h [] rfl)
  | v :: vs, d :: ds, Q, .cons ⟨as, ra⟩ r, ht, h => by
    obtain ⟨xs, rfl⟩ := ht d List.mem_cons_self
    cases ra with
    | @tuple a o its n _ _ g1 g2 g3 g4 =>
      rw [List.mapM_cons]
      refine wpAny_bind ?_
      rw [kas_first_eq]
      refine wpAny_bind (Looks.here (show Looks M s.heap (typeOf (.ref a)) o.cls from (Looks.ld g1).andThen .now) ?_)
      rw [g2, if_neg (by first | decide | simp)]
      refine wpAny_bind (listItems_at g1 g3 (wpAny_pure ?_))
      refine wpAny_bind (firsts_any r (fun d hd => ht d (List.mem_cons_of_mem _ hd)) fun os e => wpAny_pure (h _ ?_))
      have z : (its[0]?).isSome = full (.tuple xs) := by
        have l := ReadsAll.length _ _ _ g4
        cases xs with
        | nil =>
          have l2 : its.size = 0 := by simpa using l
          rw [Array.getElem?_eq_none (by omega)]
          rfl
        | cons x xs =>
          have l2 : its.size = xs.length + 1 := by simpa using l
          rw [Array.getElem?_eq_getElem (by omega)]
          rfl
      rw [List.map_cons, List.map_cons, e, z]
/-- the kind that sorting finds where a tuple is empty -/
theorem kind_any {M : Model} {v0 : Value} {d0 : PyData} {vs : List Value} {ds : List PyData} {Q : SortKind → Shared → Prop} (e : EachIs (fun v d => ∃ as, Reads s.heap v d as) (v0 :: vs) (d0 :: ds)) (ht : ∀ d, d ∈ d0 :: ds → ∃ xs, d = .tuple xs)
    (hno : (d0 :: ds).all full = false) (h : Q (if full d0 = true then general' else oneType') s) : wpAny M A (keyKind' (v0 :: vs).toArray) Q E s := by
  rw [keyKind'_eq, List.mapM_toArray, map_eq_pure_bind]
  refine wpAny_bind (wpAny_bind (firsts_any e ht fun os ho => wpAny_pure ?_))
  have hall : (os.toArray.all fun x => x.isSome) = false := by
    have q : os.all (fun x => x.isSome) = (d0 :: ds).all full := by
      have z := congrArg (fun l => l.all id) ho
      simpa [List.all_map, Function.comp] using z
    rw [List.all_toArray, q, hno]
  rw [if_neg (by rw [hall]; exact Bool.false_ne_true)]
  cases os with
  | nil => simp at ho
  | cons o1 os =>
    have h1 : o1.isSome = full d0 := by simpa using (List.cons.inj ho).1
    have h2 : (((o1 :: os).toArray)[0]?.bind id).isSome = full d0 := by
      rw [← h1]
      simp
    by_cases hf : full d0 = true
    · rw [if_pos (by rw [h2]; exact hf)]
      rw [if_pos hf] at h
      exact wpAny_pure h
    · rw [if_neg (by rw [h2]; exact hf)]
      rw [if_neg hf] at h
      rw [oneTypeOnly'_eq, List.mapM_toArray, map_eq_pure_bind]
      have ty : ∀ v ∈ v0 :: vs, Looks M s.heap (typeOf v) (.type "tuple") := fun v hv => by
        obtain ⟨d, hd, as, ra⟩ := e.left v hv
        obtain ⟨xs, rfl⟩ := ht d hd
        cases ra with
        | @tuple a o its n _ _ g1 g2 g3 g4 =>
          have q : Looks M s.heap (typeOf (.ref a)) o.cls := (Looks.ld g1).andThen .now
          rw [g2] at q
          exact q
      refine wpAny_bind (wpAny_bind (wpAny_bind (kas_mapM (r := Value.type "tuple") _ (fun v hv Q2 hq => (ty v hv).here hq) (wpAny_pure ?_))))
      have all2 : ((List.map (fun _ => Value.type "tuple") (v0 :: vs)).toArray.all fun x => x == Value.type "tuple") = true := by
        simp only [List.all_toArray, List.all_map, List.all_eq_true]
        intro _ _
        exact beq_self_eq_true _
      have at0 : (List.map (fun _ => Value.type "tuple") (v0 :: vs)).toArray[0]? = some (Value.type "tuple") := by simp
      rw [at0]
      simp only [all2, if_true]
      refine wpAny_pure ?_
      simp only [Option.isSome_some, if_true]
      exact wpAny_pure h
/-- rows can be sorted, empty ones among them -/
theorem rowsSort {vs : List Value} {ds : List PyData} (e : EachIs (fun v d => ∃ as, Reads s.heap v d as) vs ds) (hal : AllAlike ds) (ht : ∀ d, d ∈ ds → ∃ xs, d = .tuple xs) (hu : ∀ d, d ∈ ds → A.units + d.depth < cLine) : SortsAt prog w A s (dataKind s.heap ds) vs := by
  by_cases hne : ds.all full = true
  · refine SortsAt.data e hal (.inl fun d hd => ?_) hu
    obtain ⟨xs, rfl⟩ := ht d hd
    have q := List.all_eq_true.mp hne _ hd
    cases xs with
    | nil => cases q
    | cons x xs => exact ⟨x, xs, rfl⟩
  have hno : ds.all full = false := by simpa using hne
  refine ⟨fun v hv => ?_, ?_⟩
  · obtain ⟨d, hd, as, r⟩ := e.left v hv
    exact ⟨_, dataKind_some hal hd r⟩
  cases e with
  | nil => cases hno
  | @cons v0 d0 vs ds r0 rs =>
    have lt : ∀ f : Bool, ∀ (E : Value → Shared → Prop) (x y : Value) (a b : (dataKind s.heap (d0 :: ds)).α) {Q : Bool → Shared → Prop}, (dataKind s.heap (d0 :: ds)).keyOf x = some a → (dataKind s.heap (d0 :: ds)).keyOf y = some b →
        Q ((dataKind s.heap (d0 :: ds)).blt a b) s → wpAny (model prog w) A (oneLt' f x y) Q E s := by
      intro f E x y a b Q ha hb hq
      obtain ⟨d, as, hd, ra, rfl⟩ := dataKind_inv ha
      obtain ⟨d2, bs, hd2, rb, rfl⟩ := dataKind_inv hb
      have hdd := hal d hd d2 hd2
      have room : A.units + min d.depth d2.depth < cLine := Nat.lt_of_le_of_lt (Nat.add_le_add_left (Nat.min_le_left _ _) _) (hu d hd)
      obtain ⟨xs, rfl⟩ := ht d hd
      obtain ⟨ys, rfl⟩ := ht d2 hd2
      exact row_lt ra rb hdd room hq
    refine ⟨if full d0 = true then general' else oneType', ?_, fun h2 E Q hq => kind_any (.cons r0 rs) ht hno hq⟩
    intro E x y a b Q ha hb hq
    by_cases hf : full d0 = true
    · rw [if_pos hf]
      exact lt false E x y a b ha hb hq
    · rw [if_neg hf, keyLt'_oneType]
      exact lt true E x y a b ha hb hq
end
section
variable {prog : Program} {w : World} {A : Around} {E : Value → Shared → Prop} {s : Shared} {β : Type} {enc : β → PyData} {R : Value → β → Prop} {vs : List Value} {bs : List β}
/-- sorted(xs), xs a list of such rows -/
theorem sorted_rows {l : Addr} {Q : Value → Shared → Prop} (hl : s.heap.IsList l vs.toArray) (e : EachIs R vs bs) (er : EachIs (fun v b => ∃ as, Reads s.heap v (enc b) as) vs bs) (hal : AllAlike (bs.map enc)) (ht : ∀ d, d ∈ bs.map enc → ∃ xs, d = .tuple xs) (hL : bs.length ≤ sizeLine)
    (hu : ∀ b, b ∈ bs → A.units + 2 + (enc b).depth < cLine) (h : ∀ out, out.length = bs.length → EachIs R out (bs.mergeSort (dataLe false enc)) → Q (.ref (s.heap.objs.size + 1)) { s with heap := sortedAll s.heap vs (List.toArray out) }) :
    wpAny (model prog w) A (call (.builtin "sorted") [.ref l]) Q E s := by
  have er2 : EachIs (fun v b => ∃ as, Reads (sortingHeap (copyHeap s.heap vs) (s.heap.objs.size + 1) vs) v (enc b) as) vs bs := er.mono fun _ _ ⟨as, r⟩ => ⟨as, PyProof.Rows.Reads.keeps (fun _ _ => sorting_copy_old) r⟩
  exact sorted_vals hl (rowsSort (s := { s with heap := sortingHeap (copyHeap s.heap vs) (s.heap.objs.size + 1) vs }) (each_map (R := fun v d => ∃ as, Reads (sortingHeap (copyHeap s.heap vs) (s.heap.objs.size + 1) vs) v d as) enc er2) hal ht (bound_map hu)) (by rw [e.length]; exact hL)
    (h _ (by rw [sortVals_length false rfl]; exact e.length) (sortVals_data false e er2 hal))
end
end Ns
/-! NsRow -/
set_option Elab.async false
set_option linter.all false
set_option maxRecDepth 100000
/-! wishes: tuples of pairs of ints; as keys, as data, in the heap; their order -/
namespace Ns
open PySem PySem.Spec PySem.Calls PySem.SeqAt PySem.W PyProof.Rows
abbrev Word : Type := Int × Int
abbrev Wish : Type := List Word
def kWord (p : Word) : NestedKey := .tup [.num p.1, .num p.2]
def kWish (r : Wish) : NestedKey := .tup (r.map kWord)
def dWord (p : Word) : PyData := .tuple [.int p.1, .int p.2]
def dWish (r : Wish) : PyData := .tuple (r.map dWord)
def unWord : NestedKey → Word
  | .tup [.num a, .num b] => (a, b)
  | _ => (0, 0)
def unWish : NestedKey → Wish
  | .tup ks => ks.map unWord
  | _ => []
theorem unWish_k (r : Wish) : unWish (kWish r) = r := by
  show (r.map kWord).map unWord = r
  rw [List.map_map]
  exact (List.map_congr_left fun p _ => rfl).trans (List.map_id r)
theorem kWish_inj {a b : Wish} (h : kWish a = kWish b) : a = b := by rw [← unWish_k a, h, unWish_k]
theorem numK_wish : ∀ r : Wish, numKs (r.map kWord) = true
  | [] => rfl
  | p :: r => by
    show (numK (kWord p) && numKs (r.map kWord)) = true
    rw [numK_wish r]
    rfl
theorem depth_words : ∀ r : Wish, NestedKey.depthAll (r.map kWord) ≤ 1
  | [] => Nat.zero_le _
  | p :: r => by
    have h := depth_words r
    show max (NestedKey.depth (kWord p)) (NestedKey.depthAll (r.map kWord)) ≤ 1
    have z : NestedKey.depth (kWord p) = 1 := rfl
    rw [z]
    exact Nat.max_le.mpr ⟨Nat.le_refl _, h⟩
theorem data_words : ∀ r : Wish, PyData.depthAll (r.map dWord) ≤ 1
  | [] => Nat.zero_le _
  | p :: r => by
    have h := data_words r
    have z : PyData.depth (dWord p) ≤ 1 := by simp [dWord, PyData.depth, PyData.depthAll]
    simp only [List.map_cons, PyData.depthAll]
    exact Nat.max_le.mpr ⟨z, h⟩
theorem data_wish (r : Wish) : (dWish r).depth ≤ 2 := by
  have h := data_words r
  simp only [dWish, PyData.depth]
  omega
/-! in the heap -/
def WordAt (h : Heap) (v : Value) (p : Word) : Prop := ∃ (a : Addr) (o : Obj) (t1 t2 : Tok) (n : Nat), v = .ref a ∧ h.get? a = some o ∧ o.cls = .type "tuple" ∧ o.data = .seq #[.int p.1 t1, .int p.2 t2] n
def WishAt (h : Heap) (a : Addr) (r : Wish) : Prop := ∃ (o : Obj) (vs : Array Value) (n : Nat), h.get? a = some o ∧ o.cls = .type "tuple" ∧ o.data = .seq vs n ∧ EachIs (WordAt h) vs.toList r
theorem WordAt.keep {h h1 : Heap} (k : ∀ b o, h.get? b = some o → o.cls = .type "tuple" → h1.get? b = some o) {v : Value} {p : Word} (x : WordAt h v p) : WordAt h1 v p := by
  obtain ⟨a, o, t1, t2, n, e, g, c, d⟩ := x
  exact ⟨a, o, t1, t2, n, e, k a o g c, c, d⟩
theorem WishAt.keep {h h1 : Heap} (k : ∀ b o, h.get? b = some o → o.cls = .type "tuple" → h1.get? b = some o) {a : Addr} {r : Wish} (x : WishAt h a r) : WishAt h1 a r := by
  obtain ⟨o, vs, n, g, c, d, e⟩ := x
  exact ⟨o, vs, n, k a o g c, c, d, e.mono fun v p q => q.keep k⟩
theorem words_key {h : Heap} : ∀ {vs : List Value} {r : Wish}, EachIs (WordAt h) vs r → NestedAll h (r.map kWord) vs
  | _, _, .nil => .nil
  | _, _, .cons ⟨a, o, t1, t2, n, e, g, c, d⟩ q => by
    subst e
    exact .cons (.tup g c d (.cons (.int _ _) (.cons (.int _ _) .nil))) (words_key q)
theorem words_data {h : Heap} : ∀ {vs : List Value} {r : Wish}, EachIs (WordAt h) vs r → ∃ as, ReadsAll h vs (r.map dWord) as
  | _, _, .nil => ⟨[], .nil⟩
  | _, _, .cons ⟨a, o, t1, t2, n, e, g, c, d⟩ q => by
    subst e
    obtain ⟨as, z⟩ := words_data q
    exact ⟨_, .cons (.tuple g c d (.cons (.int _ _) (.cons (.int _ _) .nil))) z⟩
theorem WishAt.key {h : Heap} {a : Addr} {r : Wish} (x : WishAt h a r) : IsN h (kWish r) a := by
  obtain ⟨o, vs, n, g, c, d, e⟩ := x
  refine ⟨.tup g c d (words_key e), ?_, numK_wish r⟩
  have q := depth_words r
  show NestedKey.depthAll (r.map kWord) + 1 ≤ 8
  omega
theorem WishAt.data {h : Heap} {a : Addr} {r : Wish} (x : WishAt h a r) : ∃ as, Reads h (.ref a) (dWish r) as := by
  obtain ⟨o, vs, n, g, c, d, e⟩ := x
  obtain ⟨as, z⟩ := words_data e
  exact ⟨as, .tuple g c d z⟩
theorem WishAt.inj {h : Heap} {a : Addr} {r q : Wish} (x : WishAt h a r) (y : WishAt h a q) : r = q := kWish_inj (x.key.inj y.key)
/-! their order -/
theorem alike_words : ∀ a b : Wish, alikeAll (a.map dWord) (b.map dWord) = true
  | [], [] => rfl
  | [], _ :: _ => rfl
  | _ :: _, [] => rfl
  | p :: a, q :: b => by
    show (alike (dWord p) (dWord q) && alikeAll (a.map dWord) (b.map dWord)) = true
    rw [alike_words a b]
    rfl
theorem alike_wish (a b : Wish) : alike (dWish a) (dWish b) = true := by
  show alikeAll (a.map dWord) (b.map dWord) = true
  exact alike_words a b
/-- a before b -/
def wlt (a b : Wish) : Bool := dataLt (dWish a) (dWish b)
theorem toks_words : ∀ a b : Wish, keyToksAll (a.map dWord) = keyToksAll (b.map dWord) → a = b
  | [], [], _ => rfl
  | [], q :: b, h => by simp [keyToksAll] at h
  | p :: a, [], h => by simp [keyToksAll] at h
  | p :: a, q :: b, h => by
    simp only [List.map_cons, keyToksAll, dWord, keyToks, List.cons_append, List.nil_append, List.append_assoc, List.cons.injEq, Sum.inl.injEq, true_and] at h
    obtain ⟨h1, h2, h3⟩ := h
    rw [toks_words a b h3]
    exact congrArg (· :: b) (Prod.ext h1 h2)
theorem wlt_self (a : Wish) : wlt a a = false := lex_irrefl _
theorem wlt_trans {a b c : Wish} (h1 : wlt a b = true) (h2 : wlt b c = true) : wlt a c = true := lex_trans _ _ _ h1 h2
theorem wlt_total {a b : Wish} (h1 : wlt a b = false) (h2 : wlt b a = false) : a = b := toks_words a b (lex_total _ _ h1 h2)
theorem wlt_le {a b : Wish} (h : wlt b a = false) : wlt a b = true ∨ a = b := by
  cases e : wlt a b with
  | true => exact .inl rfl
  | false => exact .inr (wlt_total e h)
/-- rows in ascending order, each once -/
abbrev Asc (l : List Wish) : Prop := l.Pairwise fun a b => wlt a b = true
theorem Asc.nodup {l : List Wish} (h : Asc l) : l.Nodup := h.imp fun {a b} q e => by rw [e, wlt_self] at q; cases q
theorem Asc.uniq : ∀ {l m : List Wish}, Asc l → Asc m → (∀ x, x ∈ l ↔ x ∈ m) → l = m
  | [], [], _, _, _ => rfl
  | [], y :: m, _, _, h => by have := (h y).mpr List.mem_cons_self; cases this
  | x :: l, [], _, _, h => by have := (h x).mp List.mem_cons_self; cases this
  | x :: l, y :: m, hl, hm, h => by
    obtain ⟨l1, l2⟩ := List.pairwise_cons.mp hl
    obtain ⟨m1, m2⟩ := List.pairwise_cons.mp hm
    have e : x = y := by
      rcases List.mem_cons.mp ((h x).mp List.mem_cons_self) with z | z
      · exact z
      rcases List.mem_cons.mp ((h y).mpr List.mem_cons_self) with q | q
      · exact q.symm
      have c := wlt_trans (m1 x z) (l1 y q)
      rw [wlt_self] at c
      cases c
    subst e
    refine congrArg (x :: ·) (Asc.uniq l2 m2 fun z => ⟨fun hz => ?_, fun hz => ?_⟩)
    · rcases List.mem_cons.mp ((h z).mp (List.mem_cons_of_mem _ hz)) with q | q
      · have c := l1 z hz
        rw [q, wlt_self] at c
        cases c
      · exact q
    · rcases List.mem_cons.mp ((h z).mpr (List.mem_cons_of_mem _ hz)) with q | q
      · have c := m1 z hz
        rw [q, wlt_self] at c
        cases c
      · exact q
section
variable {β : Type} (f : β → Wish)
/-- what mergeSort leaves of items with different rows -/
theorem merged {l : List β} (nd : (l.map f).Nodup) : (l.mergeSort (dataLe false fun b => dWish (f b))).Perm l ∧ Asc ((l.mergeSort (dataLe false fun b => dWish (f b))).map f) := by
  have pm := List.mergeSort_perm l (dataLe false fun b => dWish (f b))
  refine ⟨pm, ?_⟩
  have tr : ∀ a b c : β, dataLe false (fun b => dWish (f b)) a b = true → dataLe false (fun b => dWish (f b)) b c = true → dataLe false (fun b => dWish (f b)) a c = true := by
    intro a b c h1 h2
    have e1 : wlt (f b) (f a) = false := by simpa [dataLe_eq, wlt] using h1
    have e2 : wlt (f c) (f b) = false := by simpa [dataLe_eq, wlt] using h2
    have e3 : wlt (f c) (f a) = false := by
      cases e : wlt (f c) (f a) with
      | false => rfl
      | true =>
        rcases wlt_le e1 with z | z
        · rw [wlt_trans e z] at e2; cases e2
        · rw [z, e2] at e; cases e
    simpa [dataLe_eq, wlt] using e3
  have to : ∀ a b : β, (dataLe false (fun b => dWish (f b)) a b || dataLe false (fun b => dWish (f b)) b a) = true := by
    intro a b
    cases e : wlt (f b) (f a) with
    | false =>
      have z : dataLe false (fun b => dWish (f b)) a b = true := by simpa [dataLe_eq, wlt] using e
      rw [z]; rfl
    | true =>
      have z : wlt (f a) (f b) = false := by
        cases e2 : wlt (f a) (f b) with
        | false => rfl
        | true =>
          have c := wlt_trans e e2
          rw [wlt_self] at c; cases c
      have z2 : dataLe false (fun b => dWish (f b)) b a = true := by simpa [dataLe_eq, wlt] using z
      rw [z2]
      simp
  have srt := List.pairwise_mergeSort tr to l
  have nd2 : ((l.mergeSort (dataLe false fun b => dWish (f b))).map f).Nodup := (pm.map f).nodup_iff.mpr nd
  have both := srt.and (List.pairwise_map.mp nd2)
  refine List.pairwise_map.mpr (both.imp fun {a b} h => ?_)
  have e1 : wlt (f b) (f a) = false := by simpa [dataLe_eq, wlt] using h.1
  rcases wlt_le e1 with z | z
  · exact z
  · exact absurd z h.2
end
end Ns
/-! NsRule -/
set_option Elab.async false
set_option linter.all false
set_option maxRecDepth 100000
set_option maxHeartbeats 2000000
namespace Ns
open PySem PySem.Spec PySem.Calls PySem.SeqAt PySem.W PyProof.Rows L2
abbrev WRow : Type := Addr × Wish
def asKey (p : WRow) : Row := (p.1, kWish p.2)
theorem perm_back {α β : Type} (g : α → β) {vs ws : List β} (h : vs.Perm ws) : ∀ l : List α, ws = l.map g → ∃ m : List α, m.Perm l ∧ vs = m.map g := by
  induction h with
  | nil =>
    intro l e
    cases l with
    | nil => exact ⟨[], List.Perm.refl _, rfl⟩
    | cons y l => cases e
  | cons x _ ih =>
    intro l e
    cases l with
    | nil => cases e
    | cons y l =>
      obtain ⟨e1, e2⟩ := List.cons.inj e
      obtain ⟨m, hm, e3⟩ := ih l e2
      exact ⟨y :: m, hm.cons y, by rw [List.map_cons, e1, e3]⟩
  | swap x y t =>
    intro l e
    cases l with
    | nil => cases e
    | cons a l =>
      cases l with
      | nil => cases (List.cons.inj e).2
      | cons b l =>
        obtain ⟨e1, e2⟩ := List.cons.inj e
        obtain ⟨e3, e4⟩ := List.cons.inj e2
        exact ⟨b :: a :: l, List.Perm.swap a b l, by rw [List.map_cons, List.map_cons, e1, e3, e4]⟩
  | trans _ _ ih1 ih2 =>
    intro l e
    obtain ⟨m, hm, e1⟩ := ih2 l e
    obtain ⟨n, hn, e2⟩ := ih1 m e1
    exact ⟨n, hn.trans hm, e2⟩
theorem each_self {α : Type} {R : Value → α → Prop} (g : α → Value) : ∀ l : List α, (∀ x ∈ l, R (g x) x) → EachIs R (l.map g) l
  | [], _ => .nil
  | x :: l, h => .cons (h x List.mem_cons_self) (each_self g l fun y hy => h y (List.mem_cons_of_mem _ hy))
theorem each_refs {α : Type} (g : α → Value) : ∀ {vs : List Value} {l : List α}, EachIs (fun v x => v = g x) vs l → vs = l.map g
  | _, _, .nil => rfl
  | _, _, .cons e q => by rw [e, each_refs g q, List.map_cons]
section
variable {P : Program} {w : World} {A : Around} {E : Value → Shared → Prop} {s : Shared}
/-- sorted(set) of wishes -/
theorem sorted_nset {a : Addr} {M : List WRow} {es : Array (Int × Value)} {ep : Nat} {t : SetTable} {Q : Value → Shared → Prop} (S : NSt w s.heap a (M.map asKey) es ep t) (hh : A.handled = none) (hk : ∀ p ∈ M, WishAt s.heap p.1 p.2) (hu : A.units + 4 < cLine)
    (hQ : ∀ s1 p (out : Array Value) (c : Nat) (N : List WRow), (∀ b o, s.heap.get? b = some o → s1.heap.get? b = some o) → s1.gens = s.gens → s1.os = s.os → s.heap.objs.size ≤ p →
      s1.heap.get? p = some (seqObj "list" out c) → out.toList = N.map (fun q => Value.ref q.1) → N.Perm M → Asc (N.map (·.2)) → Q (.ref p) s1) :
    wpAny (model P w) A (call (.builtin "sorted") [.ref a]) Q E s := by
  obtain ⟨o, ho, hex, hd⟩ := S.obj
  have few := S.few
  have hl := rows_len S.row
  rw [List.length_map] at hl few
  have small : es.size < scanBound := by unfold scanBound; omega
  have ats : SetAt s.heap a es ep t := ⟨o, ho, hex.1, hd⟩
  refine Calls.call_function_entry kind_sorted plain_sorted entry_sorted (args_sorted1 _) ?_
  unfold Builtin.«sorted»
  refine wpAny_bind (m := checkCount "sorted" 1 1 _) (wpAny_pure ?_)
  refine wpAny_bind (collect_set (A := A.in1) hh ats S.fit small S.tab.ris S.ld fun s1 vs k1 hz g1 o1 pm => ?_)
  have hes : es.toList.map (·.2) = M.map fun q => Value.ref q.1 := by
    rw [S.row]
    unfold rw' asKey
    rw [List.map_map, List.map_map] <;> rfl
  rw [hes] at pm
  obtain ⟨M0, pm0, e0⟩ := perm_back _ pm M rfl
  subst e0
  have len0 : (M0.map fun q => Value.ref q.1).length ≤ 76 := by
    rw [List.length_map, pm0.length_eq]
    exact few
  have nd : (M0.map (·.2)).Nodup := by
    refine (pm0.map (·.2)).nodup_iff.mpr ?_
    have q := S.dis
    rw [List.map_map] at q
    have q2 : ((M.map (·.2)).map kWish).Nodup := by rw [List.map_map]; exact q
    exact nodup_of_map q2
  refine wpAny_bind (wpAny_newList ?_ (by rw [sizeLine_eq]; omega))
  have hoL : (s1.heap.push (seqObj "list" (M0.map fun q => Value.ref q.1).toArray 0)).get? s1.heap.objs.size = some (seqObj "list" (M0.map fun q => Value.ref q.1).toArray 0) := Heap.get?_push_size _ rfl
  have kept : ∀ p ∈ M0, WishAt (sortingHeap (s1.heap.push (seqObj "list" (M0.map fun q => Value.ref q.1).toArray 0)) s1.heap.objs.size (M0.map fun q => Value.ref q.1)) p.1 p.2 := fun p hp =>
    (hk p (pm0.mem_iff.mp hp)).keep fun b u e _ => by
      have q := k1 b u e
      exact sortingHeap_old (Nat.ne_of_lt (Heap.lt_size q)) (Heap.get?_push_of_some _ q)
  have reads : EachIs (fun v (b : WRow) => ∃ as, Reads (sortingHeap (s1.heap.push (seqObj "list" (M0.map fun q => Value.ref q.1).toArray 0)) s1.heap.objs.size (M0.map fun q => Value.ref q.1)) v (dWish b.2) as) (M0.map fun q => Value.ref q.1) M0 :=
    each_self _ _ fun p hp => (kept p hp).data
  have alike_all : AllAlike (M0.map fun b => dWish b.2) := AllAlike.of fun a b => alike_wish a.2 b.2
  refine wpAny_bind (wpAny_holding (wpAny_call_entry slot_list_sort ⟨_, hoL, rfl⟩ entry_list_sort (list_sort_vals (κ := dataKind (sortingHeap (s1.heap.push (seqObj "list" (M0.map fun q => Value.ref q.1).toArray 0)) s1.heap.objs.size (M0.map fun q => Value.ref q.1)) (M0.map fun b => dWish b.2)) hoL
    (rowsSort (s := { s1 with heap := sortingHeap (s1.heap.push (seqObj "list" (M0.map fun q => Value.ref q.1).toArray 0)) s1.heap.objs.size (M0.map fun q => Value.ref q.1) }) (each_map (R := fun v d => ∃ as, Reads (sortingHeap (s1.heap.push (seqObj "list" (M0.map fun q => Value.ref q.1).toArray 0)) s1.heap.objs.size (M0.map fun q => Value.ref q.1)) v d as) (fun b : WRow => dWish b.2) reads) alike_all (fun d hd => ?_) (fun d hd => ?_))
    (by rw [sizeLine_eq]; omega) ⟨.none, rfl, ?_⟩) (args_list_sort _)))
  · obtain ⟨b, _, rfl⟩ := List.mem_map.mp hd
    exact ⟨_, rfl⟩
  · obtain ⟨b, _, rfl⟩ := List.mem_map.mp hd
    have q := data_wish b.2
    show A.units + 1 + 1 + (dWish b.2).depth < cLine
    omega
  · have out := sortVals_data (h' := sortingHeap (s1.heap.push (seqObj "list" (M0.map fun q => Value.ref q.1).toArray 0)) s1.heap.objs.size (M0.map fun q => Value.ref q.1)) (R := fun v (b : WRow) => v = Value.ref b.1) (enc := fun b : WRow => dWish b.2) false (each_self _ _ fun p _ => rfl) reads alike_all
    have e1 := each_refs _ out
    obtain ⟨pm2, asc⟩ := merged (fun b : WRow => b.2) nd
    generalize M0.mergeSort (dataLe false fun b => dWish b.2) = N at out e1 pm2 asc
    rw [e1]
    obtain ⟨c, hc⟩ := sortedHeap_at (vs := M0.map fun q => Value.ref q.1) (out := (N.map fun q => Value.ref q.1).toArray) hoL
    refine wpAny_pure ⟨_, rfl, hQ _ s1.heap.objs.size _ c N (fun b u e => ?_) g1 o1 hz hc (by simp) (pm2.trans pm0) asc⟩
    have q := k1 b u e
    have hlt := Heap.lt_size q
    show (sortedHeap (s1.heap.push (seqObj "list" (M0.map fun q => Value.ref q.1).toArray 0)) s1.heap.objs.size _ _).get? b = some u
    rw [sortedHeap_old (Nat.ne_of_lt hlt) (by rw [size_push']; exact Nat.lt_succ_of_lt hlt)]
    exact Heap.get?_push_of_some _ q
end
end Ns
/-! NsHp -/
set_option Elab.async false
set_option linter.all false
set_option maxRecDepth 100000
set_option maxHeartbeats 2000000
namespace Ns
open PySem PySem.Spec PySem.Calls PySem.SeqAt PySem.W PyProof.Rows L2
/-! the same in the layer's heap -/
def WordH (K : PySem.W.Frag) (H : Hp) (x : V) (p : Word) : Prop := ∃ a, x = .ref a ∧ H a = some (.tup [.int p.1, .int p.2])
def WishH (K : PySem.W.Frag) (H : Hp) (a : Addr) (r : Wish) : Prop := ∃ xs, SqT K H a xs ∧ EachV (WordH K H) xs r
where
  EachV (R : V → Word → Prop) : List V → Wish → Prop
  | [], [] => True
  | x :: xs, p :: r => R x p ∧ EachV R xs r
  | _, _ => False
structure NSet0 (w : World) (h : Heap) (a : Addr) (L : List Row) : Prop where
  ex : ∃ (es : Array (Int × Value)) (ep : Nat) (t : SetTable), (∃ o, h.get? a = some o ∧ o.ExactSet ∧ o.data = .set es ep t) ∧ es.toList = rw' w L ∧ TabOk t (hsh w L) ∧ (L.map (·.2)).Nodup ∧ t.plain = true ∧
    (w.params.followText "set-order" = true ∨ t.led = true) ∧ L.length * 5 < t.mask * 3
def NSetO (w : World) (a : Addr) (L : List Row) : HO := .ext fun h => NSet0 w h a L
theorem NSt.bare {w : World} {h : Heap} {a : Addr} {L : List Row} {es : Array (Int × Value)} {ep : Nat} {t : SetTable} (S : NSt w h a L es ep t) : NSet0 w h a L := ⟨es, ep, t, S.obj, S.row, S.tab, S.dis, S.pl, S.ld, S.rm⟩
theorem NSet0.full {w : World} {h : Heap} {a : Addr} {L : List Row} (S : NSet0 w h a L) (hk : ∀ p ∈ L, IsN h p.2 p.1) : ∃ es ep t, NSt w h a L es ep t := by
  obtain ⟨es, ep, t, h1, h2, h3, h4, h5, h6, h7⟩ := S.ex
  exact ⟨es, ep, t, h1, h2, h3, h4, hk, h5, h6, h7⟩
theorem nset_ok {P : Program} {w : World} {H : Hp} {h : Heap} {a : Addr} {L : List Row} (S : NSet0 w h a L) : ObjOk P w H h a (NSetO w a L) := by
  have ⟨es, ep, t, ⟨o, ho, r⟩, q⟩ := S.ex
  refine ⟨S, ⟨o, ho⟩, fun h1 h2 p k => ?_⟩
  have ⟨es2, ep2, t2, ⟨o2, ho2, r2⟩, q2⟩ := NSet0.ex p
  exact ⟨es2, ep2, t2, ⟨o2, k o2 ho2, r2⟩, q2⟩
theorem refs_v {α : Type} (g : α → Addr) : ∀ {l : List α} {us : List Value}, Vals (l.map fun p => V.ref (g p)) us → us = l.map fun p => Value.ref (g p)
  | [], _, .nil => rfl
  | p :: l, _, .cons r q => by
    cases r
    rw [refs_v g q] <;> rfl
theorem v_refs {α : Type} (g : α → Addr) : ∀ l : List α, Vals (l.map fun p => V.ref (g p)) (l.map fun p => Value.ref (g p))
  | [] => .nil
  | p :: l => .cons rfl (v_refs g l)
section
variable {X : Cx} {pins : List (Addr × Obj)} {σ : L2.St} {H : Hp} {s : Shared}
theorem word_at (I : Inv X pins σ H s) {x : V} {u : Value} {p : Word} (h : WordH X.K H x p) (r : RelV x u) : WordAt s.heap u p := by
  obtain ⟨a, rfl, hT0⟩ := h
  have hT : SqT X.K H a [.int p.1, .int p.2] := SqT.of hT0
  obtain rfl : u = Value.ref a := r
  obtain ⟨its, rv, ⟨o, ho, hc, n, hd⟩, _⟩ := I.tuple hT
  obtain ⟨u1, u2, rfl, ⟨t1, rfl⟩, ⟨t2, rfl⟩⟩ := vals2 rv
  exact ⟨a, o, t1, t2, n, rfl, ho, hc, hd⟩
theorem words_at (I : Inv X pins σ H s) : ∀ {xs : List V} {us : List Value} {r : Wish}, WishH.EachV (WordH X.K H) xs r → Vals xs us → EachIs (WordAt s.heap) us r
  | [], _, [], _, .nil => .nil
  | [], _, _ :: _, h, _ => h.elim
  | _ :: _, _, [], h, _ => h.elim
  | x :: xs, _, p :: r, h, .cons rx rr => .cons (word_at I h.1 rx) (words_at I h.2 rr)
theorem wish_at (I : Inv X pins σ H s) {a : Addr} {r : Wish} (h : WishH X.K H a r) : WishAt s.heap a r := by
  obtain ⟨xs, hT, he⟩ := h
  obtain ⟨its, rv, ⟨o, ho, hc, n, hd⟩, _⟩ := I.tuple hT
  exact ⟨o, its.toArray, n, ho, hc, hd, by simpa using words_at I he rv⟩
/-- set(xs), xs a list of wishes, at most 76 different ones -/
def rSetW (K : PySem.W.Frag) (w : World) : List V → Hp → VK → Prop := fun xs H Q => ∃ (l : Addr) (rs : List WRow) (D : List Wish), xs = [V.ref l] ∧ SqL K H l (rs.map fun p => V.ref p.1) ∧ (∀ p ∈ rs, WishH K H p.1 p.2) ∧ (∀ p ∈ rs, p.2 ∈ D) ∧ D.length ≤ 76 ∧
  ∀ a (M : List WRow), H a = none → (∀ p ∈ M, p ∈ rs) → (∀ p ∈ rs, p.2 ∈ M.map (·.2)) → Q (.ref a) (upd H a (NSetO w a (M.map asKey)))
theorem unrow {rs : List WRow} {L : List Row} (h : ∀ p ∈ L, p ∈ rs.map asKey) : ∃ M : List WRow, L = M.map asKey ∧ ∀ p ∈ M, p ∈ rs := by
  induction L with
  | nil => exact ⟨[], rfl, fun p hp => nomatch hp⟩
  | cons q L ih =>
    obtain ⟨M, e, hM⟩ := ih fun p hp => h p (List.mem_cons_of_mem _ hp)
    obtain ⟨p, hp, ep⟩ := List.mem_map.mp (h q List.mem_cons_self)
    refine ⟨p :: M, by rw [List.map_cons, ep, e], fun z hz => ?_⟩
    rcases List.mem_cons.mp hz with c | c
    · rw [c]; exact hp
    · exact hM z c
theorem cr_setW (hc : X.calm = true) (hu : X.A.units + 64 < cLine) : CallR X (.type "set") (rSetW X.K X.w) := by
  intro pins s σ H xs us Q I r h
  obtain ⟨l, rs, D, rfl, hl, hk, hD, few, q⟩ := h
  rw [Vals.ref1 r]
  obtain ⟨its, rv, pl, hz⟩ := I.list hl
  have hn : H s.heap.objs.size = none := I.hok.fresh (Nat.le_refl _)
  refine make_set (P := X.prog) (w := X.w) (rs.map asKey) (I.ok.hd hc) pl.isList (by rw [List.map_map]; have z := refs_v (fun p : WRow => p.1) rv; simp only [List.toList_toArray] at z ⊢; exact z) (fun p hp => ?_) (D.map kWish) (fun p hp => ?_) (by rw [List.length_map]; exact few) (by omega) fun h1 tk L es ep t S g k => ?_
  · obtain ⟨p0, hp0, rfl⟩ := List.mem_map.mp hp
    exact (wish_at I (hk p0 hp0)).key
  · obtain ⟨p0, hp0, rfl⟩ := List.mem_map.mp hp
    exact List.mem_map.mpr ⟨p0.2, hD p0 hp0, rfl⟩
  · obtain ⟨M, rfl, hM⟩ := unrow fun p hp => List.mem_of_mem_take (g.sub p hp)
    refine ⟨.ref s.heap.objs.size, upd H s.heap.objs.size (NSetO X.w s.heap.objs.size (M.map asKey)), I.laid (t' := tk) k (Nat.le_refl _) (nset_ok S.bare), rfl, q _ M hn hM fun p hp => ?_⟩
    have z := g.all (asKey p) (by rw [List.take_length]; exact List.mem_map.mpr ⟨p, hp, rfl⟩)
    rw [List.map_map] at z
    obtain ⟨m, hm, e⟩ := List.mem_map.mp z
    exact List.mem_map.mpr ⟨m, hm, kWish_inj e⟩
/-- sorted(set) of wishes -/
def rSortSetW (K : PySem.W.Frag) (w : World) : List V → Hp → VK → Prop := fun vs H Q => ∃ (a : Addr) (M : List WRow), vs = [V.ref a] ∧ H a = some (NSetO w a (M.map asKey)) ∧ (∀ p ∈ M, WishH K H p.1 p.2) ∧
  ∀ (N : List WRow) (p : Addr), N.Perm M → Asc (N.map (·.2)) → N.length ≤ 76 → H p = none → Q (.ref p) (upd H p (.lst (N.map fun q => V.ref q.1)))
theorem cr_sortSetW (hc : X.calm = true) (hu : X.A.units + 64 < cLine) : CallR X (.builtin "sorted") (rSortSetW X.K X.w) := by
  intro pins s σ H vs us Q I r h
  obtain ⟨a, M, rfl, ha, hk, q⟩ := h
  have S0 : NSet0 X.w s.heap a (M.map asKey) := (I.hok a _ ha).1
  obtain ⟨es, ep, t, S⟩ := S0.full fun p hp => by
    obtain ⟨p0, hp0, rfl⟩ := List.mem_map.mp hp
    exact (wish_at I (hk p0 hp0)).key
  have few := S.few
  rw [List.length_map] at few
  rw [Vals.ref1 r]
  refine sorted_nset S (I.ok.hd hc) (fun p hp => wish_at I (hk p hp)) (by omega) fun s1 p out c N k g o hp hg hout pm asc => ?_
  have hlen : (N.map fun q => V.ref q.1).length ≤ sizeLine := by rw [List.length_map, pm.length_eq, sizeLine_eq]; omega
  have hn : H p = none := I.hok.fresh hp
  have hv : Vals (N.map fun q => V.ref q.1) out.toList := by rw [hout]; exact v_refs (fun q : WRow => q.1) N
  have J : Inv X pins σ (upd H p (.lst (N.map fun q => V.ref q.1))) { s with heap := s1.heap, gens := s1.gens, drawn := s1.drawn, toks := s1.toks } :=
    I.call (ch := []) (Un.laid k hp hn) (I.hok.laid k hp ⟨hlen, out.toList, c, hv, hg⟩) (by rw [g]; exact I.bare) (fun _ z => nomatch z)
  have e : s1 = { s with heap := s1.heap, gens := s1.gens, drawn := s1.drawn, toks := s1.toks } := by
    cases s1
    cases s
    cases o
    rfl
  refine ⟨.ref p, _, by rw [e]; exact J, rfl, q N p pm asc (by rw [pm.length_eq]; exact few) hn⟩
end
end Ns
/-! NsMerge -/
set_option Elab.async false
set_option linter.all false
set_option maxRecDepth 100000
set_option maxHeartbeats 2000000
namespace PySem
open Sem (wp)
open PyProof.Rows
section
variable {prog : Program} {w : World} {K : Type} [DecidableEq K] {knd : KeyKind prog w K} {A : Around} {E : Value → Shared → Prop} {s : Shared}
theorem ns_dictPut {d : Addr} {kvs : List (K × Value)} {k : K} {key v : Value} {Q : Unit → Shared → Prop} (hkey : knd.is k key = true) (hm : s.heap.DictOf knd d kvs)
    (hQ : ∀ h', h'.DictOf knd d (stored kvs k v) → Heap.SameBut d s.heap h' → Q () { s with heap := h' })
    (hsz : kvs.length ≤ sizeLine := by size_fits) :
    wpAny (model prog w) A (dictPut d (knd.hash k) key v) Q E s := by
  obtain ⟨o, es, ep, ho, hc, hd, hk, hp, hn⟩ := hm
  have hes : es.size ≤ sizeLine := by
    have e1 := hp.length
    have e2 : es.toList.length = es.size := by simp
    omega
  unfold dictPut
  refine wpAny_bind (wpAny_dictFind_of hkey ho hd hk ?_)
  have hidx : (es.findIdx? fun e => knd.is k e.key) = kvs.findIdx? fun kv => decide (kv.1 = k) := by
    rw [← hp.findIdx k]; obtain ⟨l⟩ := es; simp
  cases hi : es.findIdx? fun e => knd.is k e.key with
  | some i =>
    refine wpAny_updateDict ho hd (hQ _ ⟨_, _, ep, Heap.get?_update_self _ ho (Obj.isFreed_of_dict (Obj.data_mapDict hd _)),
      hc.mapDict _, Obj.data_mapDict hd _, hk.modify _ _, ?_, ?_⟩ (Heap.SameBut.update ..))
    · rw [stored, if_pos (any_of_findIdx_some (hidx ▸ hi))]
      have hl : (es.toList.findIdx? fun e => knd.is k e.key) = some i := by rw [← hi]; obtain ⟨l⟩ := es; simp
      have := hp.modify hn hl v
      obtain ⟨l⟩ := es
      simpa using this
    · rw [stored, if_pos (any_of_findIdx_some (hidx ▸ hi)), keys_map_store]; exact hn
  | none =>
    have hnot : k ∉ kvs.map (·.1) := not_mem_of_findIdx_none (hidx ▸ hi)
    have hany : ¬ (kvs.any fun kv => decide (kv.1 = k)) = true := by
      rw [List.any_eq_true]; rintro ⟨kv, hkv, he⟩
      exact hnot (List.mem_map.mpr ⟨kv, hkv, of_decide_eq_true he⟩)
    refine wpAny_updateDictKeys (hz := hes) ho hd (hQ _ ⟨_, _, ep + 1, Heap.get?_update_self _ ho (Obj.isFreed_of_dict (Obj.data_mapDictKeys hd _)),
      hc.mapDictKeys _, Obj.data_mapDictKeys hd _, hk.push hkey _, ?_, ?_⟩ (Heap.SameBut.update ..))
    · rw [stored, if_neg hany]
      have := hp.append hkey (knd.hash k) v
      obtain ⟨l⟩ := es
      simpa using this
    · rw [stored, if_neg hany, List.map_append, List.nodup_append]
      refine ⟨hn, by simp, ?_⟩
      intro a ha b hb
      simp only [List.map_cons, List.map_nil, List.mem_singleton] at hb
      subst hb
      exact fun e => hnot (e ▸ ha)
theorem ns_merge {d o : Addr} {kvs more : List (K × Value)} {Q : Unit → Shared → Prop} (hv : ∀ k v, knd.is k v = true → carriedByValue v = true) (hdo : d ≠ o) (hoS : (o == sysModules) = false)
    (hd : s.heap.DictOf knd d kvs) (ho : s.heap.DictOf knd o more)
    (hQ : ∀ h', h'.DictOf knd d (merged kvs more) → h'.DictOf knd o more → Heap.SameBut d s.heap h' → Q () { s with heap := h' })
    (hsz : kvs.length + more.length ≤ sizeLine := by size_fits) :
    wpAny (model prog w) A (mergeMapping d (.ref o) false) Q E s := by
  obtain ⟨od, esd, epd, hod, hcd, hdd, hkd, hpd, hnd⟩ := id hd
  obtain ⟨oo, eso, epo, hoo, hco, hdo', hko, hpo, hno⟩ := id ho
  unfold mergeMapping
  refine wpAny_bind (wpAny_isInstance ho.typeIs (b := true) (by kernel_rfl) ?_)
  have loop : wpAny (model prog w) A (do
      let __do_lift ← dictEntries o
      let size : Nat := __do_lift.size
      let epoch ← dictEpoch o
      forIn (List.range size) PUnit.unit fun i (_ : PUnit) => (do
          let l' ← dictEntries o
          match l'[i]? with
            | some e => do
              holding [e.key, e.val] (dictPut d e.hash e.key e.val)
              let ep' ← dictEpoch o
              if (ep' != epoch) = true then do
                  (unsupported "dict.changed-during-merge" : Sem PUnit)
                  pure (ForInStep.yield PUnit.unit)
                else pure (ForInStep.yield PUnit.unit)
            | _ => do
              (unsupported "dict.changed-during-merge" : Sem PUnit)
              pure (ForInStep.yield PUnit.unit) : Sem (ForInStep PUnit))
      pure ()) Q E s := by
    have hlen : more.length = eso.size := by rw [← hpo.length]; simp
    refine wpAny_bind (wpAny_dictEntries hoo hdo' ?_)
    refine wpAny_bind (wpAny_dictEpoch hoo hdo' ?_)
    refine wpAny_bind ?_
    rw [List.range_eq_range']
    refine wpAny_forIn_list _
      (fun rest _ s' => ∃ h' i, s' = { s with heap := h' } ∧ rest = List.range' i (eso.size - i) ∧ i ≤ eso.size ∧ h'.DictOf knd d (merged kvs (more.take i)) ∧ h'.get? o = some oo ∧ Heap.SameBut d s.heap h')
      _ ?_ ?_ _ _ ⟨s.heap, 0, rfl, by simp, Nat.zero_le _, by simpa [merged] using hd, hoo, Heap.SameBut.refl _ _⟩
    · rintro x rest b s' ⟨h', i, rfl, hr, hi, hd', hoo', hs'⟩
      have hlt : i < eso.size := by
        rcases Nat.lt_or_ge i eso.size with h | h
        · exact h
        · rw [Nat.sub_eq_zero_of_le h] at hr; simp at hr
      obtain ⟨rfl, hrest⟩ : x = i ∧ rest = List.range' (i + 1) (eso.size - (i + 1)) := by
        have e : eso.size - i = (eso.size - (i + 1)) + 1 := by omega
        rw [e, List.range'_succ] at hr
        injection hr with h1 h2
        exact ⟨h1, h2⟩
      refine wpAny_bind (wpAny_dictEntries hoo' hdo' ?_)
      rw [Array.getElem?_eq_getElem hlt]
      obtain ⟨kv, hkv⟩ : ∃ kv, more[x]? = some kv := ⟨more[x]'(by rw [hlen]; exact hlt), List.getElem?_eq_getElem _⟩
      obtain ⟨k, v⟩ := kv
      obtain ⟨hkey, hval⟩ := hpo.get? (e := eso[x]) (by simp [hlt]) hkv
      obtain ⟨k', hkey', hhash⟩ := hko eso[x] (Array.getElem_mem hlt)
      obtain rfl : k' = k := knd.inj _ _ _ hkey' hkey
      show wpAny _ _ (holding [eso[x].key, eso[x].val] (dictPut d eso[x].hash eso[x].key eso[x].val) >>= _) _ _ _
      rw [hhash, hval]
      have hmx : (merged kvs (more.take x)).length ≤ sizeLine := by
        have e1 := merged_length_le kvs (more.take x)
        have e2 : (more.take x).length ≤ more.length := by rw [List.length_take]; omega
        omega
      refine wpAny_bind (wpAny_holding (ns_dictPut (hsz := hmx) hkey hd' fun h'' hd'' hs'' => ?_))
      have hoo'' : h''.get? o = some oo := (hs''.2 o (Ne.symm hdo)).trans hoo'
      refine wpAny_bind (wpAny_dictEpoch hoo'' hdo' ?_)
      rw [if_neg (by simp)]
      exact wpAny_pure ⟨h'', x + 1, rfl, hrest, hlt, by rw [merged_take_succ kvs more x (k', v) hkv]; exact hd'', hoo'', hs'.trans hs''⟩
    · rintro b s' ⟨h', i, rfl, hr, hi, hd', hoo', hs'⟩
      have hin : i = eso.size := by
        rcases Nat.lt_or_ge i eso.size with h | h
        · have e : eso.size - i = (eso.size - (i + 1)) + 1 := by omega
          rw [e, List.range'_succ] at hr; exact nomatch hr
        · exact Nat.le_antisymm hi h
      refine wpAny_pure (hQ h' ?_ ⟨oo, eso, epo, hoo', hco, hdo', hko, hpo, hno⟩ hs')
      rw [hin, ← hlen, List.take_length] at hd'; exact hd'
  rw [if_pos rfl]
  refine wpAny_bind (wpAny_specialOf ho.typeIs F.slot_dict_iter.lookup (wpAny_bind (wpAny_pure ?_)))
  have e1 : ((some (Value.builtin "dict.__iter__") : Option Value) == some (.builtin "dict.__iter__")) = true := by decide +kernel
  rw [e1]
  dsimp only
  rw [if_neg (by rw [hoS]; exact Bool.false_ne_true)]
  refine wpAny_bind (wpAny_dictEntries hod hdd ?_)
  split
  · refine wpAny_bind (wpAny_dictEntries hoo hdo' ?_)
    refine wpAny_bind ?_
    rw [← Array.forIn_toList]
    refine wpAny_forIn_list _ (fun rest _ s' => s' = s ∧ ∀ x ∈ rest, x ∈ eso.toList) _ ?_ ?_ _ _ ⟨rfl, fun x hx => hx⟩
    · rintro x rest b s' ⟨rfl, hr⟩
      obtain ⟨k', hkey', _⟩ := hko x (Array.mem_toList_iff.mp (hr x List.mem_cons_self))
      have hc := hv _ _ hkey'
      cases hkk : x.key with
      | ref a => rw [hkk] at hc; cases hc
      | _ => exact wpAny_pure ⟨rfl, fun y hy => hr y (List.mem_cons_of_mem _ hy)⟩
    · rintro b s' ⟨rfl, _⟩
      exact loop
  · exact loop
end
end PySem
/-! NsDisp -/
set_option Elab.async false
set_option linter.all false
set_option maxRecDepth 100000
set_option maxHeartbeats 2000000
namespace L2
open PySem PySem.Spec PyProof.Rows
/-- {**m, k: v} of a dict m with keys ints and texts; d the new dict, e a dict that holds the pair meanwhile -/
def tDStar (tm tk tv : TE) : TE := fun σ H Q => ∀ d, H d = none → tm σ (upd H d (.dK [])) fun x H1 => ∃ (a : Addr) (kvs : List (Key × V)), x = .ref a ∧ a ≠ d ∧ H1 a = some (.dK kvs) ∧ H1 d = some (.dK []) ∧ kvs.length + 1 ≤ sizeLine ∧
  ∀ e, (upd H1 d (.dK kvs)) e = none → tk σ (upd (upd H1 d (.dK kvs)) e (.dK [])) fun y H2 => tv σ H2 fun z H3 => ∃ k : Key, y = kV k ∧ H3 e = some (.dK []) ∧ H3 d = some (.dK kvs) ∧
    Q (.ref d) (upd (upd H3 e (.dK [(k, z)])) d (.dK (putK kvs k z)))
theorem carried_mix {P : Program} {w : World} (k : Key) (v : Value) (h : (mixKind P w).is k v = true) : carriedByValue v = true := by
  first
    | exact mixKind_carried h
    | exact (mixKind P w).carried h
    | (cases v <;> first | rfl | (exfalso; revert h; cases k <;> (intro h; cases h)))
theorem pe_dstar {X : Cx} {om k v : Expr} {tm tk tv : TE} {pos : Pos} (hm : PE X om tm) (hk : PE X k tk) (hv : PE X v tv) : PE X (.Dict [none, some k] [om, v] pos) (tDStar tm tk tv) := by
  refine ⟨fun pins s σ H Q I q => ?_⟩
  have pps : PPs X pos [some k] [v] [(tk, tv)] := pps_cons hk hv pps_nil
  have hn := I.hok.fresh (Nat.le_refl s.heap.objs.size)
  have I1 := I.laid (a := s.heap.objs.size) (o := .dK []) (h' := s.heap.push { cls := .type "dict", data := .dict #[] }) (t' := s.toks) (fun _ _ q => Heap.get?_push_of_some _ q) (Nat.le_refl _) (dk_empty s.heap I.big)
  rw [arm_eval_Dict]
  refine wpAny_bind (wpAny_standAt ?_)
  show wpAny _ _ (dictDisplay [(none, do let x ← eval om X.env; standAt pos; pure x), (some (eval k X.env), do let x ← eval v X.env; standAt pos; pure x)]) _ _ _
  unfold dictDisplay
  dsimp only
  rw [List.forIn_cons]
  simp only [List.isEmpty_nil, if_true, pure_bind, bind_assoc]
  refine wpAny_bind (wpAny_alloc ?_)
  refine wpAny_bind (wpAny_holding (wpAny_bind (thn (hm.run pins _ σ _ _ I1 (q _ hn)) fun u s2 hh => wpAny_bind (wpAny_standAt (wpAny_pure ?_)))))
  obtain ⟨x, H1, I2, rx, a, kvs, rfl, nad, ea, ed, hl, q2⟩ := hh
  obtain rfl : u = Value.ref a := rx
  obtain ⟨z, hd, vs, rel, dd⟩ := dk_of I2.hok ea
  obtain ⟨z0, hd0, vs0, rel0, dd0⟩ := dk_of I2.hok ed
  cases rel0
  have lv := rel.length
  have nd : (vs.map (·.1)).Nodup := by obtain ⟨_, _, _, _, _, _, _, _, hnd⟩ := dd; exact hnd
  refine wpAny_bind (wpAny_onRaise (wpAny_tryCatch (wpAny_onRaise (wpAny_holding (ns_merge (knd := mixKind X.prog X.w) carried_mix (Ne.symm nad) hd dd0 dd (fun h' m1 m2 sb => ?_) (by rw [List.length_nil]; omega))))))
  rw [merged_nil_of_nodup vs nd] at m1
  have he : ∃ q, h'.get? s.heap.objs.size = some q := let ⟨q, _, _, hq, _⟩ := m1; ⟨q, hq⟩
  have I3 := d_write (t' := s2.toks) I2 (by rw [ed]; exact True.intro) sb he (dk_new z hd0 rel m1)
  have e17 : ((1 : Nat) == 17) = false := by decide
  simp only [List.forIn_cons, List.forIn_nil, List.nil_append, List.length_singleton, List.length_cons, List.length_nil, List.isEmpty_cons, pure_bind, bind_assoc, e17, Bool.false_eq_true, if_false, Nat.zero_add]
  have hn3 := I3.hok.fresh (Nat.le_refl h'.objs.size)
  have I4 := I3.laid (a := h'.objs.size) (o := .dK []) (h' := h'.push { cls := .type "dict", data := .dict #[] }) (t' := s2.toks) (fun _ _ q => Heap.get?_push_of_some _ q) (Nat.le_refl _) (dk_empty h' I3.big)
  have q3 : tPairs [(tk, tv)] σ (upd (upd H1 s.heap.objs.size (HO.dK kvs)) h'.objs.size (HO.dK [])) (fun ps H3 => match ps with
      | [(y, z)] => ∃ k : Key, y = kV k ∧ H3 h'.objs.size = some (HO.dK []) ∧ H3 s.heap.objs.size = some (HO.dK kvs) ∧
          Q (V.ref s.heap.objs.size) (upd (upd H3 h'.objs.size (HO.dK [(k, z)])) s.heap.objs.size (HO.dK (putK kvs k z)))
      | _ => False) := q2 _ hn3
  refine wpAny_bind (wpAny_holding (wpAny_subDict (knd := mixKind X.prog X.w) (by show 1 ≤ 15; omega) (thn (pps.run pins _ σ _ _ I4 q3) fun ws s5 hh5 => ?_)))
  obtain ⟨ps, H5, I5, relp, q5⟩ := hh5
  cases relp with
  | nil => exact q5.elim
  | @cons p pv ps2 ws2 r1 r2 =>
  cases r2 with
  | cons _ _ => exact q5.elim
  | nil =>
  obtain ⟨y, z1⟩ := p
  obtain ⟨k1, rfl, ee, ed5, q6⟩ := q5
  obtain ⟨rk, rz⟩ := r1
  obtain ⟨w1, w2⟩ := pv
  have cr : Carries (mixKind X.prog X.w) [(w1, w2)] [(k1, w2)] := ⟨kV_is rk, rfl, trivial⟩
  obtain ⟨_, hd6, vs6, rel6, dd6⟩ := dk_of I5.hok ee
  cases rel6
  refine ⟨_, cr, dd6, fun h6 m6 sb6 => ?_⟩
  have he6 : ∃ q, h6.get? h'.objs.size = some q := let ⟨q, _, _, hq, _⟩ := m6; ⟨q, hq⟩
  have rel1 : KV [(k1, z1)] [(k1, w2)] := .cons ⟨rfl, rz⟩ .nil
  have I6 := d_write (t' := s5.toks + [(w1, w2)].length) I5 (by rw [ee]; exact True.intro) sb6 he6 (dk_new (kvs := [(k1, z1)]) (vs := merged [] [(k1, w2)]) (by show 1 ≤ sizeLine; rw [sizeLine_eq]; decide) hd6 rel1 m6)
  have nde : s.heap.objs.size ≠ h'.objs.size := fun z => by
    rw [z, ee] at ed5
    have : ([] : List (Key × V)) = kvs := by injection ed5 with e; injection e
    have m7 := m1
    rw [z] at m7
    obtain ⟨q, _, _, hq, _⟩ := m7
    exact absurd (Heap.lt_size hq) (Nat.lt_irrefl _)
  have ed7 : (upd H5 h'.objs.size (HO.dK [(k1, z1)])) s.heap.objs.size = some (HO.dK kvs) := (upd_ne nde).trans ed5
  obtain ⟨z7, hd7, vs7, rel7, dd7⟩ := dk_of I6.hok ed7
  have lv7 := rel7.length
  refine wpAny_bind (wpAny_onRaise (wpAny_holding (ns_merge (knd := mixKind X.prog X.w) carried_mix nde hd6 dd7 m6 (fun h8 m8 m9 sb8 => wpAny_pure ?_) (by show vs7.length + 1 ≤ sizeLine; omega))))
  have he8 : ∃ q, h8.get? s.heap.objs.size = some q := let ⟨q, _, _, hq, _⟩ := m8; ⟨q, hq⟩
  have rel8 : KV (putK kvs k1 z1) (merged vs7 (merged [] [(k1, w2)])) := rel7.put k1 rz
  have hl8 : (putK kvs k1 z1).length ≤ sizeLine := by
    have := length_putK kvs k1 z1
    omega
  have I8 := d_write (t' := s5.toks + [(w1, w2)].length) I6 (by rw [ed7]; exact True.intro) sb8 he8 (dk_new (kvs := putK kvs k1 z1) hl8 hd7 rel8 m8)
  exact ⟨V.ref s.heap.objs.size, _, I8, rfl, q6⟩
end L2
/-! KmBase -/
set_option Elab.async false
set_option linter.all false
set_option maxRecDepth 100000
set_option maxHeartbeats 2000000
namespace Ns
open PySem PySem.Spec PyProof.Rows L2
theorem sqT_same {K : PySem.W.Frag} {H H1 : Hp} {a : Addr} {xs : List V} (e : Same H H1) (h : SqT K H a xs) : SqT K H1 a xs := by
  rcases h with (h | ⟨o, h⟩) | h
  · exact .inl (.inl (e _ _ h))
  · exact .inl (.inr ⟨o, e _ _ h⟩)
  · exact .inr h
theorem WordH.same {K : PySem.W.Frag} {H H1 : Hp} {x : V} {p : Word} (e : Same H H1) (h : WordH K H x p) : WordH K H1 x p := by
  obtain ⟨a, rfl, h⟩ := h
  exact ⟨a, rfl, e _ _ h⟩
theorem eachV_mono {R S : V → Word → Prop} (h : ∀ x p, R x p → S x p) : ∀ {xs : List V} {r : Wish}, WishH.EachV R xs r → WishH.EachV S xs r
  | [], [], _ => trivial
  | [], _ :: _, z => z.elim
  | _ :: _, [], z => z.elim
  | x :: xs, p :: r, z => ⟨h x p z.1, eachV_mono h z.2⟩
theorem WishH.same {K : PySem.W.Frag} {H H1 : Hp} {a : Addr} {r : Wish} (e : Same H H1) (h : WishH K H a r) : WishH K H1 a r := by
  obtain ⟨xs, h1, h2⟩ := h
  exact ⟨xs, sqT_same e h1, eachV_mono (fun x p => WordH.same e) h2⟩
theorem eachV_len {R : V → Word → Prop} : ∀ {xs : List V} {r : Wish}, WishH.EachV R xs r → xs.length = r.length
  | [], [], _ => rfl
  | [], _ :: _, z => z.elim
  | _ :: _, [], z => z.elim
  | _ :: _, _ :: _, z => congrArg (· + 1) (eachV_len z.2)
theorem eachV_at {R : V → Word → Prop} : ∀ {xs : List V} {r : Wish} {i : Nat} {x : V}, WishH.EachV R xs r → xs[i]? = some x → ∃ p, r[i]? = some p ∧ R x p
  | [], _, _, _, _, h => by simp at h
  | _ :: _, [], _, _, z, _ => z.elim
  | y :: xs, p :: r, 0, x, z, h => by
    obtain rfl : y = x := Option.some.inj h
    exact ⟨p, rfl, z.1⟩
  | y :: xs, p :: r, i + 1, x, z, h => eachV_at (xs := xs) (r := r) z.2 h
theorem eachV_snoc {R : V → Word → Prop} : ∀ {xs : List V} {r : Wish} {x : V} {p : Word}, WishH.EachV R xs r → R x p → WishH.EachV R (xs ++ [x]) (r ++ [p])
  | [], [], _, _, _, h => ⟨h, trivial⟩
  | [], _ :: _, _, _, z, _ => z.elim
  | _ :: _, [], _, _, z, _ => z.elim
  | _ :: _, _ :: _, _, _, z, h => ⟨z.1, eachV_snoc z.2 h⟩
theorem same_new {H : Hp} {p : Addr} (h : H p = none) (o : HO) : Same H (upd H p o) := fun b u q => by rw [upd_ne (ne_of_none q h)]; exact q
/-- the row is a wish over n names, the names above last -/
def isR (n : Int) : Int → Wish → Bool
  | _, [] => true
  | last, p :: r => if p.1 ≤ last ∨ p.1 > n ∨ ¬ (p.2 = 0 ∨ p.2 = 1) then false else isR n p.1 r
theorem iteD {p A B : Prop} [Decidable p] (h : p) (ha : A) : if decide p = true then A else B := by rw [decide_eq_true h]; exact iteT ha
theorem iteND {p A B : Prop} [Decidable p] (h : ¬ p) (hb : B) : if decide p = true then A else B := by rw [decide_eq_false h]; exact iteF hb
/-- a statement that is not reached -/
theorem ps_no {X : Cx} {st : Stmt} : PS X st (fun _ _ _ => False) := ⟨fun _ _ _ _ _ _ h => h.elim⟩
end Ns
namespace Km
open PySem PySem.Spec PyProof.Rows L2 Ns
def top (i : Nat) : Stmt := PySem.Challenge.pw_papersorliars_k13_line_trees_judged.main.body.getD i (.Pass ⟨0, 0, 0, 0⟩)
abbrev sRight : Stmt := top 10
abbrev sSortRow : Stmt := top 15
abbrev sDiff : Stmt := top 16
abbrev sBook : Stmt := inClass (top 14) 2
def spRight (K : PySem.W.Frag) : Sp := fun vs H Q _ => ∃ (n : Int) (a : Addr) (r : Wish), vs = [.int n, .ref a] ∧ WishH K H a r ∧ ∀ H', Same H H' → Q (.bl (isR n 0 r)) H'
theorem scRight : FnScope ["names", "row", "last", "name", "value"] ["names", "row"] (defScope sRight) := ⟨rfl, rfl, rfl, by decide +kernel, rfl, by decide +kernel, by decide +kernel⟩
theorem in01 (z : Int) : inV (.int z) [.int 0, .int 1] = decide (z = 0 ∨ z = 1) := by
  show (eqV (.int 0) (.int z) || (eqV (.int 1) (.int z) || false)) = _
  have e : ∀ a : Int, eqV (.int a) (.int z) = decide (z = a) := fun a => by
    first
      | (show decide (a = z) = _; rw [decide_eq_decide]; exact eq_comm)
      | (simp [eqV]; exact eq_comm)
      | simp [eqV, eq_comm]
  rw [e, e, Bool.or_false]
  simp
section
variable {P : Program} {w : World} {K : PySem.W.Frag} {mg : Str → Option Value} {base : Heap} {f : Addr} {fd : FuncData}
theorem ok_right {k : Nat} (F : Fun K "is_right_row" "is_right_row" sRight f fd) : FnOk P w K mg base CX0 (k + 1) f fd ["names", "row"] (spRight K) := by
  refine F.ok scRight (fun vs H Q E h => ?_) (fun cdv A outer s H vs Q E hr h => ?_)
  · obtain ⟨n, a, r, rfl, _⟩ := h
    rfl
  obtain ⟨n, a, r, rfl, hW, q⟩ := h
  have nd := scRight.nd
  refine ⟨_, pss_cons (ps_set (i := 2) nd rfl (Or.inl rfl) pe_int)
    (pss_cons (ps_for PassesOwn.never rfl (pi_tup (pv 1)) (pg_tup rfl (pgs_cons (pg_name (i := 3) nd rfl (Or.inl rfl)) (pgs_cons (pg_name (i := 4) nd rfl (Or.inl rfl)) pgs_nil)))
      (pss_cons (ps_if (PW.pt (pw_or (pt_cmpR op_le (pv 3) (pv 2) (nomark _)) (pw_or (pt_cmpR op_gt (pv 3) (pv 0) (nomark _)) (pw_or1 (pt_cmpR op_notIn_seq (pv 4) (pe_tup (pa_cons pe_int (pa_cons pe_int pa_nil))) (by with_unfolding_all rfl))))))
        (pss_one (ps_ret pe_bl)) pss_nil)
      (pss_one (ps_set (i := 2) nd rfl (Or.inl rfl) (pv 3)))))
    (pss_one (ps_ret pe_bl))), ?_⟩
  obtain ⟨xs, hT, hE⟩ := hW
  have hl := eachV_len hE
  refine ⟨_, rfl, a, rfl, ⟨xs, hT⟩, for_tup (K := K) (xs := xs) (fun i σ H1 => ∃ (last : Int) (y3 y4 : Option V), σ = [some (.int n), some (.ref a), some (.int last), y3, y4] ∧ Same H H1 ∧ isR n 0 r = isR n last (r.drop i))
    ⟨0, none, none, rfl, Same.refl H, rfl⟩ (fun i σ H1 _ ⟨_, _, _, _, sm, _⟩ => sqT_same sm hT) ?_ ?_⟩
  · rintro i x σ H1 hi ⟨last, y3, y4, rfl, sm, e⟩
    obtain ⟨p, hp, b, rfl, hb⟩ := eachV_at hE hi
    have hd : r.drop i = p :: r.drop (i + 1) := by
      have hlt : i < r.length := (List.getElem?_eq_some_iff.mp hp).1
      rw [List.drop_eq_getElem_cons hlt]
      have := (List.getElem?_eq_some_iff.mp hp).2
      rw [this]
    rw [hd] at e
    refine ⟨b, _, rfl, SqT.of (sm _ _ hb), rfl, _, _, rfl, _, _, rfl, rfl, ?_⟩
    refine ⟨_, rfl, _, rfl, _, _, rfl, rfl, _, rfl, ?_⟩
    by_cases c1 : p.1 ≤ last
    · refine iteD c1 (iteT ?_)
      have z : isR n 0 r = false := by rw [e]; exact if_pos (.inl c1)
      have := q H1 sm
      rw [z] at this
      exact this
    refine iteND c1 ⟨_, rfl, _, rfl, _, _, rfl, rfl, _, rfl, ?_⟩
    by_cases c2 : n < p.1
    · refine iteD c2 (iteT ?_)
      have z : isR n 0 r = false := by rw [e]; exact if_pos (.inr (.inl c2))
      have := q H1 sm
      rw [z] at this
      exact this
    refine iteND c2 ⟨_, rfl, by show 2 ≤ sizeLine; decide, fun t ht => ?_⟩
    have s2 : Same H (upd H1 t (.tup [.int 0, .int 1])) := sm.trans (same_new ht _)
    refine ⟨t, _, rfl, .inr (.inl (.inl upd_same)), rfl, rfl, _, rfl, ?_⟩
    show if (!inV (.int p.2) [.int 0, .int 1]) = true then _ else _
    rw [in01]
    by_cases c3 : p.2 = 0 ∨ p.2 = 1
    · rw [decide_eq_true c3]
      refine iteF ⟨_, rfl, p.1, _, _, rfl, s2, ?_⟩
      rw [e]
      exact if_neg (by rintro (z | z | z); exact c1 z; exact c2 z; exact z c3)
    · rw [decide_eq_false c3]
      refine iteT ?_
      have z : isR n 0 r = false := by rw [e]; exact if_pos (.inr (.inr c3))
      have := q _ s2
      rw [z] at this
      exact this
  · rintro σ H1 ⟨last, y3, y4, rfl, sm, e⟩
    rw [hl, List.drop_length] at e
    have := q H1 sm
    rw [e] at this
    exact this
end
end Km
/-! KmSort -/
set_option Elab.async false
set_option linter.all false
set_option maxRecDepth 100000
set_option maxHeartbeats 2000000
namespace Ns
open PySem PySem.Spec PyProof.Rows L2
theorem eachV_of {R : V → Word → Prop} : ∀ {xs : List V} {r : Wish}, xs.length = r.length → (∀ (i : Nat) x p, xs[i]? = some x → r[i]? = some p → R x p) → WishH.EachV R xs r
  | [], [], _, _ => trivial
  | [], _ :: _, h, _ => by simp at h
  | _ :: _, [], h, _ => by simp at h
  | x :: xs, p :: r, h, k => ⟨k 0 x p rfl rfl, eachV_of (by simpa using h) fun i y q h1 h2 => k (i + 1) y q h1 h2⟩
/-- names strictly ascending -/
abbrev Up (r : Wish) : Prop := r.Pairwise fun a b => a.1 < b.1
def pairAt (H : Hp) : V → Word
  | .ref t => match H t with
    | some (.tup [.int a, .int b]) => (a, b)
    | _ => (0, 0)
  | _ => (0, 0)
theorem pairAt_of {H : Hp} {t : Addr} {p : Word} (h : H t = some (.tup [.int p.1, .int p.2])) : pairAt H (.ref t) = p := by
  show (match H t with | some (.tup [.int a, .int b]) => (a, b) | _ => (0, 0)) = p
  rw [h]
/-- the words of r, each its own new pair -/
def Pairs (H : Hp) (xs : List V) (r : Wish) : Prop := xs.length = r.length ∧ ∀ (i : Nat) x p, xs[i]? = some x → r[i]? = some p → ∃ t, x = .ref t ∧ H t = some (.tup [.int p.1, .int p.2])
theorem Pairs.same {H H1 : Hp} {xs : List V} {r : Wish} (e : Same H H1) (h : Pairs H xs r) : Pairs H1 xs r := ⟨h.1, fun i x p h1 h2 => by
  obtain ⟨t, e1, e2⟩ := h.2 i x p h1 h2
  exact ⟨t, e1, e _ _ e2⟩⟩
theorem Pairs.each {K : PySem.W.Frag} {H : Hp} {xs : List V} {r : Wish} (h : Pairs H xs r) : WishH.EachV (WordH K H) xs r := eachV_of h.1 fun i x p h1 h2 => by
  obtain ⟨t, rfl, e⟩ := h.2 i x p h1 h2
  exact ⟨t, rfl, e⟩
theorem Pairs.off {H : Hp} {D : Addr} {acc : List V} {o : HO} {xs : List V} {r : Wish} (e : H D = some (.lst acc)) (h : Pairs H xs r) : Pairs (upd H D o) xs r := ⟨h.1, fun i x p h1 h2 => by
  obtain ⟨t, e1, e2⟩ := h.2 i x p h1 h2
  refine ⟨t, e1, ?_⟩
  rw [upd_ne (fun z => by rw [z, e] at e2; cases e2)]
  exact e2⟩
theorem Pairs.snoc {H : Hp} {t : Addr} {p : Word} {xs : List V} {r : Wish} (h : Pairs H xs r) (e : H t = some (.tup [.int p.1, .int p.2])) : Pairs H (xs ++ [.ref t]) (r ++ [p]) := by
  refine ⟨by rw [List.length_append, List.length_append, h.1]; rfl, fun i x q h1 h2 => ?_⟩
  rcases Nat.lt_trichotomy i xs.length with c | c | c
  · rw [List.getElem?_append_left c] at h1
    rw [List.getElem?_append_left (by rw [← h.1]; exact c)] at h2
    exact h.2 i x q h1 h2
  · subst c
    rw [List.getElem?_append_right (Nat.le_refl _), Nat.sub_self] at h1
    rw [List.getElem?_append_right (by rw [h.1]; exact Nat.le_refl _), h.1, Nat.sub_self] at h2
    obtain rfl := Option.some.inj h1
    obtain rfl := Option.some.inj h2
    exact ⟨t, rfl, e⟩
  · have z := (List.getElem?_eq_some_iff.mp h1).1
    rw [List.length_append, List.length_singleton] at z
    omega
theorem Pairs.at_ {H : Hp} {xs : List V} {r : Wish} (h : Pairs H xs r) {i : Nat} {x : V} (hx : xs[i]? = some x) : ∃ p, r[i]? = some p ∧ pairAt H x = p ∧ ∃ t, x = .ref t ∧ H t = some (.tup [.int p.1, .int p.2]) := by
  have hlt : i < xs.length := (List.getElem?_eq_some_iff.mp hx).1
  have hr : r[i]? = some (r[i]'(by rw [← h.1]; exact hlt)) := List.getElem?_eq_getElem _
  obtain ⟨t, e1, e2⟩ := h.2 i x _ hx hr
  exact ⟨_, hr, by rw [e1]; exact pairAt_of e2, t, e1, e2⟩
theorem Pairs.srtd {H : Hp} {xs : List V} {r : Wish} (h : Pairs H xs r) (up : Up r) : SrtO.Srtd (ltP (pairAt H)) xs := by
  refine List.pairwise_iff_getElem.mpr fun i j hi hj hij => ?_
  obtain ⟨p, hp, e1, _⟩ := h.at_ (List.getElem?_eq_getElem hi)
  obtain ⟨q, hq, e2, _⟩ := h.at_ (List.getElem?_eq_getElem hj)
  show SrtO.lexB (pairAt H xs[j]) (pairAt H xs[i]) = false
  rw [e1, e2]
  obtain ⟨hi2, rfl⟩ := List.getElem?_eq_some_iff.mp hp
  obtain ⟨hj2, rfl⟩ := List.getElem?_eq_some_iff.mp hq
  have z := List.pairwise_iff_getElem.mp up i j hi2 hj2 hij
  exact SrtO.lexB_no.mpr (by omega)
end Ns
namespace Km
open PySem PySem.Spec PyProof.Rows L2 Ns
def spSortRow (K : PySem.W.Frag) : Sp := fun vs H Q _ => ∃ (l : Addr) (xs : List V) (r : Wish), vs = [.ref l] ∧ SqL K H l xs ∧ WishH.EachV (WordH K H) xs r ∧ Up r ∧ r.length ≤ 1000 ∧ ∀ t H', Same H H' → H t = none → WishH K H' t r → Q (.ref t) H'
theorem scSortRow : FnScope ["row", "name", "value"] ["row"] (defScope sSortRow) := ⟨rfl, rfl, rfl, by decide +kernel, rfl, by decide +kernel, by decide +kernel⟩
section
variable {P : Program} {w : World} {K : PySem.W.Frag} {mg : Str → Option Value} {base : Heap} {f : Addr} {fd : FuncData}
theorem ok_sortRow {k : Nat} (mt : mg "tuple" = none) (ms : mg "sorted" = none) (F : Fun K "sorted_row" "sorted_row" sSortRow f fd) : FnOk P w K mg base CX0 (k + 1) f fd ["row"] (spSortRow K) := by
  refine F.ok scSortRow (fun vs H Q E h => ?_) (fun cdv A outer s H vs Q E hr h => ?_)
  · obtain ⟨l, xs, r, rfl, _⟩ := h
    rfl
  obtain ⟨l, xs, r, rfl, hL, hE, up, h1000, q⟩ := h
  have nd := scSortRow.nd
  have hl := eachV_len hE
  refine ⟨_, pss_one (ps_ret (pe_tupleOf rfl mt (pe_callB (r := rSortedPO K) cr_sortedPO rfl ms (by decide +kernel) (pa_cons
    (pe_lc (own := [("name", 1), ("value", 2)]) (g := gTup K 2 (gCons (gName 1) (gCons (gName 2) gNil))) (tt := tYes) rfl nd (pi_list (pv 0)) (blkOk_by (N := ["row", "name", "value"]) (sc := defScope sSortRow) (by decide +kernel))
      (fun _ _ _ _ _ => pg_tup rfl (pgs_cons (pg_name (i := 1) nd rfl (Or.inl rfl)) (pgs_cons (pg_name (i := 2) nd rfl (Or.inl rfl)) pgs_nil))) (fun _ _ _ _ _ => pts_nil)
      (fun _ _ _ _ _ => pe_tup (pa_cons (pv 1) (pa_cons (pv 2) pa_nil)))) pa_nil)))), ?_⟩
  refine ⟨_, rfl, l, rfl, ⟨xs, hL⟩, fun D hD => ?_⟩
  refine lc_list (K := K) (xs := xs) (fun i H1 => ∃ acc, H1 D = some (.lst acc) ∧ Same H H1 ∧ Pairs H1 acc (r.take i) ∧ i ≤ r.length) ⟨[], upd_same, same_new hD _, ⟨rfl, fun i x p h => by simp at h⟩, Nat.zero_le _⟩ (fun i H1 _ ⟨_, _, sm, _⟩ => sm.seq hL) ?_ ?_
  · rintro i x H1 hi ⟨acc, eD, sm, hP, hir⟩
    obtain ⟨p, hp, b, rfl, hb⟩ := eachV_at hE hi
    have hlt : i < r.length := (List.getElem?_eq_some_iff.mp hp).1
    refine ⟨b, _, rfl, SqT.of (sm _ _ hb), rfl, _, _, rfl, _, _, rfl, rfl, rfl, ?_⟩
    refine ⟨_, rfl, _, rfl, by show 2 ≤ sizeLine; decide, fun t ht => ?_⟩
    have tD : D ≠ t := ne_of_none eD ht
    have eD2 : (upd H1 t (.tup [.int p.1, .int p.2])) D = some (.lst acc) := (upd_ne tD).trans eD
    have lacc : acc.length = i := by rw [hP.1, List.length_take]; omega
    refine ⟨acc, eD2, Nat.lt_of_le_of_lt (show acc.length ≤ 1000 by omega) (by decide), _, upd_same, ?_, ?_, hlt⟩
    · intro c o e
      have nc := ne_of_none e hD
      rw [upd_ne nc]
      exact same_new ht _ _ _ (sm _ _ e)
    · have z : r.take (i + 1) = r.take i ++ [p] := by rw [List.take_succ, hp]; rfl
      rw [z]
      exact Ns.Pairs.off eD2 (Ns.Pairs.snoc (hP.same (same_new ht _)) upd_same)
  · rintro H1 ⟨acc, eD, sm, hP, hir⟩
    rw [hl, List.take_length] at hP
    refine ⟨D, acc, pairAt H1, rfl, .inl (.inl eD), fun x hx => ?_, fun ys p hs hb hp => ?_⟩
    · obtain ⟨i, hi⟩ := List.getElem?_of_mem hx
      obtain ⟨p, _, e1, t, e2, e3⟩ := hP.at_ hi
      exact ⟨t, e2, by rw [e1]; exact e3⟩
    · have e : ys = acc := SrtO.stb_uniq (ltP_swo _) hs (hP.srtd up) hb
      subst e
      refine .inl ⟨p, ys, rfl, .inl (.inl upd_same), fun t ht => ?_⟩
      have s1 : Same H1 (upd (upd H1 p (.lst ys)) t (.tup ys)) := (same_new hp _).trans (same_new ht _)
      have s2 := sm.trans s1
      exact q t _ s2 (by cases e : H t with | none => rfl | some o => (have z := sm.trans (same_new hp (.lst ys)) t o e; rw [ht] at z; cases z)) ⟨ys, SqT.of upd_same, Ns.Pairs.each (hP.same s1)⟩
end
end Km
/-! KmDiff -/
set_option Elab.async false
set_option linter.all false
set_option maxRecDepth 100000
set_option maxHeartbeats 2000000
namespace Ns
open PySem PySem.Spec PyProof.Rows L2
/-- a list that holds the words of r -/
def RowH (K : PySem.W.Frag) (H : Hp) (a : Addr) (r : Wish) : Prop := ∃ xs, SqL K H a xs ∧ WishH.EachV (WordH K H) xs r
theorem RowH.same {K : PySem.W.Frag} {H H1 : Hp} {a : Addr} {r : Wish} (e : Same H H1) (h : RowH K H a r) : RowH K H1 a r := by
  obtain ⟨xs, h1, h2⟩ := h
  exact ⟨xs, e.seq h1, eachV_mono (fun x p => WordH.same e) h2⟩
theorem sqT_off {K : PySem.W.Frag} {H : Hp} {o a : Addr} {acc xs : List V} {u : HO} (e : H o = some (.lst acc)) (h : SqT K H a xs) : SqT K (upd H o u) a xs := by
  rcases h with (h | ⟨z, h⟩) | h
  · exact .inl (.inl ((upd_ne (fun q => by rw [q, e] at h; cases h)).trans h))
  · exact .inl (.inr ⟨z, (upd_ne (fun q => by rw [q, e] at h; cases h)).trans h⟩)
  · exact .inr h
theorem WishH.off {K : PySem.W.Frag} {H : Hp} {o a : Addr} {acc : List V} {u : HO} {r : Wish} (e : H o = some (.lst acc)) (h : WishH K H a r) : WishH K (upd H o u) a r := by
  obtain ⟨xs, h1, h2⟩ := h
  exact ⟨xs, sqT_off e h1, eachV_mono (fun x p ⟨b, e1, e2⟩ => ⟨b, e1, (upd_ne (fun q => by rw [q, e] at e2; cases e2)).trans e2⟩) h2⟩
theorem iteF' {c : Bool} {A B : Prop} (h : c = false) (hb : B) : if c = true then A else B := by rw [h]; exact iteF hb
/-- a row that a book of n names takes as it stands -/
structure Good (n : Int) (r : Wish) : Prop where
  up : Up r
  ok : isR n 0 r = true
  len : r.length ≤ 1000
end Ns
namespace Km
open PySem PySem.Spec PyProof.Rows L2 Ns
def spDiff (K : PySem.W.Frag) : Sp := fun vs H Q _ => ∃ (n : Int) (l : Addr) (rs : List WRow) (D : List Wish), vs = [.int n, .ref l] ∧ SqL K H l (rs.map fun p => V.ref p.1) ∧ (∀ p ∈ rs, RowH K H p.1 p.2 ∧ Good n p.2) ∧ rs.length ≤ 1000 ∧ (∀ p ∈ rs, p.2 ∈ D) ∧ D.length ≤ 76 ∧
  ∀ (N : List WRow) (p : Addr) (H' : Hp), Asc (N.map (·.2)) → (∀ r, r ∈ N.map (·.2) ↔ r ∈ rs.map (·.2)) → (∀ q ∈ N, WishH K H' q.1 q.2) → N.length ≤ 76 → Same H H' → H p = none → H' p = some (.lst (N.map fun q => V.ref q.1)) → Q (.ref p) H'
theorem scDiff : FnScope ["names", "rows", "wishes", "index", "row", "wish"] ["names", "rows"] (defScope sDiff) := ⟨rfl, rfl, rfl, by decide +kernel, rfl, by decide +kernel, by decide +kernel⟩
section
variable {P : Program} {w : World} {K : PySem.W.Frag} {mg : Str → Option Value} {base : Heap} {f : Addr} {fd : FuncData}
theorem ok_diff {fS fR : Addr} {fdS fdR : FuncData} (ms : mg "sorted" = none) (mset : mg "set" = none) (men : mg "enumerate" = none) (F : Fun K "different_wishes" "different_wishes" sDiff f fd)
    (GS : FnOk P w K mg base CX0 1 fS fdS ["row"] (spSortRow K)) (kS : PySem.W.keepIn K (.ref fS) = true) (bS : Binds K fdS ["row"] []) (mS : mg "sorted_row" = some (.ref fS))
    (GR : FnOk P w K mg base CX0 1 fR fdR ["names", "row"] (spRight K)) (kR : PySem.W.keepIn K (.ref fR) = true) (bR : Binds K fdR ["names", "row"] []) (mR : mg "is_right_row" = some (.ref fR)) :
    FnOk P w K mg base CX0 2 f fd ["names", "rows"] (spDiff K) := by
  refine F.ok scDiff (fun vs H Q E h => ?_) (fun cdv A outer s H vs Q E hr h => ?_)
  · obtain ⟨n, l, rs, D, rfl, _⟩ := h
    rfl
  obtain ⟨n, l, rs, D, rfl, hL, hrow, h1000, hD, few, q⟩ := h
  have nd := scDiff.nd
  have hu : (A.deeper (envOfC "different_wishes" (defScope sDiff) s.heap.objs.size f cdv)).units + 64 < cLine := hr.units
  refine ⟨_, pss_cons (ps_set (i := 2) nd rfl (Or.inl rfl) (pe_lst pa_nil))
    (pss_cons (ps_for PassesOwn.never rfl (pi_enum rfl men (pa_cons (pv 1) pa_nil)) (pg_tup rfl (pgs_cons (pg_name (i := 3) nd rfl (Or.inl rfl)) (pgs_cons (pg_name (i := 4) nd rfl (Or.inl rfl)) pgs_nil)))
      (pss_cons (ps_set (i := 5) nd rfl (Or.inl rfl) (pe_call GS hr rfl mS kS bS .nil pass0 (pa_cons (pv 4) pa_nil)))
      (pss_cons (ps_if (pt_not (pt_val (pe_call GR hr rfl mR kR bR .nil pass0 (pa_cons (pv 0) (pa_cons (pv 5) pa_nil))))) (pss_one ps_no) pss_nil)
      (pss_one (ps_expr (pe_bm PySem.F.plainAttrs_list PySem.F.slot_list_append PySem.F.type_list_append mt_append (pv 2) (pa_cons (pv 5) pa_nil)))))))
    (pss_one (ps_ret (pe_callB (r := rSortSetW K w) (cr_sortSetW rfl hu) rfl ms (by decide +kernel) (pa_cons (pe_callTy (r := rSetW K w) (cr_setW rfl hu) rfl mset (by decide +kernel) (pa_cons (pv 2) pa_nil)) pa_nil))))), ?_⟩
  refine ⟨Nat.zero_le _, fun o ho => ?_⟩
  have s0 : Same H (upd H o (.lst [])) := same_new ho _
  have keep : ∀ {H' : Hp} {xs : List V}, Same H H' → Same H (upd H' o (.lst xs)) := fun sm b x e => by
    rw [upd_ne (ne_of_none e ho)]
    exact sm _ _ e
  refine ⟨_, rfl, l, _, rfl, s0.seq hL, for_it (walk_enum (K := K) (a := l) (xs := rs.map fun p => V.ref p.1)) (fun i σ H1 => ∃ (ws : List WRow) (y3 y4 y5 : Option V), σ = [some (.int n), some (.ref l), some (.ref o), y3, y4, y5] ∧ Same H H1 ∧ H1 o = some (.lst (ws.map fun q => V.ref q.1)) ∧ (∀ q ∈ ws, WishH K H1 q.1 q.2) ∧ ws.map (·.2) = (rs.take i).map (·.2))
    ⟨[], none, none, none, rfl, s0, upd_same, (fun q h => nomatch h), rfl⟩ (fun i σ H1 _ ⟨_, _, _, _, _, sm, _⟩ => sm.seq hL) ?_ ?_⟩
  · rintro i x σ H1 H2 hi ⟨ws, y3, y4, y5, rfl, sm, eo, hw, hm⟩ ⟨T, xi, xr, rfl, hT, rfl, e1, e2⟩
    rw [List.length_map] at hi
    obtain ⟨p, hp⟩ : ∃ p, rs[i]? = some p := ⟨_, List.getElem?_eq_getElem hi⟩
    obtain rfl : V.int (i : Nat) = xi := Option.some.inj e1
    have e3 : (rs.map fun p => V.ref p.1)[i]? = some (V.ref p.1) := by rw [List.getElem?_map, hp]; rfl
    obtain rfl : V.ref p.1 = xr := Option.some.inj (e3.symm.trans e2)
    have s1 : Same H1 (upd H1 T (.tup [V.int (i : Nat), V.ref p.1])) := same_new hT _
    obtain ⟨hrw, hg⟩ := hrow p (List.mem_of_getElem? hp)
    obtain ⟨xs, hxs, hE⟩ := hrw.same (sm.trans s1)
    refine ⟨T, _, rfl, SqT.of upd_same, rfl, _, _, rfl, _, _, rfl, rfl, ?_⟩
    refine ⟨_, rfl, p.1, xs, p.2, rfl, hxs, hE, hg.up, hg.len, fun t H2 s2 ht hW => ?_⟩
    refine ⟨_, rfl, _, rfl, n, t, p.2, rfl, hW, fun H3 s3 => ⟨_, rfl, iteF' (by rw [hg.ok]; rfl) ?_⟩⟩
    have s13 : Same H1 H3 := s1.trans (s2.trans s3)
    have eo3 := s13 _ _ eo
    have wl : ws.length = i := by
      have z := congrArg List.length hm
      rw [List.length_map, List.length_map, List.length_take] at z
      omega
    refine ⟨.ref o, rfl, .inl ⟨rfl, _, .inl (.inl eo3)⟩, _, rfl, o, _, _, rfl, rfl, eo3, Nat.lt_of_le_of_lt (show (ws.map fun q => V.ref q.1).length ≤ 1000 by rw [List.length_map]; omega) (by decide), ?_⟩
    refine ⟨ws ++ [(t, p.2)], _, _, _, rfl, keep (sm.trans s13), ?_, fun q hq => ?_, ?_⟩
    · rw [upd_same, List.map_append]
      rfl
    · rcases List.mem_append.mp hq with z | z
      · exact ((hw q z).same s13).off eo3
      · rw [List.mem_singleton.mp z]
        exact (hW.same s3).off eo3
    · rw [List.map_append, hm, List.take_succ, hp, List.map_append]
      rfl
  · rintro σ H1 ⟨ws, y3, y4, y5, rfl, sm, eo, hw, hm⟩
    rw [List.length_map, List.take_length] at hm
    have mem : ∀ p ∈ ws, p.2 ∈ rs.map (·.2) := fun p hp => by rw [← hm]; exact List.mem_map.mpr ⟨p, hp, rfl⟩
    refine ⟨_, rfl, o, ws, D, rfl, .inl (.inl eo), hw, fun p hp => ?_, few, fun a M ha hM1 hM2 => ?_⟩
    · obtain ⟨z, hz, e⟩ := List.mem_map.mp (mem p hp)
      rw [← e]
      exact hD z hz
    · have s1 : Same H1 (upd H1 a (NSetO w a (M.map asKey))) := same_new ha _
      refine ⟨a, M, rfl, upd_same, fun p hp => (hw p (hM1 p hp)).same s1, fun N p pm asc hN hp => ?_⟩
      have s2 := s1.trans (same_new hp (.lst (N.map fun q => V.ref q.1)))
      refine q N p _ asc (fun r => ?_) (fun z hz => (hw z (hM1 z (pm.mem_iff.mp hz))).same s2) hN (sm.trans s2) ?_ upd_same
      · rw [(pm.map (·.2)).mem_iff, ← hm]
        refine ⟨fun z => ?_, fun z => ?_⟩
        · obtain ⟨m, hm2, e⟩ := List.mem_map.mp z
          exact List.mem_map.mpr ⟨m, hM1 m hm2, e⟩
        · obtain ⟨m, hm2, e⟩ := List.mem_map.mp z
          rw [← e]
          exact hM2 m hm2
      · cases e : H p with
        | none => rfl
        | some u =>
          have z := (sm.trans s1) p u e
          rw [hp] at z
          cases z
end
end Km
/-! KmInit -/
set_option Elab.async false
set_option linter.all false
set_option maxRecDepth 100000
set_option maxHeartbeats 2000000
namespace Ns
open PySem PySem.Spec PyProof.Rows L2
theorem nw_ne : ¬ (("names" : Str) = "wishes") := by decide +kernel
theorem wn_ne : ¬ (("wishes" : Str) = "names") := by decide +kernel
def bkF (n : Int) (t : Addr) : List (Str × V) := putF "wishes" (.ref t) (putF "names" (.int n) [])
theorem bkF_names (n : Int) (t : Addr) : (bkF n t).lookup ("names" : Str) = some (.int n) := by
  unfold bkF
  rw [lookup_putF, if_neg nw_ne, lookup_putF, if_pos rfl]
theorem bkF_wishes (n : Int) (t : Addr) : (bkF n t).lookup ("wishes" : Str) = some (.ref t) := by
  unfold bkF
  rw [lookup_putF, if_pos rfl]
/-- a tuple of wishes -/
def RowsT (K : PySem.W.Frag) (H : Hp) (t : Addr) (N : List Wish) : Prop := ∃ M : List WRow, M.map (·.2) = N ∧ SqT K H t (M.map fun q => V.ref q.1) ∧ ∀ q ∈ M, WishH K H q.1 q.2
theorem RowsT.same {K : PySem.W.Frag} {H H1 : Hp} {t : Addr} {N : List Wish} (e : Same H H1) (h : RowsT K H t N) : RowsT K H1 t N := by
  obtain ⟨M, h1, h2, h3⟩ := h
  exact ⟨M, h1, sqT_same e h2, fun q hq => (h3 q hq).same e⟩
/-- a Book of n names with the wishes N at b -/
def BookAt (K : PySem.W.Frag) (C : Addr) (H : Hp) (b : Addr) (n : Int) (N : List Wish) : Prop := ∃ dx t, H b = some (.ins C dx (bkF n t)) ∧ RowsT K H t N
theorem BookAt.same {K : PySem.W.Frag} {C : Addr} {H H1 : Hp} {b : Addr} {n : Int} {N : List Wish} (e : Same H H1) (h : BookAt K C H b n N) : BookAt K C H1 b n N := by
  obtain ⟨dx, t, h1, h2⟩ := h
  exact ⟨dx, t, e _ _ h1, h2.same e⟩
/-- what the text says of the class -/
structure BkTxt (K : PySem.W.Frag) (mg : Str → Option Value) (C : Addr) : Prop where
  cl : Cls K C
  nN : NoAttr K C "names"
  nW : NoAttr K C "wishes"
  gC : mg "Book" = some (.ref C)
  rd : ∃ mc, ClX.CRead K C mc ∧ (∃ u, ClX.CVal K C mc "MOST_NAMES" (.int 40) u) ∧ ∃ u, ClX.CVal K C mc "MOST_WISHES" (.int 128) u
  mlen : mg "len" = none
  mtup : mg "tuple" = none
theorem rows_off {K : PySem.W.Frag} {H : Hp} {b C dx : Addr} {fs : List (Str × V)} {u : HO} (e : H b = some (.ins C dx fs)) {a : Addr} {xs : List V} (h : SqT K H a xs) : SqT K (upd H b u) a xs := by
  rcases h with (h | ⟨z, h⟩) | h
  · exact .inl (.inl ((upd_ne (fun q => by rw [q, e] at h; cases h)).trans h))
  · exact .inl (.inr ⟨z, (upd_ne (fun q => by rw [q, e] at h; cases h)).trans h⟩)
  · exact .inr h
theorem wish_off {K : PySem.W.Frag} {H : Hp} {b C dx : Addr} {fs : List (Str × V)} {u : HO} (e : H b = some (.ins C dx fs)) {a : Addr} {r : Wish} (h : WishH K H a r) : WishH K (upd H b u) a r := by
  obtain ⟨xs, h1, h2⟩ := h
  exact ⟨xs, rows_off e h1, eachV_mono (fun x p ⟨c, e1, e2⟩ => ⟨c, e1, (upd_ne (fun q => by rw [q, e] at e2; cases e2)).trans e2⟩) h2⟩
end Ns
namespace Km
open PySem PySem.Spec PyProof.Rows L2 Ns
def spInit (K : PySem.W.Frag) (C : Addr) : Sp := fun vs H Q _ => ∃ (b dx : Addr) (n : Int) (l : Addr) (rs : List WRow) (D : List Wish), vs = [.ref b, .int n, .ref l] ∧ H b = some (.ins C dx []) ∧ 0 ≤ n ∧ n ≤ 40 ∧ SqL K H l (rs.map fun p => V.ref p.1) ∧ (∀ p ∈ rs, RowH K H p.1 p.2 ∧ Good n p.2) ∧ rs.length ≤ 1000 ∧ (∀ p ∈ rs, p.2 ∈ D) ∧ D.length ≤ 76 ∧
  ∀ (N : List Wish) (H' : Hp), Asc N → (∀ r, r ∈ N ↔ r ∈ rs.map (·.2)) → N.length ≤ 76 → (∀ c o, H c = some o → c ≠ b → H' c = some o) → BookAt K C H' b n N → Q .non H'
theorem scInit : FnScope ["self", "names", "wishes", "different"] ["self", "names", "wishes"] (defScope sBook) := ⟨rfl, rfl, rfl, by decide +kernel, rfl, by decide +kernel, by decide +kernel⟩
section
variable {P : Program} {w : World} {K : PySem.W.Frag} {mg : Str → Option Value} {base : Heap} {f : Addr} {fd : FuncData}
theorem ok_init {C fD : Addr} {fdD : FuncData} (T : BkTxt K mg C) (F : Fun K "__init__" "Book.__init__" sBook f fd)
    (GD : FnOk P w K mg base CX0 2 fD fdD ["names", "rows"] (spDiff K)) (kD : PySem.W.keepIn K (.ref fD) = true) (bD : Binds K fdD ["names", "rows"] []) (mD : mg "different_wishes" = some (.ref fD)) :
    FnOk P w K mg base CX0 3 f fd ["self", "names", "wishes"] (spInit K C) := by
  refine F.ok scInit (fun vs H Q E h => ?_) (fun cdv A outer s H vs Q E hr h => ?_)
  · obtain ⟨b, dx, n, l, rs, D, rfl, _⟩ := h
    rfl
  obtain ⟨b, dx, n, l, rs, D, rfl, hb, n0, n40, hL, hrow, h1000, hD, few, q⟩ := h
  have nd := scInit.nd
  obtain ⟨mc, rd, ⟨uN, vN⟩, ⟨uW, vW⟩⟩ := T.rd
  refine ⟨_, pss_cons (ps_if (PW.pt (pw_or (pt_cmpR op_lt (pv 1) pe_int (nomark _)) (pw_or1 (pt_cmpR op_gt (pv 1) (ClX.pe_cval (pe_glob (v := .ref C) rfl T.gC rfl)) (nomark _))))) (pss_one ps_no) pss_nil)
    (pss_cons (ps_set (i := 3) nd rfl (Or.inl rfl) (pe_call GD hr rfl mD kD bD .nil pass0 (pa_cons (pv 1) (pa_cons (pv 2) pa_nil))))
    (pss_cons (ps_if (pt_cmpR op_gt (pe_callB call_len_seq rfl T.mlen PySem.boot_len (pa_cons (pv 3) pa_nil)) (ClX.pe_cval (pe_glob (v := .ref C) rfl T.gC rfl)) (nomark _)) (pss_one ps_no) pss_nil)
    (pss_cons (ps_fld (pv 0) (pv 1) rfl)
    (pss_one (ps_fld (pv 0) (pe_tupleOf rfl T.mtup (pv 3)) rfl))))), ?_⟩
  refine ⟨_, rfl, _, _, rfl, rfl, _, rfl, iteND (by omega) ?_⟩
  refine ⟨_, rfl, C, mc, _, uN, rfl, rd, vN, _, _, rfl, rfl, _, rfl, iteND (by omega) ?_⟩
  refine ⟨_, rfl, _, rfl, n, l, rs, D, rfl, hL, hrow, h1000, hD, few, fun N p H1 asc hmem hw hN s1 hp e1 => ?_⟩
  refine ⟨_, rfl, p, _, rfl, .inl (.inl (.inl e1)), C, mc, _, uW, rfl, rd, vW, _, _, rfl, rfl, _, rfl, iteND (by rw [List.length_map]; omega) ?_⟩
  have hb1 := s1 _ _ hb
  refine ⟨_, rfl, _, rfl, b, C, dx, _, rfl, hb1, T.cl, T.nN, (by show 0 < 1000; decide), ?_⟩
  have npb : p ≠ b := fun z => by rw [z, hb] at hp; cases hp
  have e2 : (upd H1 b (.ins C dx (putF "names" (.int n) []))) p = some (.lst (N.map fun q => V.ref q.1)) := (upd_ne npb).trans e1
  refine ⟨_, rfl, .inl ⟨p, _, rfl, .inl (.inl e2), fun t ht => ?_⟩⟩
  have ntb : b ≠ t := fun z => by rw [← z, upd_same] at ht; cases ht
  have e3 : (upd (upd H1 b (.ins C dx (putF "names" (.int n) []))) t (.tup (N.map fun q => V.ref q.1))) b = some (.ins C dx (putF "names" (.int n) [])) := (upd_ne ntb).trans upd_same
  refine ⟨_, rfl, b, C, dx, _, rfl, e3, T.cl, T.nW, (by show 1 < 1000; decide), ?_⟩
  refine q (N.map (·.2)) _ asc hmem (by rw [List.length_map]; exact hN) (fun c o e hc => ?_) ⟨dx, t, upd_same, N, rfl, rows_off e3 (SqT.of upd_same), fun z hz => ?_⟩
  · have z1 := s1 _ _ e
    have z2 : (upd H1 b (.ins C dx (putF "names" (.int n) []))) c = some o := (upd_ne hc).trans z1
    rw [upd_ne hc]
    exact same_new ht _ _ _ z2
  · exact wish_off e3 ((wish_off hb1 (hw z hz)).same (same_new ht _))
end
end Km
/-! NsDc -/
set_option Elab.async false
set_option linter.all false
set_option maxRecDepth 100000
set_option maxHeartbeats 2000000
/-! a dict comprehension whose keys are tuples -/
namespace Ns
open PySem PySem.Spec PyProof.Rows L2
theorem setT {X : Cx} {pins : List (Addr × Obj)} {σ : L2.St} {H : Hp} {s : Shared} {E : Value → Shared → Prop} {D b : Addr} {kvs : List (List Key × V)} {k : List Key} {v : V} {r : Value} {Q : Unit → Shared → Prop} (hu : X.A.units + 1 < cLine) (I : Inv X pins σ H s) (hD : H D = some (.dT kvs)) (hz : kvs.length < sizeLine)
    (hb : H b = some (.tup (k.map kV))) (rv : RelV v r) (h : ∀ s1, Inv X pins σ (upd H D (.dT (putK kvs k v))) s1 → Q () s1) : wpAny (model X.prog X.w) X.A (dictSet D (.ref b) r) Q E s := by
  obtain ⟨z, hd, xs, rel, dd⟩ := dt_of I.hok hD
  have few : xs.length ≤ sizeLine := by rw [← Paired.length rel]; exact z
  have len : (putK kvs k v).length ≤ sizeLine := by have := length_putK kvs k v; omega
  refine wpAny_dictSet_heap (hsz := few) (knd := tupleKind (mixKind X.prog X.w)) (by show X.A.units < cLine; omega) (key_of I.hok hb) dd fun h1 d1 hs => h _ ?_
  obtain ⟨o, es, ep, g1, g2, g3, g4, _, g5⟩ := d1
  refine d_write I (by rw [hD]; exact True.intro) hs ⟨o, g1⟩ ⟨len, hd, _, (rel.put k hb rv).keeps fun c ys ec => ?_, o, es, ep, g1, g2, g3, g4, g5⟩
  rw [upd_ne (ne_of ec hD (fun q => nomatch q))]
  exact ec
section
variable {X : Cx}
def tDt (wi : TI) (g : TG) (tt : TT) (tk tv : TE) (vs : List Nat) : TE := fun σ H Q => wi σ H fun J H1 => ∀ D, H1 D = none → ∃ W : Nat → Nat → Hp → Prop, (∃ m, W 0 m (upd H1 D (.dT []))) ∧ ∀ i m H, W i m H →
  (J.stop i H ∧ Q (.ref D) H) ∨ (J.go i H ∧ ∃ Nw : Hp → Prop, (∀ H', Nw H' → ∃ m', m' < m ∧ W (i + 1) m' H') ∧ ∀ x H', J.yld i H x H' → g x (wipe σ vs) H' fun σ2 H2 => wipe σ2 vs = wipe σ vs ∧ tt σ2 H2 fun b H3 =>
    if b = true then tk σ2 H3 fun y H4 => tv σ2 H4 fun z Hh => ∃ kvs k c, y = .ref c ∧ Hh c = some (.tup (k.map kV)) ∧ Hh D = some (.dT kvs) ∧ kvs.length < sizeLine ∧ Nw (upd Hh D (.dT (putK kvs k z))) else Nw H3)
theorem dt_core {pins : List (Addr × Obj)} {s : Shared} {σ : L2.St} {H : Hp} {Q : VK} {kk vv trg src : Expr} {tests : List Expr} {blk : Scope} {own : List (Str × Nat)} {plc plc2 : Pos} {wi : TI} {g : TG} {tt : TT} {tk tv : TE} {use : Option (Value → Sem Unit)} {Qf : Value → Shared → Prop}
    (hu : X.A.units + 1 < cLine) (hc : X.calm = true) (hN : X.N.Nodup) (I : Inv X pins σ H s) (okI : PI X trg src wi) (ok : BlkOk X.N X.env.scope blk own)
    (okG : ∀ (s : Shared) (H : Hp) (C : Addr) (cs : List (Str × Addr)) (lent : List Addr), PG (X.blk s H blk (compEnvC blk cs C X.env) lent) trg g) (okT : ∀ (s : Shared) (H : Hp) (C : Addr) (cs : List (Str × Addr)) (lent : List Addr), PTs (X.blk s H blk (compEnvC blk cs C X.env) lent) tests tt)
    (okK : ∀ (s : Shared) (H : Hp) (C : Addr) (cs : List (Str × Addr)) (lent : List Addr), PE (X.blk s H blk (compEnvC blk cs C X.env) lent) kk tk)
    (okE : ∀ (s : Shared) (H : Hp) (C : Addr) (cs : List (Str × Addr)) (lent : List Addr), PE (X.blk s H blk (compEnvC blk cs C X.env) lent) vv tv) (hs : ∀ x, foldedSetIterable src X.env x = pure x)
    (h : tDt wi g tt tk tv (own.map (·.2)) σ H Q)
    (back : ∀ D C s1 m H1, Inv X pins σ H1 s1 → Q (.ref D) H1 → s1.heap.Ns C m → FpOk X pins H1 C → compPost (model X.prog X.w) X.A X.xe use Qf (.ref D) C (.ok .next) s1) :
    wpAny (model X.prog X.w) X.A (comprehension (.DictComp kk vv [⟨trg, src, tests, 0⟩] blk plc) blk X.env plc2 newDict false (eval src X.env) use) Qf X.xe s := by
  have cells : ∀ y ∈ blk.names, y.2 = .free → ∃ c, X.env.cells.lookup y.1 = some c := fun y hy e => by
    rcases ok.free y hy e with k | k
    · exact I.ok.has _ (.inl k)
    · exact I.ok.has _ (.inr k)
  refine wpAny_comprehension_free (use := use) rfl hs (closure_ok cells) ok.kind (fun y hy e => by rw [ok.uniq y hy, e])
    (thn (okI.run pins s σ H _ I h) fun xv s1 hx => thn hx fun iv s2 h2 => ?_)
  obtain ⟨it, lent, ph, J, H2, e, I2, T, ph2, f2, q⟩ := h2
  subst e
  refine wpAny_newObj_type (newEnv_comp ?_)
  generalize hD : s2.heap.objs.size = D
  have noD : H2 D = none := I2.hok.fresh (Nat.le_of_eq hD)
  obtain ⟨W, ⟨mu, wd⟩, eachT⟩ := q D noD
  generalize e3 : ({ s2 with heap := s2.heap.push { cls := .type "dict", data := .dict #[] } } : Shared) = s3
  have I3 : Inv X pins σ (upd H2 D (.dT [])) s3 := by
    rw [← e3]
    refine I2.laid (t' := s2.toks) (fun b o z => Heap.get?_push_of_some _ z) (Nat.le_of_eq hD) ?_
    rw [← hD]
    exact dt_empty s2.heap I2.big
  have h3 : s3.heap = s2.heap.push { cls := .type "dict", data := .dict #[] } := by rw [← e3]
  have lows : ∀ b ∈ lent, b < s2.heap.objs.size := fun b hb => by
    obtain ⟨o, z, _⟩ := T.obj _ _ ph2 b hb
    exact Heap.lt_size z
  have f3 : ∀ b ∈ lent, FpOk X pins (upd H2 D (.dT [])) b ∧ b < s3.heap.objs.size := fun b hb => by
    have low := lows b hb
    refine ⟨⟨?_, (f2 b hb).2⟩, by rw [h3, Heap.size_push]; exact Nat.lt_succ_of_lt low⟩
    rw [upd_ne (by rw [← hD]; exact Nat.ne_of_lt low)]
    exact (f2 b hb).1
  have ph3 : ph 0 s3.heap := T.keep _ _ _ ph2 fun b _ o z => by rw [h3]; exact Heap.get?_push_of_some _ z
  have I4 := block_start I3 ok hN f3
  have rg := okG s3 (upd H2 D (.dT [])) s3.heap.objs.size (cellsFrom (s3.heap.objs.size + 1) blk.names (cloFrom X.env.cells blk.names [])) lent
  have rt := okT s3 (upd H2 D (.dT [])) s3.heap.objs.size (cellsFrom (s3.heap.objs.size + 1) blk.names (cloFrom X.env.cells blk.names [])) lent
  have rk := okK s3 (upd H2 D (.dT [])) s3.heap.objs.size (cellsFrom (s3.heap.objs.size + 1) blk.names (cloFrom X.env.cells blk.names [])) lent
  have re := okE s3 (upd H2 D (.dT [])) s3.heap.objs.size (cellsFrom (s3.heap.objs.size + 1) blk.names (cloFrom X.env.cells blk.names [])) lent
  show codeAny _ _ (.compStart (.DictComp kk vv [⟨trg, src, tests, 0⟩] blk plc) 0 (.ref it) (.ref D) (compEnvC blk (cellsFrom (s3.heap.objs.size + 1) blk.names (cloFrom X.env.cells blk.names [])) s3.heap.objs.size X.env)) (compPost (model X.prog X.w) X.A X.xe use Qf (.ref D) s3.heap.objs.size) { s3 with heap := pushCells (s3.heap.push { cls := .type "dict", data := .dict #[] }) blk.names }
  have none3 : ∀ b ∈ lent, (upd H2 D (.dT [])) b = none := fun b hb => (f3 b hb).1.1
  generalize hce : compEnvC blk (cellsFrom (s3.heap.objs.size + 1) blk.names (cloFrom X.env.cells blk.names [])) s3.heap.objs.size X.env = ev at I4 rg rt rk re ⊢
  have evL : ev.locals = s3.heap.objs.size := by subst hce; rfl
  generalize hH3 : upd H2 D (.dT []) = H3 at I3 I4 rg rt rk re wd none3 f3
  generalize e4 : ({ s3 with heap := pushCells (s3.heap.push { cls := .type "dict", data := .dict #[] }) blk.names } : Shared) = s4 at I4 ⊢
  have ph4 : ph 0 s4.heap := T.keep _ _ _ ph3 fun b _ o z => by rw [← e4]; exact pushCells_keeps _ _ _ _ (Heap.get?_push_of_some _ z)
  have stat : ∀ {σ1 : L2.St} {H1 : Hp} {s1 : Shared}, Inv (X.blk s3 H3 blk ev lent) [] σ1 H1 s1 → (∀ b ∈ lent, H1 b = none) → ∀ b ∈ lent, FpOk (X.blk s3 H3 blk ev lent) [] H1 b := fun {σ1 H1 s1} J hn b hb =>
    ⟨hn b hb, (J.ok.exf b hb).1, J.ok.exfs b hb, .inl hb, fun x c z => (J.ok.exf b hb).2 x c z, fun p hp => absurd (show p ∈ ([] : List (Addr × Obj)) ++ [] from hp) (by simp)⟩
  have loop : codeAny (model X.prog X.w) X.A (.compLoop (.DictComp kk vv [⟨trg, src, tests, 0⟩] blk plc) 0 (.ref it) (.ref D) ev) (compPost (model X.prog X.w) X.A X.xe use Qf (.ref D) s3.heap.objs.size) s4 := by
    refine compLoop_anyD (fun n s1 => ∃ i H1, Inv (X.blk s3 H3 blk ev lent) [] (wipe σ (own.map (·.2))) H1 s1 ∧ ph i s1.heap ∧ (∀ b ∈ lent, H1 b = none) ∧ W i n H1) ?_ mu ⟨0, H3, I4, ph4, none3, wd⟩
    rintro n sa ⟨i, Hh, I5, ph5, n5, wd5⟩
    rcases eachT i n Hh wd5 with ⟨stop, atEnd⟩ | ⟨go, Nw, hNw, step⟩
    · refine thnF (T.done (X.blk s3 H3 blk ev lent) rfl rfl rfl hc i [] sa _ Hh (fun _ _ => False) I5 (stat I5 n5) ph5 stop) fun r sb ⟨hr, I6⟩ => ?_
      subst hr
      have I7 : Inv X pins σ Hh sb := I3.call' (ch := lent) I6.os I6.base I6.hok I6.bare fun b hb => ⟨(f3 b hb).1.2.2.2.1, (f3 b hb).1.2.1, (f3 b hb).1.2.2.2.2.1, (f3 b hb).1.2.2.2.2.2⟩
      have nC : Hh s3.heap.objs.size = none := by
        have z : Hh ev.locals = none := I6.free
        rw [evL] at z
        exact z
      obtain ⟨m, hn, _⟩ := I6.loc
      have hn2 : sb.heap.Ns ev.locals m := hn
      rw [evL] at hn2
      exact back D s3.heap.objs.size sb m Hh I7 atEnd hn2 (I3.fpOk (Nat.le_refl _) nC)
    · refine thnF (T.item (X.blk s3 H3 blk ev lent) rfl rfl rfl hc i [] sa _ Hh (fun _ _ => False) I5 (stat I5 n5) ph5 go) fun r sb ⟨u, hr, h6⟩ => ?_
      subst hr
      refine thnF h6 fun _ sc ⟨x, Hj, I7, r7, y7, ph7, n7⟩ => ?_
      refine thnF (rg.run _ sc _ Hj x u _ (I7.pinned (stat I7 n7) (T.obj _ _ ph7)) r7 (step x Hj y7)) fun _ s8 ⟨σ8, H8, I8, hw8, q8⟩ => ?_
      refine thnF (rt.run _ s8 σ8 H8 _ I8 q8) fun b s9 ⟨H9, I9, q9⟩ => ?_
      have fin : ∀ {s1 : Shared} {H1 : Hp}, Inv (X.blk s3 H3 blk ev lent) ([] ++ pinsAt lent sc.heap) σ8 H1 s1 → Nw H1 → ∃ m, m < n ∧ ∃ i H1, Inv (X.blk s3 H3 blk ev lent) [] (wipe σ (own.map (·.2))) H1 s1 ∧ ph i s1.heap ∧ (∀ b ∈ lent, H1 b = none) ∧ W i m H1 := fun {s1 H1} J nx => by
        obtain ⟨m1, hm, w1⟩ := hNw H1 nx
        have pin1 : ∀ b ∈ lent, ∀ o, sc.heap.get? b = some o → s1.heap.get? b = some o ∧ H1 b = none := fun b hb o z =>
          let y := J.pin (b, o) (List.mem_append_right _ (List.mem_append_right _ (mem_pinsAt hb z)))
          ⟨y.1, y.2.1⟩
        have lenW : (wipe σ (own.map (·.2))).length = σ8.length := by rw [← hw8, wipe_length]
        refine ⟨m1, hm, i + 1, H1, (J.unpinned (pins := [])).weak lenW (fun j v z => ?_), T.keep _ _ _ ph7 fun b hb o z => (pin1 b hb o z).1, fun b hb => ?_, w1⟩
        · rw [← hw8] at z
          exact (wipe_some z).1
        · obtain ⟨o, z, _⟩ := T.obj _ _ ph7 b hb
          exact (pin1 b hb o z).2
      cases b with
      | false =>
        simp only [Bool.false_eq_true, if_false] at q9 ⊢
        exact fin I9 q9
      | true =>
        simp only [if_true] at q9 ⊢
        refine thnF (rk.run _ s9 σ8 H9 _ I9 q9) fun z s10 ⟨yk, H10, I10, r10, q10⟩ => ?_
        refine thnF (re.run _ s10 σ8 H10 _ I10 q10) fun z2 s11 ⟨yv, H11, I11, r11, kvs, k, c, ek, hc11, hD11, hz11, nx⟩ => ?_
        subst ek
        obtain rfl : z = Value.ref c := r10
        exact setT (X := X.blk s3 H3 blk ev lent) hu I11 hD11 hz11 hc11 r11 fun s12 I12 => fin I12 nx
  exact codeAny_compStart_dict loop (T.self X.A 0 _ _ _ ph4 loop)
theorem pe_dt {kk vv trg src : Expr} {tests : List Expr} {blk : Scope} {own : List (Str × Nat)} {plc : Pos} {wi : TI} {g : TG} {tt : TT} {tk tv : TE} (hu : X.A.units + 1 < cLine) (hc : X.calm = true) (hN : X.N.Nodup) (okI : PI X trg src wi) (ok : BlkOk X.N X.env.scope blk own)
    (okG : ∀ (s : Shared) (H : Hp) (C : Addr) (cs : List (Str × Addr)) (lent : List Addr), PG (X.blk s H blk (compEnvC blk cs C X.env) lent) trg g) (okT : ∀ (s : Shared) (H : Hp) (C : Addr) (cs : List (Str × Addr)) (lent : List Addr), PTs (X.blk s H blk (compEnvC blk cs C X.env) lent) tests tt)
    (okK : ∀ (s : Shared) (H : Hp) (C : Addr) (cs : List (Str × Addr)) (lent : List Addr), PE (X.blk s H blk (compEnvC blk cs C X.env) lent) kk tk)
    (okE : ∀ (s : Shared) (H : Hp) (C : Addr) (cs : List (Str × Addr)) (lent : List Addr), PE (X.blk s H blk (compEnvC blk cs C X.env) lent) vv tv) (hs : ∀ x, foldedSetIterable src X.env x = pure x := by intro _; rfl) :
    PE X (.DictComp kk vv [⟨trg, src, tests, 0⟩] blk plc) (tDt wi g tt tk tv (own.map (·.2))) := by
  refine ⟨fun pins s σ H Q I h => ?_⟩
  rw [arm_eval_DictComp]
  refine dt_core hu hc hN I okI ok okG okT okK okE hs h fun D C s1 m H1 J q hn f => ⟨m, hn, fun h2 sb => ?_⟩
  obtain ⟨f0, f1, f2, f3, f4, f5⟩ := f
  exact ⟨.ref D, H1, J.turned (t' := s1.toks) (fun b o hb z => (sb.2 b hb).trans z) f0 f1 f3 f4 f5, rfl, q⟩
theorem dt_tup {K : PySem.W.Frag} {a : Addr} {xs : List V} {g : TG} {tt : TT} {tk tv : TE} {vs : List Nat} {σ : L2.St} {H1 : Hp} {D : Addr} {Qd : Hp → Prop} (Pv : Nat → Hp → Prop) (h0 : Pv 0 (upd H1 D (.dT []))) (lenW : ∀ i H, i ≤ xs.length → Pv i H → SqT K H a xs)
    (hs : ∀ i x H, xs[i]? = some x → Pv i H → g x (wipe σ vs) H fun σ2 H2 => wipe σ2 vs = wipe σ vs ∧ tt σ2 H2 fun b H3 =>
      if b = true then tk σ2 H3 fun y H4 => tv σ2 H4 fun z Hh => ∃ kvs k c, y = .ref c ∧ Hh c = some (.tup (k.map kV)) ∧ Hh D = some (.dT kvs) ∧ kvs.length < sizeLine ∧ Pv (i + 1) (upd Hh D (.dT (putK kvs k z))) else Pv (i + 1) H3) (hd : ∀ H, Pv xs.length H → Qd H) :
    ∃ W : Nat → Nat → Hp → Prop, (∃ m, W 0 m (upd H1 D (.dT []))) ∧ ∀ i m H, W i m H →
      ((Itt K a).stop i H ∧ Qd H) ∨ ((Itt K a).go i H ∧ ∃ Nw : Hp → Prop, (∀ H', Nw H' → ∃ m', m' < m ∧ W (i + 1) m' H') ∧ ∀ x H', (Itt K a).yld i H x H' → g x (wipe σ vs) H' fun σ2 H2 => wipe σ2 vs = wipe σ vs ∧ tt σ2 H2 fun b H3 =>
        if b = true then tk σ2 H3 fun y H4 => tv σ2 H4 fun z Hh => ∃ kvs k c, y = .ref c ∧ Hh c = some (.tup (k.map kV)) ∧ Hh D = some (.dT kvs) ∧ kvs.length < sizeLine ∧ Nw (upd Hh D (.dT (putK kvs k z))) else Nw H3) := by
  refine ⟨fun i m H => m + i = xs.length ∧ Pv i H, ⟨xs.length, rfl, h0⟩, ?_⟩
  rintro i m H ⟨hm, p⟩
  have st := lenW i H (by omega) p
  by_cases lt : i < xs.length
  · refine .inr ⟨⟨xs, xs[i], st, by simp [lt]⟩, Pv (i + 1), fun H' p' => ⟨m - 1, by omega, by omega, p'⟩, fun x H' y => ?_⟩
    obtain ⟨e, y⟩ := y
    subst e
    exact hs i x _ (y xs st) p
  · obtain rfl : i = xs.length := by omega
    exact .inl ⟨⟨xs, st, Nat.le_refl _⟩, hd H p⟩
end
end Ns
/-! KmWords -/
set_option Elab.async false
set_option linter.all false
set_option maxRecDepth 100000
set_option maxHeartbeats 2000000
namespace Ns
open PySem PySem.Spec PyProof.Rows L2
/-- a word as a key -/
def kyW (p : Word) : List Key := [Sum.inl p.1, Sum.inl p.2]
theorem kyW_inj {p q : Word} (h : kyW p = kyW q) : p = q := by
  unfold kyW at h
  have h1 := (List.cons.inj h).1
  have h2 := (List.cons.inj (List.cons.inj h).2).1
  exact Prod.ext (Sum.inl.inj h1) (Sum.inl.inj h2)
end Ns
namespace Km
open PySem PySem.Spec PyProof.Rows L2 Ns
abbrev sHas : Stmt := top 30
def spHas (K : PySem.W.Frag) : Sp := fun vs H Q _ => ∃ (a b : Addr) (r q : Wish), vs = [.ref a, .ref b] ∧ WishH K H a r ∧ WishH K H b q ∧ r.length ≤ 1000 ∧ q.length ≤ 1000 ∧ ∀ H', Same H H' → Q (.bl (r.all fun p => decide (p ∈ q))) H'
theorem scHas : FnScope ["line", "words", "allowed", "word"] ["line", "words"] (defScope sHas) := ⟨rfl, rfl, rfl, by decide +kernel, rfl, by decide +kernel, by decide +kernel⟩
section
variable {P : Program} {w : World} {K : PySem.W.Frag} {mg : Str → Option Value} {base : Heap} {f : Addr} {fd : FuncData}
theorem ok_has {k : Nat} (ma : mg "all" = none) (F : Fun K "has_words" "has_words" sHas f fd) : FnOk P w K mg base CX0 (k + 1) f fd ["line", "words"] (spHas K) := by
  refine F.ok scHas (fun vs H Q E h => ?_) (fun cdv A outer s H vs Q E hr h => ?_)
  · obtain ⟨a, b, r, q, rfl, _⟩ := h
    rfl
  obtain ⟨a, b, r, q, rfl, hA, hB, hr1, hq1, go⟩ := h
  have nd := scHas.nd
  have hu := hu_of hr
  refine ⟨_, pss_cons (ps_set (i := 2) nd rfl (Or.inr rfl) (pe_dt (own := [("word", 3)]) (g := gName 3) (tt := tYes) hu rfl nd (pi_tup (pv 1)) (blkOk_by (N := ["line", "words", "allowed", "word"]) (sc := defScope sHas) (by decide +kernel))
      (fun _ _ _ _ _ => pg_name (i := 3) nd rfl (Or.inl rfl)) (fun _ _ _ _ _ => pts_nil) (fun _ _ _ _ _ => pv 3) (fun _ _ _ _ _ => pe_bl)))
    (pss_one (ps_ret (pe_callB (r := rAll K) (cr_all rfl) rfl ma PyProof.Rows.boot_all (pa_cons
      (pe_lc (own := [("word", 3)]) (g := gName 3) (tt := tYes) rfl nd (pi_tup (pv 0)) (blkOk_by (N := ["line", "words", "allowed", "word"]) (sc := defScope sHas) (by decide +kernel))
        (fun _ _ _ _ _ => pg_name (i := 3) nd rfl (Or.inl rfl)) (fun _ _ _ _ _ => pts_nil) (fun _ _ _ _ _ => pe_cmp (pc_din hu (pv 3) (pv 2)))) pa_nil)))), ?_⟩
  obtain ⟨xs, hxs, eX⟩ := hA
  obtain ⟨ys, hys, eY⟩ := hB
  have lx := eachV_len eX
  have ly := eachV_len eY
  refine ⟨_, rfl, b, rfl, ⟨ys, hys⟩, fun D hD => ?_⟩
  refine dt_tup (K := K) (xs := ys) (fun i H1 => ∃ kvs, H1 D = some (.dT kvs) ∧ Same H H1 ∧ kvs.length ≤ i ∧ ∀ p : Word, (valV kvs (kyW p)).isSome = decide (p ∈ q.take i)) ⟨[], upd_same, same_new hD _, Nat.le_refl _, fun p => rfl⟩ (fun i H1 _ ⟨_, _, sm, _⟩ => sqT_same sm hys) ?_ ?_
  · rintro i x H1 hi ⟨kvs, eD, sm, hk, hv⟩
    obtain ⟨p, hp, c, rfl, hc⟩ := eachV_at eY hi
    have hlt : i < q.length := (List.getElem?_eq_some_iff.mp hp).1
    refine ⟨rfl, _, rfl, kvs, kyW p, c, rfl, sm _ _ hc, eD, Nat.lt_of_le_of_lt (show kvs.length ≤ 1000 by omega) (by decide), _, upd_same, fun z o e => ?_, Nat.le_trans (length_putK _ _ _) (by omega), fun p2 => ?_⟩
    · rw [upd_ne (ne_of_none e hD)]
      exact sm _ _ e
    · have t : q.take (i + 1) = q.take i ++ [p] := by rw [List.take_succ, hp]; rfl
      rw [valV_put, t]
      by_cases e : kyW p2 = kyW p
      · rw [if_pos e, kyW_inj e]
        simp
      · rw [if_neg e, hv]
        have ne : p2 ≠ p := fun z => e (by rw [z])
        simp [ne]
  · rintro H1 ⟨kvs, eD, sm, hk, hv⟩
    rw [ly, List.take_length] at hv
    refine ⟨_, rfl, a, rfl, ⟨xs, sqT_same sm hxs⟩, fun L hL => ?_⟩
    refine lc_tup (K := K) (xs := xs) (fun i H2 => H2 L = some (.lst (((r.take i).map fun p => decide (p ∈ q)).map V.bl)) ∧ Same H1 H2) ⟨upd_same, same_new hL _⟩ (fun i H2 _ ⟨_, s2⟩ => sqT_same (sm.trans s2) hxs) ?_ ?_
    · rintro i x H2 hi ⟨eL, s2⟩
      obtain ⟨p, hp, c, rfl, hc⟩ := eachV_at eX hi
      have hlt : i < r.length := (List.getElem?_eq_some_iff.mp hp).1
      have s3 : Same H H2 := sm.trans s2
      refine ⟨rfl, _, rfl, _, rfl, D, _, rfl, DGet.t (k := kyW p) (s2 _ _ eD) (s3 _ _ hc), ?_⟩
      refine ⟨_, eL, Nat.lt_of_le_of_lt (show (((r.take i).map fun p => decide (p ∈ q)).map V.bl).length ≤ 1000 by rw [List.length_map, List.length_map, List.length_take]; omega) (by decide), ?_, fun z o e => ?_⟩
      · rw [upd_same, hv]
        have t : r.take (i + 1) = r.take i ++ [p] := by rw [List.take_succ, hp]; rfl
        rw [t, List.map_append, List.map_append]
        rfl
      · rw [upd_ne (ne_of_none e hL)]
        exact s2 _ _ e
    · rintro H2 ⟨eL, s2⟩
      rw [lx, List.take_length] at eL
      refine ⟨L, _, rfl, .inl (.inl eL), ?_⟩
      have e : (r.map fun p => decide (p ∈ q)).all id = r.all fun p => decide (p ∈ q) := by
        rw [List.all_map]
        rfl
      rw [e]
      exact go H2 (sm.trans s2)
end
end Km
/-! NsIn -/
set_option Elab.async false
set_option linter.all false
set_option maxRecDepth 100000
set_option maxHeartbeats 2000000
namespace Ns
open PySem PySem.Spec PySem.SeqAt PySem.W PyProof.Rows L2
theorem word_key {h : Heap} {v : Value} {p : Word} (x : WordAt h v p) : NestedIs h (kWord p) v := by
  obtain ⟨a, o, t1, t2, n, e, g, c, d⟩ := x
  subst e
  exact .tup g c d (.cons (.int _ _) (.cons (.int _ _) .nil))
theorem kWord_inj {p q : Word} (h : kWord p = kWord q) : p = q := by
  have z : unWord (kWord p) = unWord (kWord q) := by rw [h]
  exact z
theorem word_inj {h : Heap} {v : Value} {p q : Word} (x : WordAt h v p) (y : WordAt h v q) : p = q := kWord_inj (NestedIs.inj _ _ _ (word_key x) (word_key y))
open Classical in
/-- is the value the word p -/
noncomputable def isW (h : Heap) (p : Word) (u : Value) : Bool := decide (WordAt h u p)
open Classical in
theorem isW_pos {h : Heap} {p : Word} {u : Value} (x : WordAt h u p) : isW h p u = true := decide_eq_true x
open Classical in
theorem isW_neg {h : Heap} {p : Word} {u : Value} (x : ¬ WordAt h u p) : isW h p u = false := decide_eq_false x
theorem isW_any {h : Heap} {p : Word} : ∀ {us : List Value} {r : Wish}, EachIs (WordAt h) us r → us.any (isW h p) = decide (p ∈ r)
  | _, _, .nil => by simp
  | _, _, .cons (b := q) (bs := r) x e => by
    rw [List.any_cons, isW_any e]
    by_cases c : q = p
    · subst c
      have z := isW_pos x
      rw [z]
      simp
    · have z := isW_neg (p := p) fun y => c (word_inj x y)
      have c2 : p ≠ q := fun e => c e.symm
      rw [z]
      simp [c2]
theorem isW_eq {A : Around} {s : Shared} {p : Word} {v : Value} (hv : WordAt s.heap v p) (hu : A.units + 8 < cLine) : ∀ {us : List Value} {r : Wish}, EachIs (WordAt s.heap) us r → ∀ u ∈ us, EqAt A s u v (isW s.heap p u)
  | _, _, .nil => fun u h => nomatch h
  | _, _, .cons (b := q) x e => fun u h => by
    rcases List.mem_cons.mp h with z | z
    · subst z
      have k := eqAt_key (kWord q) (kWord p) A s u v (word_key x) (word_key hv) (by
        have d : NestedKey.depth (kWord q) = 1 := rfl
        rw [d]
        have := Nat.min_le_left 1 (NestedKey.depth (kWord p))
        omega)
      have b : NestedKey.beq (kWord q) (kWord p) = isW s.heap p u := by
        rw [← NestedKey.decide_eq]
        by_cases c : q = p
        · subst c
          rw [decide_eq_true rfl]
          exact (isW_pos x).symm
        · rw [decide_eq_false fun y => c (kWord_inj y)]
          exact (isW_neg fun y => c (word_inj x y)).symm
      rw [← b]
      exact k
    · exact isW_eq hv hu e u z
/-- a word in a tuple of words -/
def rInW (K : PySem.W.Frag) : R2 := fun x y H Q => ∃ (p : Word) (r : Wish) (a : Addr), WordH K H x p ∧ y = .ref a ∧ WishH K H a r ∧ Q (.bl (decide (p ∈ r))) H
theorem op_inW {X : Cx} (hu : X.A.units + 64 < cLine) : OpR X (compareOp .In) (rInW X.K) := by
  intro pins s σ H x y v u Q I rx ry h
  obtain ⟨p, r, a, hp, rfl, hW, q⟩ := h
  obtain rfl : u = Value.ref a := ry
  have hv := word_at I hp rx
  obtain ⟨xs, hT, hE⟩ := hW
  obtain ⟨its, rv, pl, hz⟩ := I.tuple hT
  have each := words_at I hE rv
  refine in_tupleAt (isW s.heap p) pl (fun w hw => isW_eq hv (by show X.A.in1.units + 8 < cLine; show X.A.units + 1 + 8 < cLine; omega) each w (by simpa using hw)) ⟨.bl _, H, I, rfl, ?_⟩
  rw [show its.toArray.any (isW s.heap p) = its.any (isW s.heap p) by simp, isW_any each]
  exact q
end Ns
/-! KmNode -/
set_option Elab.async false
set_option linter.all false
set_option maxRecDepth 100000
set_option maxHeartbeats 2000000
namespace Ns
open PySem PySem.Spec PyProof.Rows L2
/-- a line tree: a leaf with an index, or a node with its name, its line and its two sides -/
inductive LT where
  | wish (i : Int)
  | frm (nm : Int) (line : Wish) (l r : LT)
def LRep (K : PySem.W.Frag) (H : Hp) : V → LT → Prop
  | x, .wish i => ∃ a, x = .ref a ∧ H a = some (.tup [.str "wish", .int i])
  | x, .frm nm line l r => ∃ a b vl vr, x = .ref a ∧ H a = some (.tup [.str "from", .int nm, .ref b, vl, vr]) ∧ WishH K H b line ∧ LRep K H vl l ∧ LRep K H vr r
theorem LRep.same {K : PySem.W.Frag} {H H1 : Hp} (e : Same H H1) : ∀ {t : LT} {x : V}, LRep K H x t → LRep K H1 x t
  | .wish i, x, ⟨a, h1, h2⟩ => ⟨a, h1, e _ _ h2⟩
  | .frm nm line l r, x, ⟨a, b, vl, vr, h1, h2, h3, h4, h5⟩ => ⟨a, b, vl, vr, h1, e _ _ h2, h3.same e, h4.same e, h5.same e⟩
/-- the line that a node stands for -/
def lineOf (N : List Wish) : LT → Option Wish
  | .wish i => if 0 ≤ i then N[i.toNat]? else none
  | .frm _ line _ _ => some line
theorem wf_ne : ¬ (V.str "from" = V.str "wish") := by decide +kernel
theorem rowsT_at {K : PySem.W.Frag} {H : Hp} {t : Addr} {N : List Wish} (h : RowsT K H t N) {i : Nat} {r : Wish} (e : N[i]? = some r) : ∃ (M : List WRow) (a : Addr), SqT K H t (M.map fun q => V.ref q.1) ∧ (M.map fun q => V.ref q.1)[i]? = some (.ref a) ∧ WishH K H a r ∧ M.length = N.length := by
  obtain ⟨M, rfl, h2, h3⟩ := h
  rw [List.getElem?_map] at e
  cases hq : M[i]? with
  | none => rw [hq] at e; cases e
  | some q =>
    rw [hq] at e
    obtain rfl : q.2 = r := Option.some.inj e
    exact ⟨M, q.1, h2, by rw [List.getElem?_map, hq]; rfl, h3 q (List.mem_of_getElem? hq), (List.length_map _).symm⟩
theorem atI_of {xs : List V} {z : Int} {i : Nat} (e : z = (i : Int)) {x : V} (h : xs[i]? = some x) : atI xs z = some x := by
  rw [e]
  exact atI_nat h
end Ns
namespace Km
open PySem PySem.Spec PyProof.Rows L2 Ns
abbrev sLineOf : Stmt := top 29
abbrev sNodeF : Stmt := top 26
def spLineOf (K : PySem.W.Frag) (C : Addr) : Sp := fun vs H Q _ => ∃ (b : Addr) (x : V) (n : Int) (N : List Wish) (t : LT) (r : Wish), vs = [.ref b, x] ∧ BookAt K C H b n N ∧ LRep K H x t ∧ lineOf N t = some r ∧ ∀ a, WishH K H a r → Q (.ref a) H
theorem scLineOf : FnScope ["book", "node"] ["book", "node"] (defScope sLineOf) := ⟨rfl, rfl, rfl, by decide +kernel, rfl, by decide +kernel, by decide +kernel⟩
section
variable {P : Program} {w : World} {K : PySem.W.Frag} {mg : Str → Option Value} {base : Heap} {f : Addr} {fd : FuncData} {C : Addr}
theorem ok_lineOf {k : Nat} (T : BkTxt K mg C) (F : Fun K "line_of" "line_of" sLineOf f fd) : FnOk P w K mg base CX0 (k + 1) f fd ["book", "node"] (spLineOf K C) := by
  refine F.ok scLineOf (fun vs H Q E h => ?_) (fun cdv A outer s H vs Q E hr h => ?_)
  · obtain ⟨b, x, n, N, t, r, rfl, _⟩ := h
    rfl
  obtain ⟨b, x, n, N, t, r, rfl, hB, hT, hl, q⟩ := h
  refine ⟨_, pss_one (ps_ret (pe_ifExp (pt_cmpR op_eq (pe_ix ix_tup (pv 1) pe_int (fun _ _ => rfl)) pe_str (nomark _)) (pe_ix ix_tup (pe_fld (pv 0) rfl) (pe_ix ix_tup (pv 1) pe_int (fun _ _ => rfl)) (fun _ _ => rfl)) (pe_ix ix_tup (pv 1) pe_int (fun _ _ => rfl)))), ?_⟩
  cases t with
  | wish i =>
    obtain ⟨a, rfl, ha⟩ := hT
    refine ⟨_, rfl, a, _, 0, _, rfl, rfl, SqT.of ha, atI_nat (j := 0) rfl, rfl, _, rfl, iteD rfl ?_⟩
    obtain ⟨dx, t, hb, hR⟩ := hB
    have i0 : 0 ≤ i := by
      by_cases c : 0 ≤ i
      · exact c
      · rw [show lineOf N (.wish i) = none from if_neg c] at hl; cases hl
    have e : N[i.toNat]? = some r := by
      rw [show lineOf N (.wish i) = N[i.toNat]? from if_pos i0] at hl
      exact hl
    obtain ⟨M, a2, h1, h2, h3, _⟩ := rowsT_at hR e
    refine ⟨_, rfl, b, C, dx, _, _, rfl, hb, T.cl, T.nW, bkF_wishes n t, _, rfl, a, _, 1, _, rfl, rfl, SqT.of ha, atI_nat (j := 1) rfl, t, _, i, _, rfl, rfl, h1, atI_of (by omega) h2, q a2 h3⟩
  | frm nm line l r2 =>
    obtain ⟨a, c, vl, vr, rfl, ha, hW, _, _⟩ := hT
    obtain rfl : line = r := Option.some.inj hl
    exact ⟨_, rfl, a, _, 0, _, rfl, rfl, SqT.of ha, atI_nat (j := 0) rfl, rfl, _, rfl, iteND wf_ne ⟨_, rfl, a, _, 2, _, rfl, rfl, SqT.of ha, atI_nat (j := 2) rfl, q c hW⟩⟩
end
end Km
/-! KmFault -/
set_option Elab.async false
set_option linter.all false
set_option maxRecDepth 100000
set_option maxHeartbeats 2000000
namespace Ns
open PySem PySem.Spec PyProof.Rows L2
def hasW (o : Option Wish) (q : Wish) : Bool := match o with
  | some r => r.all fun p => decide (p ∈ q)
  | none => true
/-- the fault of one node, its sides taken as they are -/
def nodeF (n : Int) (N : List Wish) : LT → Option Str
  | .wish i => if 0 ≤ i ∧ i < (N.length : Int) then none else some "wish"
  | .frm nm line l r => if isR n 0 line = false then some "line" else if nm < 1 ∨ n < nm then some "name" else if (nm, (0 : Int)) ∈ line ∨ (nm, (1 : Int)) ∈ line then some "asked" else
    if hasW (lineOf N l) (line ++ [(nm, 1)]) = false then some "left" else if hasW (lineOf N r) (line ++ [(nm, 0)]) = false then some "right" else none
def kindV : Option Str → V
  | none => .non
  | some k => .str k
/-- what has been judged below a node, and the sizes -/
def Sides (N : List Wish) : LT → Prop
  | .wish _ => True
  | .frm _ line l r => line.length ≤ 900 ∧ (∃ q, lineOf N l = some q ∧ q.length ≤ 900) ∧ ∃ q, lineOf N r = some q ∧ q.length ≤ 900
theorem pair_word {K : PySem.W.Frag} {H : Hp} {t : Addr} {a b : Int} (h : H t = some (.tup [.int a, .int b])) : WordH K H (.ref t) (a, b) := ⟨t, rfl, h⟩
theorem wish_snoc {K : PySem.W.Frag} {H : Hp} {a c : Addr} {xs : List V} {r : Wish} {x : V} {p : Word} (h2 : WishH.EachV (WordH K H) xs r) (hp : WordH K H x p) (hc : SqT K H c (xs ++ [x])) : WishH K H c (r ++ [p]) := ⟨_, hc, eachV_snoc h2 hp⟩
theorem cat_word {K : PySem.W.Frag} {H : Hp} {c t4 t3 : Addr} {nm v : Int} {line : Wish} {Q : VK} (hW : WishH K H c line) (ht : H t4 = some (.tup [.ref t3])) (h3 : H t3 = some (.tup [.int nm, .int v])) (hl : line.length ≤ 900)
    (q : ∀ p H', Same H H' → WishH K H' p (line ++ [(nm, v)]) → Q (.ref p) H') : rCatA K (.ref c) (.ref t4) H Q := by
  obtain ⟨xs, hS, hE⟩ := hW
  have lx := eachV_len hE
  refine ⟨c, t4, xs, _, rfl, rfl, hS, SqT.of ht, Nat.le_trans (show xs.length + 1 ≤ 1000 by omega) (by decide), fun e => ?_, fun _ e => (by cases e), fun _ _ p hp => ?_⟩
  · subst e
    have e2 : line = [] := List.eq_nil_of_length_eq_zero (by simpa using lx.symm)
    subst e2
    exact q t4 H (Same.refl H) ⟨_, SqT.of ht, pair_word h3, trivial⟩
  · have s1 := same_new hp (.tup (xs ++ [V.ref t3]))
    exact q p _ s1 ⟨_, SqT.of upd_same, eachV_snoc (eachV_mono (fun x p => WordH.same s1) hE) (pair_word (s1 _ _ h3))⟩
def askF (n : Int) (line : Wish) (nm : Int) : Option Str := if isR n 0 line = false then some "line" else if nm < 1 ∨ n < nm then some "name" else if (nm, (0 : Int)) ∈ line ∨ (nm, (1 : Int)) ∈ line then some "asked" else none
def sidesF (line : Wish) (nm : Int) (ql qr : Wish) : Option Str := if (ql.all fun p => decide (p ∈ line ++ [(nm, 1)])) = false then some "left" else if (qr.all fun p => decide (p ∈ line ++ [(nm, 0)])) = false then some "right" else none
theorem nodeF_frm (n : Int) (N : List Wish) (nm : Int) (line : Wish) (l r : LT) : nodeF n N (.frm nm line l r) = (if isR n 0 line = false then some ("line" : Str) else if nm < 1 ∨ n < nm then some ("name" : Str) else if (nm, (0 : Int)) ∈ line ∨ (nm, (1 : Int)) ∈ line then some ("asked" : Str) else
    if hasW (lineOf N l) (line ++ [(nm, 1)]) = false then some ("left" : Str) else if hasW (lineOf N r) (line ++ [(nm, 0)]) = false then some ("right" : Str) else none) := rfl
theorem nodeF_ask {n : Int} {N : List Wish} {nm : Int} {line : Wish} {l r : LT} {k : Str} (h : askF n line nm = some k) : nodeF n N (.frm nm line l r) = some k := by
  unfold askF at h
  rw [nodeF_frm]
  split at h
  · rename_i c
    rw [if_pos c]; exact h
  · rename_i c
    rw [if_neg c]
    split at h
    · rename_i c2
      rw [if_pos c2]; exact h
    · rename_i c2
      rw [if_neg c2]
      split at h
      · rename_i c3
        rw [if_pos c3]; exact h
      · cases h
theorem nodeF_sides {n : Int} {N : List Wish} {nm : Int} {line : Wish} {l r : LT} {ql qr : Wish} (h : askF n line nm = none) (el : lineOf N l = some ql) (er : lineOf N r = some qr) : nodeF n N (.frm nm line l r) = sidesF line nm ql qr := by
  unfold askF at h
  unfold sidesF
  rw [nodeF_frm]
  split at h
  · cases h
  · rename_i c
    rw [if_neg c]
    split at h
    · cases h
    · rename_i c2
      rw [if_neg c2]
      split at h
      · cases h
      · rename_i c3
        rw [if_neg c3, el, er]
        rfl
end Ns
namespace Km
open PySem PySem.Spec PyProof.Rows L2 Ns
abbrev sAskF : Stmt := top 27
abbrev sSidesF : Stmt := top 28
def spAskF (K : PySem.W.Frag) (C : Addr) : Sp := fun vs H Q _ => ∃ (b c : Addr) (n nm : Int) (N : List Wish) (line : Wish), vs = [.ref b, .ref c, .int nm] ∧ BookAt K C H b n N ∧ WishH K H c line ∧ line.length ≤ 900 ∧ ∀ H', Same H H' → Q (kindV (askF n line nm)) H'
theorem scAskF : FnScope ["book", "line", "name"] ["book", "line", "name"] (defScope sAskF) := ⟨rfl, rfl, rfl, by decide +kernel, rfl, by decide +kernel, by decide +kernel⟩
def spSidesF (K : PySem.W.Frag) : Sp := fun vs H Q _ => ∃ (c al ar : Addr) (nm : Int) (line ql qr : Wish), vs = [.ref c, .int nm, .ref al, .ref ar] ∧ WishH K H c line ∧ WishH K H al ql ∧ WishH K H ar qr ∧ line.length ≤ 900 ∧ ql.length ≤ 900 ∧ qr.length ≤ 900 ∧ ∀ H', Same H H' → Q (kindV (sidesF line nm ql qr)) H'
theorem scSidesF : FnScope ["line", "name", "left_line", "right_line"] ["line", "name", "left_line", "right_line"] (defScope sSidesF) := ⟨rfl, rfl, rfl, by decide +kernel, rfl, by decide +kernel, by decide +kernel⟩
def spNodeF (K : PySem.W.Frag) (C : Addr) : Sp := fun vs H Q _ => ∃ (b : Addr) (x : V) (n : Int) (N : List Wish) (t : LT), vs = [.ref b, x] ∧ BookAt K C H b n N ∧ LRep K H x t ∧ Sides N t ∧ ∀ H', Same H H' → Q (kindV (nodeF n N t)) H'
theorem scNodeF : FnScope ["book", "node", "kind"] ["book", "node"] (defScope sNodeF) := ⟨rfl, rfl, rfl, by decide +kernel, rfl, by decide +kernel, by decide +kernel⟩
section
variable {P : Program} {w : World} {K : PySem.W.Frag} {mg : Str → Option Value} {base : Heap} {f : Addr} {fd : FuncData} {C : Addr}
theorem ok_askF {fR : Addr} {fdR : FuncData} (T : BkTxt K mg C) (F : Fun K "asked_line_fault" "asked_line_fault" sAskF f fd)
    (GR : FnOk P w K mg base CX0 1 fR fdR ["names", "row"] (spRight K)) (kR : PySem.W.keepIn K (.ref fR) = true) (bR : Binds K fdR ["names", "row"] []) (mR : mg "is_right_row" = some (.ref fR)) :
    FnOk P w K mg base CX0 2 f fd ["book", "line", "name"] (spAskF K C) := by
  refine F.ok scAskF (fun vs H Q E h => ?_) (fun cdv A outer s H vs Q E hr h => ?_)
  · obtain ⟨b, c, n, nm, N, line, rfl, _⟩ := h
    rfl
  obtain ⟨b, c, n, nm, N, line, rfl, hB, hW, h900, q⟩ := h
  have nd := scAskF.nd
  have hu : (A.deeper (envOfC "asked_line_fault" (defScope sAskF) s.heap.objs.size f cdv)).units + 64 < cLine := hr.units
  refine ⟨_, pss_cons (ps_if (pt_not (pt_val (pe_call GR hr rfl mR kR bR .nil pass0 (pa_cons (pe_fld (pv 0) rfl) (pa_cons (pv 1) pa_nil))))) (pss_one (ps_ret pe_str)) pss_nil)
    (pss_cons (ps_if (PW.pt (pw_or (pt_cmpR op_lt (pv 2) pe_int (nomark _)) (pw_or1 (pt_cmpR op_gt (pv 2) (pe_fld (pv 0) rfl) (nomark _))))) (pss_one (ps_ret pe_str)) pss_nil)
    (pss_one (ps_ret (pe_ifExp (PW.pt (pw_or (pt_cmpR (op_inW hu) (pe_tup (pa_cons (pv 2) (pa_cons pe_int pa_nil))) (pv 1) (by with_unfolding_all rfl)) (pw_or1 (pt_cmpR (op_inW hu) (pe_tup (pa_cons (pv 2) (pa_cons pe_int pa_nil))) (pv 1) (by with_unfolding_all rfl))))) pe_str pe_non)))), ?_⟩
  have hB0 := hB
  obtain ⟨dx, t, hb, hR⟩ := hB
  refine ⟨_, rfl, b, C, dx, _, _, rfl, hb, T.cl, T.nN, bkF_names n t, _, rfl, n, c, line, rfl, hW, fun H1 s1 => ⟨_, rfl, ?_⟩⟩
  cases hR0 : isR n 0 line with
  | false =>
    have := q H1 s1
    rw [show askF n line nm = some "line" from if_pos hR0] at this
    exact iteT this
  | true =>
  have n0 : ¬ isR n 0 line = false := by rw [hR0]; exact Bool.noConfusion
  refine iteF ⟨_, rfl, _, _, rfl, rfl, _, rfl, ?_⟩
  by_cases c1 : nm < 1
  · have := q H1 s1
    rw [show askF n line nm = some "name" from (if_neg n0).trans (if_pos (.inl c1))] at this
    refine iteD c1 (iteT ?_)
    exact this
  refine iteND c1 ⟨_, rfl, _, rfl, b, C, dx, _, _, rfl, s1 _ _ hb, T.cl, T.nN, bkF_names n t, _, _, rfl, rfl, _, rfl, ?_⟩
  by_cases c2 : n < nm
  · have := q H1 s1
    rw [show askF n line nm = some "name" from (if_neg n0).trans (if_pos (.inr c2))] at this
    exact iteD c2 this
  have n1 : ¬ (nm < 1 ∨ n < nm) := fun z => z.elim c1 c2
  refine iteND c2 ⟨_, rfl, by show 2 ≤ sizeLine; decide, fun t1 ht1 => ?_⟩
  have s2 := s1.trans (same_new ht1 (.tup [.int nm, .int 0]))
  refine ⟨_, rfl, (nm, 0), line, c, pair_word upd_same, rfl, hW.same s2, _, rfl, ?_⟩
  by_cases c3 : (nm, (0 : Int)) ∈ line
  · have := q _ s2
    rw [show askF n line nm = some "asked" from (if_neg n0).trans ((if_neg n1).trans (if_pos (.inl c3)))] at this
    refine iteD c3 (iteT ?_)
    exact this
  refine iteND c3 ⟨_, rfl, by show 2 ≤ sizeLine; decide, fun t2 ht2 => ?_⟩
  have s3 := s2.trans (same_new ht2 (.tup [.int nm, .int 1]))
  refine ⟨_, rfl, (nm, 1), line, c, pair_word upd_same, rfl, hW.same s3, _, rfl, ?_⟩
  by_cases c4 : (nm, (1 : Int)) ∈ line
  · have := q _ s3
    rw [show askF n line nm = some "asked" from (if_neg n0).trans ((if_neg n1).trans (if_pos (.inr c4)))] at this
    exact iteD c4 this
  have n2 : ¬ ((nm, (0 : Int)) ∈ line ∨ (nm, (1 : Int)) ∈ line) := fun z => z.elim c3 c4
  have := q _ s3
  rw [show askF n line nm = none from (if_neg n0).trans ((if_neg n1).trans (if_neg n2))] at this
  exact iteND c4 this
theorem ok_sidesF {fH : Addr} {fdH : FuncData} (F : Fun K "sides_fault" "sides_fault" sSidesF f fd)
    (GH : FnOk P w K mg base CX0 1 fH fdH ["line", "words"] (spHas K)) (kH : PySem.W.keepIn K (.ref fH) = true) (bH : Binds K fdH ["line", "words"] []) (mH : mg "has_words" = some (.ref fH)) :
    FnOk P w K mg base CX0 2 f fd ["line", "name", "left_line", "right_line"] (spSidesF K) := by
  refine F.ok scSidesF (fun vs H Q E h => ?_) (fun cdv A outer s H vs Q E hr h => ?_)
  · obtain ⟨c, al, ar, nm, line, ql, qr, rfl, _⟩ := h
    rfl
  obtain ⟨c, al, ar, nm, line, ql, qr, rfl, hW, hL, hR, h900, hql, hqr, q⟩ := h
  have nd := scSidesF.nd
  refine ⟨_, pss_cons (ps_if (pt_not (pt_val (pe_call GH hr rfl mH kH bH .nil pass0 (pa_cons (pv 2)
      (pa_cons (pe_op op_catA (pv 0) (pe_tup (pa_cons (pe_tup (pa_cons (pv 1) (pa_cons pe_int pa_nil))) pa_nil))) pa_nil))))) (pss_one (ps_ret pe_str)) pss_nil)
    (pss_one (ps_ret (pe_ifExp (pt_val (pe_call GH hr rfl mH kH bH .nil pass0 (pa_cons (pv 3)
      (pa_cons (pe_op op_catA (pv 0) (pe_tup (pa_cons (pe_tup (pa_cons (pv 1) (pa_cons pe_int pa_nil))) pa_nil))) pa_nil)))) pe_non pe_str))), ?_⟩
  refine ⟨_, rfl, _, rfl, _, rfl, by show 2 ≤ sizeLine; decide, fun t3 ht3 => ⟨by show 1 ≤ sizeLine; decide, fun t4 ht4 => ?_⟩⟩
  have sA := same_new ht3 (.tup [.int nm, .int 1])
  have sB := same_new ht4 (.tup [.ref t3])
  have s4 := sA.trans sB
  refine cat_word (hW.same s4) upd_same (sB _ _ upd_same) h900 fun p1 H5 s5 hp1 => ?_
  have s6 := s4.trans s5
  refine ⟨al, p1, ql, line ++ [(nm, 1)], rfl, hL.same s6, hp1, by omega, by rw [List.length_append]; show _ + 1 ≤ _; omega, fun H6 s7 => ⟨_, rfl, ?_⟩⟩
  have s8 := s6.trans s7
  cases hWl : ql.all (fun p => decide (p ∈ line ++ [(nm, 1)])) with
  | false =>
    have := q _ s8
    rw [show sidesF line nm ql qr = some "left" from if_pos hWl] at this
    exact iteT this
  | true =>
  have n3 : ¬ (ql.all (fun p => decide (p ∈ line ++ [(nm, 1)]))) = false := by rw [hWl]; exact Bool.noConfusion
  refine iteF ?_
  refine ⟨_, rfl, _, rfl, _, rfl, by show 2 ≤ sizeLine; decide, fun t5 ht5 => ⟨by show 1 ≤ sizeLine; decide, fun t6 ht6 => ?_⟩⟩
  have sC := same_new ht5 (.tup [.int nm, .int 0])
  have sD := same_new ht6 (.tup [.ref t5])
  have s9 := s8.trans (sC.trans sD)
  refine cat_word (hW.same s9) upd_same (sD _ _ upd_same) h900 fun p2 H7 s10 hp2 => ?_
  have s11 := s9.trans s10
  refine ⟨ar, p2, qr, line ++ [(nm, 0)], rfl, hR.same s11, hp2, by omega, by rw [List.length_append]; show _ + 1 ≤ _; omega, fun H8 s12 => ⟨_, rfl, ?_⟩⟩
  have s13 := s11.trans s12
  have := q _ s13
  cases hWr : qr.all (fun p => decide (p ∈ line ++ [(nm, 0)])) with
  | false =>
    rw [show sidesF line nm ql qr = some "right" from (if_neg n3).trans (if_pos hWr)] at this
    exact iteF this
  | true =>
    have n4 : ¬ (qr.all (fun p => decide (p ∈ line ++ [(nm, 0)]))) = false := by rw [hWr]; exact Bool.noConfusion
    rw [show sidesF line nm ql qr = none from (if_neg n3).trans (if_neg n4)] at this
    exact iteT this
theorem ok_nodeF {fA fS fL : Addr} {fdA fdS fdL : FuncData} (T : BkTxt K mg C) (F : Fun K "line_node_fault" "line_node_fault" sNodeF f fd)
    (GA : FnOk P w K mg base CX0 2 fA fdA ["book", "line", "name"] (spAskF K C)) (kA : PySem.W.keepIn K (.ref fA) = true) (bA : Binds K fdA ["book", "line", "name"] []) (mA : mg "asked_line_fault" = some (.ref fA))
    (GS : FnOk P w K mg base CX0 2 fS fdS ["line", "name", "left_line", "right_line"] (spSidesF K)) (kS : PySem.W.keepIn K (.ref fS) = true) (bS : Binds K fdS ["line", "name", "left_line", "right_line"] []) (mS : mg "sides_fault" = some (.ref fS))
    (GL : FnOk P w K mg base CX0 1 fL fdL ["book", "node"] (spLineOf K C)) (kL : PySem.W.keepIn K (.ref fL) = true) (bL : Binds K fdL ["book", "node"] []) (mL : mg "line_of" = some (.ref fL)) :
    FnOk P w K mg base CX0 3 f fd ["book", "node"] (spNodeF K C) := by
  refine F.ok scNodeF (fun vs H Q E h => ?_) (fun cdv A outer s H vs Q E hr h => ?_)
  · obtain ⟨b, x, n, N, t, rfl, _⟩ := h
    rfl
  obtain ⟨b, x, n, N, t, rfl, hB, hT, hS, q⟩ := h
  have nd := scNodeF.nd
  refine ⟨_, pss_cons (ps_if (pt_cmpR op_eq (pe_ix ix_tup (pv 1) pe_int (fun _ _ => rfl)) pe_str (nomark _))
      (pss_one (ps_ret (pe_ifExp (pt_chain op_le op_lt pe_int (pe_ix ix_tup (pv 1) pe_int (fun _ _ => rfl)) (pe_callB call_len_seq rfl T.mlen PySem.boot_len (pa_cons (pe_fld (pv 0) rfl) pa_nil))) pe_non pe_str))) pss_nil)
    (pss_cons (ps_set (i := 2) nd rfl (Or.inl rfl) (pe_call GA hr rfl mA kA bA .nil pass0 (pa_cons (pv 0) (pa_cons (pe_ix ix_tup (pv 1) pe_int (fun _ _ => rfl)) (pa_cons (pe_ix ix_tup (pv 1) pe_int (fun _ _ => rfl)) pa_nil)))))
    (pss_cons (ps_if (pt_cmp (pc_notN (pv 2))) (pss_one (ps_ret (pv 2))) pss_nil)
    (pss_one (ps_ret (pe_call GS hr rfl mS kS bS .nil pass0 (pa_cons (pe_ix ix_tup (pv 1) pe_int (fun _ _ => rfl)) (pa_cons (pe_ix ix_tup (pv 1) pe_int (fun _ _ => rfl))
      (pa_cons (pe_call GL (hr.mono (by decide)) rfl mL kL bL .nil pass0 (pa_cons (pv 0) (pa_cons (pe_ix ix_tup (pv 1) pe_int (fun _ _ => rfl)) pa_nil)))
      (pa_cons (pe_call GL (hr.mono (by decide)) rfl mL kL bL .nil pass0 (pa_cons (pv 0) (pa_cons (pe_ix ix_tup (pv 1) pe_int (fun _ _ => rfl)) pa_nil))) pa_nil)))))))))
    , ?_⟩
  cases t with
  | wish i =>
    obtain ⟨a, rfl, ha⟩ := hT
    obtain ⟨dx, t, hb, hR⟩ := hB
    obtain ⟨M, hM, hST, _⟩ := hR
    have hl : (M.map fun q => V.ref q.1).length = N.length := by rw [List.length_map, ← hM, List.length_map]
    refine ⟨_, rfl, a, _, 0, _, rfl, rfl, SqT.of ha, atI_nat (j := 0) rfl, rfl, _, rfl, iteD rfl ?_⟩
    refine ⟨_, rfl, a, _, 1, _, rfl, rfl, SqT.of ha, atI_nat (j := 1) rfl, ?_⟩
    refine ⟨_, _, rfl, rfl, _, rfl, ?_⟩
    by_cases c0 : 0 ≤ i
    · refine iteD c0 ⟨_, rfl, b, C, dx, _, _, rfl, hb, T.cl, T.nW, bkF_wishes n t, t, _, rfl, .inr hST, _, _, rfl, rfl, _, rfl, ?_⟩
      rw [hl]
      have := q H (Same.refl H)
      by_cases c1 : i < (N.length : Int)
      · rw [show nodeF n N (.wish i) = none from if_pos ⟨c0, c1⟩] at this
        exact iteD c1 this
      · rw [show nodeF n N (.wish i) = some "wish" from if_neg (fun z => c1 z.2)] at this
        exact iteND c1 this
    · have := q H (Same.refl H)
      rw [show nodeF n N (.wish i) = some "wish" from if_neg (fun z => c0 z.1)] at this
      exact iteND c0 ⟨_, rfl, iteF this⟩
  | frm nm line l r =>
    obtain ⟨a, c, vl, vr, rfl, ha, hW, hl, hr2⟩ := hT
    obtain ⟨h900, ⟨ql, el, hql⟩, ⟨qr, er, hqr⟩⟩ := hS
    refine ⟨_, rfl, a, _, 0, _, rfl, rfl, SqT.of ha, atI_nat (j := 0) rfl, rfl, _, rfl, iteND wf_ne ?_⟩
    refine ⟨_, rfl, _, rfl, a, _, 2, _, rfl, rfl, SqT.of ha, atI_nat (j := 2) rfl, _, rfl, a, _, 1, _, rfl, rfl, SqT.of ha, atI_nat (j := 1) rfl, ?_⟩
    refine ⟨b, c, n, nm, N, line, rfl, hB, hW, h900, fun H1 s1 => ?_⟩
    cases hk : askF n line nm with
    | some k =>
      have := q H1 s1
      rw [nodeF_ask hk] at this
      exact ⟨_, rfl, _, rfl, iteT ⟨_, rfl, this⟩⟩
    | none =>
      refine ⟨_, rfl, _, rfl, iteF ?_⟩
      refine ⟨_, rfl, a, _, 2, _, rfl, rfl, SqT.of (s1 _ _ ha), atI_nat (j := 2) rfl, _, rfl, a, _, 1, _, rfl, rfl, SqT.of (s1 _ _ ha), atI_nat (j := 1) rfl, ?_⟩
      refine ⟨_, rfl, _, rfl, a, _, 3, _, rfl, rfl, SqT.of (s1 _ _ ha), atI_nat (j := 3) rfl, b, vl, n, N, l, ql, rfl, hB.same s1, hl.same s1, el, fun al hal => ?_⟩
      refine ⟨_, rfl, _, rfl, a, _, 4, _, rfl, rfl, SqT.of (s1 _ _ ha), atI_nat (j := 4) rfl, b, vr, n, N, r, qr, rfl, hB.same s1, hr2.same s1, er, fun ar har => ?_⟩
      refine ⟨c, al, ar, nm, line, ql, qr, rfl, hW.same s1, hal, har, h900, hql, hqr, fun H2 s2 => ?_⟩
      have := q H2 (s1.trans s2)
      rw [nodeF_sides hk el er] at this
      exact this
end
end Km
/-! KmUp -/
set_option Elab.async false
set_option linter.all false
set_option maxRecDepth 100000
set_option maxHeartbeats 2000000
namespace Ns
open PySem PySem.Spec PyProof.Rows L2
abbrev Spot : Type := List Int × LT
def LT.size : LT → Nat
  | .wish _ => 1
  | .frm _ _ l r => l.size + r.size + 1
/-- root, then right, then left -/
def preR : List Int → LT → List Spot
  | pl, .wish i => [(pl, .wish i)]
  | pl, .frm nm line l r => (pl, .frm nm line l r) :: (preR (pl ++ [1]) r ++ preR (pl ++ [0]) l)
/-- left, then right, then root -/
def post : List Int → LT → List Spot
  | pl, .wish i => [(pl, .wish i)]
  | pl, .frm nm line l r => post (pl ++ [0]) l ++ post (pl ++ [1]) r ++ [(pl, .frm nm line l r)]
theorem preR_rev : ∀ (t : LT) (pl : List Int), (preR pl t).reverse = post pl t
  | .wish i, pl => rfl
  | .frm nm line l r, pl => by
    show ((pl, LT.frm nm line l r) :: (preR (pl ++ [1]) r ++ preR (pl ++ [0]) l)).reverse = post (pl ++ [0]) l ++ post (pl ++ [1]) r ++ [(pl, .frm nm line l r)]
    rw [List.reverse_cons, List.reverse_append, preR_rev l, preR_rev r]
theorem preR_len : ∀ (t : LT) (pl : List Int), (preR pl t).length = t.size
  | .wish i, pl => rfl
  | .frm nm line l r, pl => by
    show (preR (pl ++ [1]) r ++ preR (pl ++ [0]) l).length + 1 = l.size + r.size + 1
    rw [List.length_append, preR_len l, preR_len r, Nat.add_comm r.size]
/-- what a stack still gives, its top at the end -/
def preRs : List Spot → List Spot
  | [] => []
  | p :: ss => preRs ss ++ preR p.1 p.2
theorem preRs_snoc : ∀ (ss : List Spot) (p : Spot), preRs (ss ++ [p]) = preR p.1 p.2 ++ preRs ss
  | [], p => by simp [preRs]
  | q :: ss, p => by
    show preRs (ss ++ [p]) ++ preR q.1 q.2 = preR p.1 p.2 ++ (preRs ss ++ preR q.1 q.2)
    rw [preRs_snoc ss p, List.append_assoc]
def LItem (K : PySem.W.Frag) (H : Hp) (x : V) (p : Spot) : Prop := ∃ a b vx, x = .ref a ∧ H a = some (.tup [.ref b, vx]) ∧ H b = some (.tup (p.1.map V.int)) ∧ LRep K H vx p.2
def Items (K : PySem.W.Frag) (H : Hp) (xs : List V) (ps : List Spot) : Prop := xs.length = ps.length ∧ ∀ (i : Nat) x p, xs[i]? = some x → ps[i]? = some p → LItem K H x p
theorem LItem.same {K : PySem.W.Frag} {H H1 : Hp} (e : Same H H1) {x : V} {p : Spot} (h : LItem K H x p) : LItem K H1 x p := by
  obtain ⟨a, b, vx, h1, h2, h3, h4⟩ := h
  exact ⟨a, b, vx, h1, e _ _ h2, e _ _ h3, h4.same e⟩
theorem sqT_offL {K : PySem.W.Frag} {H : Hp} {o : Addr} {acc : List V} {u : HO} (e : H o = some (.lst acc)) {a : Addr} {ys : List V} (h : H a = some (.tup ys)) : (upd H o u) a = some (.tup ys) := (upd_ne (fun q => by rw [q, e] at h; cases h)).trans h
theorem LRep.off {K : PySem.W.Frag} {H : Hp} {o : Addr} {acc : List V} {u : HO} (e : H o = some (.lst acc)) : ∀ {t : LT} {x : V}, LRep K H x t → LRep K (upd H o u) x t
  | .wish i, x, ⟨a, h1, h2⟩ => ⟨a, h1, sqT_offL (K := K) e h2⟩
  | .frm nm line l r, x, ⟨a, b, vl, vr, h1, h2, h3, h4, h5⟩ => ⟨a, b, vl, vr, h1, sqT_offL (K := K) e h2, h3.off e, h4.off e, h5.off e⟩
theorem LItem.off {K : PySem.W.Frag} {H : Hp} {o : Addr} {acc : List V} {u : HO} (e : H o = some (.lst acc)) {x : V} {p : Spot} (h : LItem K H x p) : LItem K (upd H o u) x p := by
  obtain ⟨a, b, vx, h1, h2, h3, h4⟩ := h
  exact ⟨a, b, vx, h1, sqT_offL (K := K) e h2, sqT_offL (K := K) e h3, h4.off e⟩
theorem Items.same {K : PySem.W.Frag} {H H1 : Hp} (e : Same H H1) {xs : List V} {ps : List Spot} (h : Items K H xs ps) : Items K H1 xs ps := ⟨h.1, fun i x p a b => (h.2 i x p a b).same e⟩
theorem Items.off {K : PySem.W.Frag} {H : Hp} {o : Addr} {acc : List V} {u : HO} (e : H o = some (.lst acc)) {xs : List V} {ps : List Spot} (h : Items K H xs ps) : Items K (upd H o u) xs ps := ⟨h.1, fun i x p a b => (h.2 i x p a b).off e⟩
theorem Items.nil {K : PySem.W.Frag} {H : Hp} : Items K H [] [] := ⟨rfl, fun i x p a => by simp at a⟩
theorem Items.snoc {K : PySem.W.Frag} {H : Hp} {xs : List V} {ps : List Spot} {x : V} {p : Spot} (h : Items K H xs ps) (hx : LItem K H x p) : Items K H (xs ++ [x]) (ps ++ [p]) := by
  refine ⟨by rw [List.length_append, List.length_append, h.1]; rfl, fun i y q h1 h2 => ?_⟩
  rcases Nat.lt_trichotomy i xs.length with c | c | c
  · rw [List.getElem?_append_left c] at h1
    rw [List.getElem?_append_left (by rw [← h.1]; exact c)] at h2
    exact h.2 i y q h1 h2
  · subst c
    rw [List.getElem?_append_right (Nat.le_refl _), Nat.sub_self] at h1
    rw [List.getElem?_append_right (by rw [h.1]; exact Nat.le_refl _), h.1, Nat.sub_self] at h2
    obtain rfl := Option.some.inj h1
    obtain rfl := Option.some.inj h2
    exact hx
  · have z := (List.getElem?_eq_some_iff.mp h1).1
    rw [List.length_append, List.length_singleton] at z
    omega
theorem Items.last {K : PySem.W.Frag} {H : Hp} {xs : List V} {ps : List Spot} {p : Spot} (h : Items K H xs (ps ++ [p])) : ∃ y, xs[xs.length - 1]? = some y ∧ LItem K H y p ∧ Items K H xs.dropLast ps := by
  have l := h.1
  rw [List.length_append, List.length_singleton] at l
  have hy : xs[xs.length - 1]? = some xs[xs.length - 1] := List.getElem?_eq_getElem (by omega)
  refine ⟨_, hy, h.2 _ _ p hy ?_, by rw [List.length_dropLast]; omega, fun i x q h1 h2 => ?_⟩
  · rw [List.getElem?_append_right (by omega), show xs.length - 1 - ps.length = 0 by omega]
    rfl
  · have hlt : i < ps.length := (List.getElem?_eq_some_iff.mp h2).1
    rw [List.getElem?_dropLast, if_pos (by omega)] at h1
    exact h.2 i x q h1 (by rw [List.getElem?_append_left hlt]; exact h2)
theorem place_snoc {K : PySem.W.Frag} {H : Hp} {c t : Addr} {pl : List Int} {v : Int} {Q : VK} (hc : H c = some (.tup (pl.map V.int))) (ht : H t = some (.tup [.int v])) (hl : pl.length ≤ 1000)
    (q : ∀ p H', Same H H' → H' p = some (.tup ((pl ++ [v]).map V.int)) → Q (.ref p) H') : rCatA K (.ref c) (.ref t) H Q := by
  refine ⟨c, t, _, _, rfl, rfl, SqT.of hc, SqT.of ht, Nat.le_trans (show (pl.map V.int).length + 1 ≤ 2000 by rw [List.length_map]; omega) (by decide), fun e => ?_, fun _ e => (by cases e), fun _ _ p hp => ?_⟩
  · have e2 : pl = [] := by cases pl with | nil => rfl | cons a r => cases e
    subst e2
    exact q t H (Same.refl H) ht
  · refine q p _ (same_new hp _) ?_
    rw [upd_same, List.map_append]
    rfl
end Ns
/-! KmUp2 -/
set_option Elab.async false
set_option linter.all false
set_option maxRecDepth 100000
set_option maxHeartbeats 2000000
namespace Ns
open PySem L2
theorem preRs_le : ∀ ss : List Spot, ss.length ≤ (preRs ss).length
  | [] => Nat.le_refl _
  | z :: r => by
    have ih := preRs_le r
    have h1 : 1 ≤ z.2.size := by cases z.2 <;> simp only [LT.size] <;> omega
    show r.length + 1 ≤ (preRs r ++ preR z.1 z.2).length
    rw [List.length_append, preR_len]
    omega
end Ns
namespace Km
open PySem PySem.Spec PyProof.Rows L2 Ns
abbrev sUp : Stmt := top 25
theorem fw_ne : ¬ (V.str "wish" = V.str "from") := by decide +kernel
def spUp (K : PySem.W.Frag) : Sp := fun vs H Q _ => ∃ (x : V) (t : LT), vs = [x] ∧ LRep K H x t ∧ t.size ≤ 1000 ∧ ∀ o H' xs, Same H H' → H' o = some (.lst xs) → Items K H' xs (post [] t) → Q (.ref o) H'
theorem scUp : FnScope ["paper", "found", "nodes", "place", "node"] ["paper"] (defScope sUp) := ⟨rfl, rfl, rfl, by decide +kernel, rfl, by decide +kernel, by decide +kernel⟩
section
variable {P : Program} {w : World} {K : PySem.W.Frag} {mg : Str → Option Value} {base : Heap} {f : Addr} {fd : FuncData}
theorem ok_up {k : Nat} (F : Fun K "nodes_upwards" "nodes_upwards" sUp f fd) : FnOk P w K mg base CX0 (k + 1) f fd ["paper"] (spUp K) := by
  refine F.ok scUp (fun vs H Q E h => ?_) (fun cdv A outer s H vs Q E hr h => ?_)
  · obtain ⟨x, t, rfl, _⟩ := h
    rfl
  obtain ⟨x, t, rfl, hT, hsz, q⟩ := h
  have nd := scUp.nd
  refine ⟨_, pss_cons (ps_set (i := 1) nd rfl (Or.inl rfl) (pe_lst pa_nil))
    (pss_cons (ps_set (i := 2) nd rfl (Or.inl rfl) (pe_lst (pa_cons (pe_tup (pa_cons (pe_tup pa_nil) (pa_cons (pv 0) pa_nil))) pa_nil)))
    (pss_cons (ps_while PassesOwn.never (pt_truth (pv 2) (fun _ => rfl))
      (pss_cons (ps_asg (pe_bm0 PySem.F.plainAttrs_list PySem.F.slot_list_pop PySem.F.type_list_pop mt_pop (pv 2)) (pg_tup rfl (pgs_cons (pg_name (i := 3) nd rfl (Or.inl rfl)) (pgs_cons (pg_name (i := 4) nd rfl (Or.inl rfl)) pgs_nil))))
      (pss_cons (ps_expr (pe_bm PySem.F.plainAttrs_list PySem.F.slot_list_append PySem.F.type_list_append mt_append (pv 1) (pa_cons (pe_tup (pa_cons (pv 3) (pa_cons (pv 4) pa_nil))) pa_nil)))
      (pss_one (ps_if (pt_cmpR op_eq (pe_ix ix_tup (pv 4) pe_int (fun _ _ => rfl)) pe_str (nomark _))
        (pss_cons (ps_expr (pe_bm PySem.F.plainAttrs_list PySem.F.slot_list_append PySem.F.type_list_append mt_append (pv 2) (pa_cons (pe_tup (pa_cons (pe_op op_catA (pv 3) (pe_tup (pa_cons pe_int pa_nil))) (pa_cons (pe_ix ix_tup (pv 4) pe_int (fun _ _ => rfl)) pa_nil))) pa_nil)))
        (pss_one (ps_expr (pe_bm PySem.F.plainAttrs_list PySem.F.slot_list_append PySem.F.type_list_append mt_append (pv 2) (pa_cons (pe_tup (pa_cons (pe_op op_catA (pv 3) (pe_tup (pa_cons pe_int pa_nil))) (pa_cons (pe_ix ix_tup (pv 4) pe_int (fun _ _ => rfl)) pa_nil))) pa_nil)))))
        pss_nil)))))
    (pss_one (ps_ret (pe_revL (pv 1)))))), ?_⟩
  refine ⟨Nat.zero_le _, fun fo hfo => ?_⟩
  have s0 := same_new hfo (.lst [])
  refine ⟨Nat.zero_le _, fun t0 ht0 => ?_⟩
  have s1 := s0.trans (same_new ht0 (.tup []))
  refine ⟨_, rfl, by show 2 ≤ sizeLine; decide, fun t1 ht1 => ?_⟩
  have s2 := s1.trans (same_new ht1 (.tup [.ref t0, x]))
  refine ⟨by show 1 ≤ sizeLine; decide, fun so hso => ?_⟩
  have s3 := s2.trans (same_new hso (.lst [.ref t1]))
  have nfs : fo ≠ so := fun z => by rw [← z, upd_ne (ne_of_none (same_new ht0 _ _ _ upd_same) ht1), upd_ne (ne_of_none upd_same ht0), upd_same] at hso; cases hso
  have noso : H so = none := by
    cases e : H so with
    | none => rfl
    | some u => have z := s2 so u e; rw [hso] at z; cases z
  have keepF : ∀ {H' : Hp} {xs : List V}, Same H H' → Same H (upd H' fo (.lst xs)) := fun sm b z e => by
    rw [upd_ne (ne_of_none e hfo)]
    exact sm _ _ e
  have keepS : ∀ {H' : Hp} {xs : List V}, Same H H' → Same H (upd H' so (.lst xs)) := fun sm b z e => by
    rw [upd_ne (ne_of_none e noso)]
    exact sm _ _ e
  refine ⟨fun μ σ H' => ∃ (ss fs : List Spot) (xs ys : List V) (y3 y4 : Option V), σ = [some x, some (.ref fo), some (.ref so), y3, y4] ∧ H' fo = some (.lst xs) ∧ H' so = some (.lst ys) ∧ Items K H' xs fs ∧ Items K H' ys ss ∧ Same H H' ∧ fs ++ preRs ss = preR [] t ∧ (∀ p ∈ ss, p.1.length ≤ fs.length) ∧ μ = (preRs ss).length,
    ⟨_, [([], t)], [], [], [.ref t1], none, none, rfl, ?_, upd_same, Items.nil, ?_, s3, ?_, fun p hp => ?_, rfl⟩, ?_⟩
  · rw [upd_ne nfs, upd_ne (ne_of_none (same_new ht0 _ _ _ upd_same) ht1), upd_ne (ne_of_none upd_same ht0), upd_same]
  · have e1 : LItem K (upd (upd (upd (upd H fo (.lst [])) t0 (.tup [])) t1 (.tup [.ref t0, x])) so (.lst [.ref t1])) (.ref t1) ([], t) :=
      ⟨t1, t0, x, rfl, same_new hso _ _ _ upd_same, same_new hso _ _ _ (same_new ht1 _ _ _ upd_same), hT.same s3⟩
    exact Items.snoc Items.nil e1
  · simp [preRs]
  · rw [List.mem_singleton.mp hp]
    exact Nat.le_refl _
  rintro μ σ H1 ⟨ss, fs, xs, ys, y3, y4, rfl, eF, eS, iF, iS, sm, hpre, hpl, rfl⟩
  have tot := preR_len t []
  rw [← hpre, List.length_append] at tot
  refine ⟨_, rfl, !ys.isEmpty, .inl ⟨ys, .inl (.inl eS), rfl⟩, ?_⟩
  rcases List.eq_nil_or_concat ss with rfl | ⟨ss, p, rfl⟩
  · have hy : ys = [] := List.eq_nil_of_length_eq_zero iS.1
    subst hy
    refine iteF ?_
    have hp : fs = preR [] t := by simpa [preRs] using hpre
    refine ⟨_, rfl, fo, xs, rfl, .inl (.inl eF), fun o ho => ?_⟩
    refine q o _ xs.reverse (sm.trans (same_new ho _)) upd_same ?_
    rw [← preR_rev, ← hp]
    have iF2 := iF.same (same_new ho (.lst xs.reverse))
    refine ⟨by rw [List.length_reverse, List.length_reverse, iF.1], fun i z p h1 h2 => ?_⟩
    have hi : i < xs.length := by have := (List.getElem?_eq_some_iff.mp h1).1; rwa [List.length_reverse] at this
    rw [List.getElem?_reverse hi] at h1
    rw [List.getElem?_reverse (by rw [← iF.1]; exact hi), ← iF.1] at h2
    exact iF2.2 _ z p h1 h2
  · rw [List.concat_eq_append] at iS hpre hpl tot ⊢
    rw [preRs_snoc, List.length_append, preR_len] at tot
    rw [preRs_snoc] at hpre
    obtain ⟨y, hy, ⟨a, b, vx, rfl, ha, hb, hv⟩, iD⟩ := iS.last
    have hne : ys.isEmpty = false := by
      cases ys with
      | nil => simp at hy
      | cons z r => rfl
    have hpp := hpl p (List.mem_append_right _ (List.mem_singleton.mpr rfl))
    rw [hne]
    refine iteT ⟨_, fun σ1 H1 z => z, ?_⟩
    refine ⟨_, rfl, .inl ⟨rfl, _, .inl (.inl eS)⟩, so, ys, _, rfl, rfl, eS, hy, ?_⟩
    have ha2 := sqT_offL (K := K) (u := .lst ys.dropLast) eS ha
    have hb2 := sqT_offL (K := K) (u := .lst ys.dropLast) eS hb
    have hv2 := hv.off (u := .lst ys.dropLast) eS
    have iF2 := iF.off (u := .lst ys.dropLast) eS
    have iD2 := iD.off (u := .lst ys.dropLast) eS
    have eF2 : (upd H1 so (.lst ys.dropLast)) fo = some (.lst xs) := (upd_ne nfs).trans eF
    have eS2 : (upd H1 so (.lst ys.dropLast)) so = some (.lst ys.dropLast) := upd_same
    have sm2 : Same H (upd H1 so (.lst ys.dropLast)) := keepS sm
    generalize upd H1 so (.lst ys.dropLast) = H2 at ha2 hb2 hv2 iF2 iD2 eF2 eS2 sm2
    refine ⟨a, _, rfl, SqT.of ha2, rfl, _, _, rfl, _, _, rfl, rfl, ?_⟩
    refine ⟨.ref fo, rfl, .inl ⟨rfl, _, .inl (.inl eF2)⟩, _, rfl, _, rfl, by show 2 ≤ sizeLine; decide, fun t2 ht2 => ?_⟩
    have s23 := same_new ht2 (.tup [.ref b, vx])
    have eF3 := s23 _ _ eF2
    have lx := iF2.1
    refine ⟨fo, _, _, rfl, rfl, eF3, Nat.lt_of_le_of_lt (show xs.length ≤ 1000 by omega) (by decide), ?_⟩
    have hb4 := sqT_offL (K := K) (u := .lst (xs ++ [.ref t2])) eF3 (s23 _ _ hb2)
    have hv4 := (hv2.same s23).off (u := .lst (xs ++ [.ref t2])) eF3
    have it4 : LItem K (upd (upd H2 t2 (.tup [.ref b, vx])) fo (.lst (xs ++ [.ref t2]))) (.ref t2) p := ⟨t2, b, vx, rfl, sqT_offL (K := K) eF3 upd_same, hb4, hv4⟩
    have iF4 := ((iF2.same s23).off (u := .lst (xs ++ [.ref t2])) eF3).snoc it4
    have iD4 := (iD2.same s23).off (u := .lst (xs ++ [.ref t2])) eF3
    have eF4 : (upd (upd H2 t2 (.tup [.ref b, vx])) fo (.lst (xs ++ [.ref t2]))) fo = some (.lst (xs ++ [.ref t2])) := upd_same
    have eS4 : (upd (upd H2 t2 (.tup [.ref b, vx])) fo (.lst (xs ++ [.ref t2]))) so = some (.lst ys.dropLast) := (upd_ne nfs.symm).trans (s23 _ _ eS2)
    have sm4 : Same H (upd (upd H2 t2 (.tup [.ref b, vx])) fo (.lst (xs ++ [.ref t2]))) := keepF (sm2.trans s23)
    generalize upd (upd H2 t2 (.tup [.ref b, vx])) fo (.lst (xs ++ [.ref t2])) = H4 at hb4 hv4 it4 iF4 iD4 eF4 eS4 sm4
    obtain ⟨pl, nod⟩ := p
    have hss : ∀ z ∈ ss, z.1.length ≤ (fs ++ [(pl, nod)]).length := fun z hz => by
      have := hpl z (List.mem_append_left _ hz)
      rw [List.length_append]
      exact Nat.le_trans this (Nat.le_add_right _ _)
    cases nod with
    | wish i =>
      obtain ⟨c, rfl, hc⟩ := hv4
      refine ⟨_, rfl, c, _, 0, _, rfl, rfl, SqT.of hc, atI_nat (j := 0) rfl, rfl, _, rfl, iteND fw_ne ?_⟩
      refine ⟨_, ?_, ss, fs ++ [(pl, .wish i)], _, _, _, _, rfl, eF4, eS4, iF4, iD4, sm4, ?_, hss, rfl⟩
      · rw [preRs_snoc, List.length_append]
        show _ < 1 + _
        omega
      · rw [← hpre, List.append_assoc]
        rfl
    | frm nm line l r =>
      have hv5 := hv4
      obtain ⟨c, d, vl, vr, rfl, hc, hW, hL, hR⟩ := hv5
      refine ⟨_, rfl, c, _, 0, _, rfl, rfl, SqT.of hc, atI_nat (j := 0) rfl, rfl, _, rfl, iteD rfl ?_⟩
      have ly := iD4.1
      refine ⟨.ref so, rfl, .inl ⟨rfl, _, .inl (.inl eS4)⟩, _, rfl, by show 1 ≤ sizeLine; decide, fun t3 ht3 => ?_⟩
      refine place_snoc (same_new ht3 _ _ _ hb4) upd_same (show pl.length ≤ 1000 by have : pl.length ≤ fs.length := hpp; omega) fun p3 H5 s5 e5 => ?_
      have s45 := (same_new ht3 (.tup [.int 0])).trans s5
      refine ⟨_, rfl, c, _, 3, _, rfl, rfl, SqT.of (s45 _ _ hc), atI_nat (j := 3) rfl, by show 2 ≤ sizeLine; decide, fun t4 ht4 => ?_⟩
      have s56 := same_new ht4 (.tup [.ref p3, vl])
      have s46 := s45.trans s56
      have eS6 := s46 _ _ eS4
      refine ⟨so, _, _, rfl, rfl, eS6, Nat.lt_of_le_of_lt (show ys.dropLast.length ≤ 1000 by have := preRs_le ss; omega) (by decide), ?_⟩
      have itL : LItem K (upd (upd H5 t4 (.tup [.ref p3, vl])) so (.lst (ys.dropLast ++ [.ref t4]))) (.ref t4) (pl ++ [0], l) := ⟨t4, p3, vl, rfl, sqT_offL (K := K) eS6 upd_same, sqT_offL (K := K) eS6 (s56 _ _ e5), (hL.same s46).off eS6⟩
      have iD7 := ((iD4.same s46).off (u := .lst (ys.dropLast ++ [.ref t4])) eS6).snoc itL
      have iF7 := (iF4.same s46).off (u := .lst (ys.dropLast ++ [.ref t4])) eS6
      have eF7 : (upd (upd H5 t4 (.tup [.ref p3, vl])) so (.lst (ys.dropLast ++ [.ref t4]))) fo = some (.lst (xs ++ [.ref t2])) := (upd_ne nfs).trans (s46 _ _ eF4)
      have hb7 := sqT_offL (K := K) (u := .lst (ys.dropLast ++ [.ref t4])) eS6 (s46 _ _ hb4)
      have hc7 := sqT_offL (K := K) (u := .lst (ys.dropLast ++ [.ref t4])) eS6 (s46 _ _ hc)
      have hR7 := (hR.same s46).off (u := .lst (ys.dropLast ++ [.ref t4])) eS6
      have sm7 : Same H (upd (upd H5 t4 (.tup [.ref p3, vl])) so (.lst (ys.dropLast ++ [.ref t4]))) := keepS (sm4.trans s46)
      have eS7 : (upd (upd H5 t4 (.tup [.ref p3, vl])) so (.lst (ys.dropLast ++ [.ref t4]))) so = some (.lst (ys.dropLast ++ [.ref t4])) := upd_same
      generalize upd (upd H5 t4 (.tup [.ref p3, vl])) so (.lst (ys.dropLast ++ [.ref t4])) = H7 at itL iD7 iF7 eF7 hb7 hc7 hR7 sm7 eS7
      refine ⟨.ref so, rfl, .inl ⟨rfl, _, .inl (.inl eS7)⟩, _, rfl, by show 1 ≤ sizeLine; decide, fun t5 ht5 => ?_⟩
      refine place_snoc (same_new ht5 _ _ _ hb7) upd_same (show pl.length ≤ 1000 by have : pl.length ≤ fs.length := hpp; omega) fun p5 H8 s8 e8 => ?_
      have s78 := (same_new ht5 (.tup [.int 1])).trans s8
      refine ⟨_, rfl, c, _, 4, _, rfl, rfl, SqT.of (s78 _ _ hc7), atI_nat (j := 4) rfl, by show 2 ≤ sizeLine; decide, fun t6 ht6 => ?_⟩
      have s89 := same_new ht6 (.tup [.ref p5, vr])
      have s79 := s78.trans s89
      have eS9 := s79 _ _ eS7
      refine ⟨so, _, _, rfl, rfl, eS9, Nat.lt_of_le_of_lt (show (ys.dropLast ++ [V.ref t4]).length ≤ 1001 by have := preRs_le ss; rw [List.length_append]; show _ + 1 ≤ _; omega) (by decide), ?_⟩
      have itR : LItem K (upd (upd H8 t6 (.tup [.ref p5, vr])) so (.lst (ys.dropLast ++ [.ref t4] ++ [.ref t6]))) (.ref t6) (pl ++ [1], r) := ⟨t6, p5, vr, rfl, sqT_offL (K := K) eS9 upd_same, sqT_offL (K := K) eS9 (s89 _ _ e8), (hR7.same s79).off eS9⟩
      have iD9 := ((iD7.same s79).off (u := .lst (ys.dropLast ++ [.ref t4] ++ [.ref t6])) eS9).snoc itR
      have iF9 := (iF7.same s79).off (u := .lst (ys.dropLast ++ [.ref t4] ++ [.ref t6])) eS9
      refine ⟨_, ?_, ss ++ [(pl ++ [0], l)] ++ [(pl ++ [1], r)], fs ++ [(pl, .frm nm line l r)], _, _, _, _, rfl, (upd_ne nfs).trans (s79 _ _ eF7), upd_same, iF9, iD9, keepS (sm7.trans s79), ?_, fun z hz => ?_, rfl⟩
      · rw [preRs_snoc, preRs_snoc, preRs_snoc]
        simp only [List.length_append, preR_len]
        show _ < (l.size + r.size + 1) + _
        omega
      · rw [preRs_snoc, preRs_snoc, ← hpre, List.append_assoc]
        show fs ++ ([(pl, Ns.LT.frm nm line l r)] ++ (preR (pl ++ [1]) r ++ (preR (pl ++ [0]) l ++ preRs ss))) = fs ++ (((pl, Ns.LT.frm nm line l r) :: (preR (pl ++ [1]) r ++ preR (pl ++ [0]) l)) ++ preRs ss)
        simp
      · have hp3 : pl.length ≤ fs.length := hpp
        rcases List.mem_append.mp hz with hz | hz
        · rcases List.mem_append.mp hz with hz | hz
          · exact hss z hz
          · rw [List.mem_singleton.mp hz, List.length_append, List.length_append]
            show pl.length + 1 ≤ fs.length + 1
            omega
        · rw [List.mem_singleton.mp hz, List.length_append, List.length_append]
          show pl.length + 1 ≤ fs.length + 1
          omega
end
end Km
/-! KmTreeF -/
set_option Elab.async false
set_option linter.all false
set_option maxRecDepth 100000
set_option maxHeartbeats 2000000
namespace Ns
open PySem PySem.Spec PyProof.Rows L2
/-- the first of them at fault -/
def firstF (n : Int) (N : List Wish) : List Spot → Option (List Int × Str)
  | [] => none
  | z :: r => match nodeF n N z.2 with
    | some k => some (z.1, k)
    | none => firstF n N r
def treeF (n : Int) (N : List Wish) (t : LT) : Option (List Int × Str) := match firstF n N (post [] t) with
  | some z => some z
  | none => if lineOf N t = some [] then none else some ([], "end")
/-- the lines of the tree are not too long -/
def Thin : LT → Prop
  | .wish _ => True
  | .frm _ line l r => line.length ≤ 900 ∧ Thin l ∧ Thin r
theorem post_last : ∀ (t : LT) (pl : List Int), (pl, t) ∈ post pl t
  | .wish i, pl => List.mem_singleton.mpr rfl
  | .frm nm line l r, pl => List.mem_append_right _ (List.mem_singleton.mpr rfl)
theorem line_some {n : Int} {N : List Wish} (hN : ∀ r ∈ N, r.length ≤ 900) {t : LT} (ht : Thin t) (h : nodeF n N t = none) : ∃ q, lineOf N t = some q ∧ q.length ≤ 900 := by
  cases t with
  | wish i =>
    by_cases c : 0 ≤ i ∧ i < (N.length : Int)
    · have e : lineOf N (.wish i) = N[i.toNat]? := if_pos c.1
      have e2 : N[i.toNat]? = some (N[i.toNat]'(by omega)) := List.getElem?_eq_getElem _
      exact ⟨_, e.trans e2, hN _ (List.getElem_mem _)⟩
    · rw [show nodeF n N (.wish i) = some "wish" from if_neg c] at h
      cases h
  | frm nm line l r => exact ⟨line, rfl, ht.1⟩
theorem cut_snoc {α : Type} {L A B : List α} {x y : α} (h : L ++ [y] = A ++ x :: B) : (x = y ∧ L = A) ∨ ∃ C, L = A ++ x :: C := by
  rcases List.eq_nil_or_concat B with rfl | ⟨C, z, rfl⟩
  · left
    have h2 := List.append_inj' h rfl
    exact ⟨((List.cons.inj h2.2).1).symm, h2.1⟩
  · right
    rw [List.concat_eq_append] at h
    have e : L ++ [y] = (A ++ x :: C) ++ [z] := by rw [h, List.append_assoc]; rfl
    exact ⟨C, (List.append_inj' e rfl).1⟩
theorem sides_of {n : Int} {N : List Wish} (hN : ∀ r ∈ N, r.length ≤ 900) : ∀ (t : LT) (pl : List Int) (A : List Spot) (x : Spot) (B : List Spot), Thin t → post pl t = A ++ x :: B → (∀ z ∈ A, nodeF n N z.2 = none) → Sides N x.2
  | .wish i, pl, A, x, B, _, h, _ => by
    have e : x = (pl, .wish i) := by
      have hm : x ∈ ([(pl, LT.wish i)] : List Spot) := by
        show x ∈ post pl (.wish i)
        rw [h]
        exact List.mem_append_right _ List.mem_cons_self
      exact List.mem_singleton.mp hm
    rw [e]
    trivial
  | .frm nm line l r, pl, A, x, B, ht, h, hA => by
    have h2 : (post (pl ++ [0]) l ++ post (pl ++ [1]) r) ++ [(pl, LT.frm nm line l r)] = A ++ x :: B := h
    rcases cut_snoc h2 with ⟨rfl, e⟩ | ⟨C, e⟩
    · refine ⟨ht.1, line_some hN ht.2.1 (hA (pl ++ [0], l) ?_), line_some hN ht.2.2 (hA (pl ++ [1], r) ?_)⟩
      · rw [← e]
        exact List.mem_append_left _ (post_last l _)
      · rw [← e]
        exact List.mem_append_right _ (post_last r _)
    · rcases List.append_eq_append_iff.mp e with ⟨D, e1, e2⟩ | ⟨D, e1, e2⟩
      · exact sides_of hN r (pl ++ [1]) D x C ht.2.2 e2 fun z hz => hA z (by rw [e1]; exact List.mem_append_right _ hz)
      · cases D with
        | nil =>
          have e3 : post (pl ++ [1]) r = [] ++ x :: C := by simpa using e2.symm
          exact sides_of (n := n) hN r (pl ++ [1]) [] x C ht.2.2 e3 fun z hz => nomatch hz
        | cons d D =>
          obtain ⟨rfl, _⟩ := List.cons.inj e2
          exact sides_of hN l (pl ++ [0]) A x D ht.2.1 e1 hA
theorem firstF_none {n : Int} {N : List Wish} : ∀ {L : List Spot}, (∀ z ∈ L, nodeF n N z.2 = none) → firstF n N L = none
  | [], _ => rfl
  | z :: r, h => by
    show (match nodeF n N z.2 with | some k => some (z.1, k) | none => firstF n N r) = none
    rw [h z List.mem_cons_self]
    exact firstF_none fun y hy => h y (List.mem_cons_of_mem _ hy)
theorem firstF_some {n : Int} {N : List Wish} {x : Spot} {k : Str} {B : List Spot} (hx : nodeF n N x.2 = some k) : ∀ {A : List Spot}, (∀ z ∈ A, nodeF n N z.2 = none) → firstF n N (A ++ x :: B) = some (x.1, k)
  | [], _ => by
    show (match nodeF n N x.2 with | some k => some (x.1, k) | none => firstF n N B) = _
    rw [hx]
  | z :: A, h => by
    show (match nodeF n N z.2 with | some k => some (z.1, k) | none => firstF n N (A ++ x :: B)) = _
    rw [h z List.mem_cons_self]
    exact firstF_some hx fun y hy => h y (List.mem_cons_of_mem _ hy)
end Ns
/-! KmTree -/
set_option Elab.async false
set_option linter.all false
set_option maxRecDepth 100000
set_option maxHeartbeats 2000000
namespace Ns
open PySem PySem.Spec PySem.SeqAt PyProof.Rows L2
theorem words_lay : ∀ r : Wish, PyData.canLayAll0 (r.map dWord) = true
  | [] => rfl
  | p :: r => by
    show (PyData.canLay0 (dWord p) && PyData.canLayAll0 (r.map dWord)) = true
    rw [words_lay r]
    rfl
theorem wish_shaped (r : Wish) : shaped (dWish r) = true := by
  have h1 := data_wish r
  unfold shaped
  rw [Bool.and_eq_true, decide_eq_true_eq]
  exact ⟨words_lay r, by omega⟩
/-- a wish that is or isn't the empty one -/
def rNeW (K : PySem.W.Frag) : R2 := fun x y H Q => ∃ (a b : Addr) (r : Wish), x = .ref a ∧ WishH K H a r ∧ y = .ref b ∧ H b = some (.tup []) ∧ Q (.bl (decide (r ≠ []))) H
theorem op_neW {X : Cx} (hu : X.A.units + 64 < cLine) : OpR X (compareOp .NotEq) (rNeW X.K) := by
  intro pins s σ H x y v u Q I rx ry h
  obtain ⟨a, b, r, rfl, hW, rfl, hb, q⟩ := h
  obtain rfl : v = Value.ref a := rx
  obtain rfl : u = Value.ref b := ry
  obtain ⟨as, r1⟩ := (wish_at I hW).data
  obtain ⟨bs, r2⟩ := (wish_at I (r := []) (show WishH X.K H b [] from ⟨[], SqT.of hb, trivial⟩)).data
  refine compareNe_shaped r1 r2 (wish_shaped r) (wish_shaped []) hu ⟨.bl _, H, I, rfl, ?_⟩
  have e : (!PyData.eqv (dWish r) (dWish [])) = decide (r ≠ []) := by
    cases r with
    | nil => rfl
    | cons p r => rfl
  rw [e]
  exact q
end Ns
namespace Km
open PySem PySem.Spec PyProof.Rows L2 Ns
abbrev sTreeF : Stmt := top 24
def spTreeF (K : PySem.W.Frag) (C : Addr) : Sp := fun vs H Q _ => ∃ (b : Addr) (x : V) (n : Int) (N : List Wish) (t : LT), vs = [.ref b, x] ∧ BookAt K C H b n N ∧ LRep K H x t ∧ t.size ≤ 1000 ∧ Thin t ∧ (∀ r ∈ N, r.length ≤ 900) ∧
  (treeF n N t = none → ∀ H', Same H H' → Q .non H') ∧ (∀ pl k, treeF n N t = some (pl, k) → ∀ a p H', Same H H' → H' p = some (.tup (pl.map V.int)) → H' a = some (.tup [.ref p, .str k]) → Q (.ref a) H')
theorem scTreeF : FnScope ["book", "paper", "place", "node", "kind"] ["book", "paper"] (defScope sTreeF) := ⟨rfl, rfl, rfl, by decide +kernel, rfl, by decide +kernel, by decide +kernel⟩
section
variable {P : Program} {w : World} {K : PySem.W.Frag} {mg : Str → Option Value} {base : Heap} {f : Addr} {fd : FuncData} {C : Addr}
theorem ok_treeF {fU fN fL : Addr} {fdU fdN fdL : FuncData} (T : BkTxt K mg C) (F : Fun K "line_tree_fault" "line_tree_fault" sTreeF f fd)
    (GU : FnOk P w K mg base CX0 1 fU fdU ["paper"] (spUp K)) (kU : PySem.W.keepIn K (.ref fU) = true) (bU : Binds K fdU ["paper"] []) (mU : mg "nodes_upwards" = some (.ref fU))
    (GN : FnOk P w K mg base CX0 3 fN fdN ["book", "node"] (spNodeF K C)) (kN : PySem.W.keepIn K (.ref fN) = true) (bN : Binds K fdN ["book", "node"] []) (mN : mg "line_node_fault" = some (.ref fN))
    (GL : FnOk P w K mg base CX0 1 fL fdL ["book", "node"] (spLineOf K C)) (kL : PySem.W.keepIn K (.ref fL) = true) (bL : Binds K fdL ["book", "node"] []) (mL : mg "line_of" = some (.ref fL)) :
    FnOk P w K mg base CX0 4 f fd ["book", "paper"] (spTreeF K C) := by
  refine F.ok scTreeF (fun vs H Q E h => ?_) (fun cdv A outer s H vs Q E hr h => ?_)
  · obtain ⟨b, x, n, N, t, rfl, _⟩ := h
    rfl
  obtain ⟨b, x, n, N, t, rfl, hB, hT, hsz, hth, hN, qn, qs⟩ := h
  have nd := scTreeF.nd
  have hu : (A.deeper (envOfC "line_tree_fault" (defScope sTreeF) s.heap.objs.size f cdv)).units + 64 < cLine := hr.units
  refine ⟨_, pss_cons (ps_for PassesOwn.never rfl (pi_list (pe_call GU (hr.mono (by decide)) rfl mU kU bU .nil pass0 (pa_cons (pv 1) pa_nil))) (pg_tup rfl (pgs_cons (pg_name (i := 2) nd rfl (Or.inl rfl)) (pgs_cons (pg_name (i := 3) nd rfl (Or.inl rfl)) pgs_nil)))
      (pss_cons (ps_set (i := 4) nd rfl (Or.inl rfl) (pe_call GN hr rfl mN kN bN .nil pass0 (pa_cons (pv 0) (pa_cons (pv 3) pa_nil))))
      (pss_one (ps_if (pt_cmp (pc_notN (pv 4))) (pss_one (ps_ret (pe_tup (pa_cons (pv 2) (pa_cons (pv 4) pa_nil))))) pss_nil))))
    (pss_cons (ps_if (pt_cmpR (op_neW hu) (pe_call GL (hr.mono (by decide)) rfl mL kL bL .nil pass0 (pa_cons (pv 0) (pa_cons (pv 1) pa_nil))) (pe_tup pa_nil) (nomark _)) (pss_one (ps_ret (pe_tup (pa_cons (pe_tup pa_nil) (pa_cons pe_str pa_nil))))) pss_nil)
    (pss_one (ps_ret pe_non))), ?_⟩
  refine ⟨_, rfl, x, t, rfl, hT, hsz, fun o H1 xs s1 eo iX => ?_⟩
  refine ⟨o, rfl, ⟨xs, .inl (.inl eo)⟩, for_list (K := K) (xs := xs) (fun i σ H2 => ∃ (y2 y3 y4 : Option V), σ = [some (.ref b), some x, y2, y3, y4] ∧ Same H1 H2 ∧ ∀ z ∈ (post [] t).take i, nodeF n N z.2 = none)
    ⟨none, none, none, rfl, Same.refl _, fun z hz => by simp at hz⟩ (fun i σ H2 _ ⟨_, _, _, _, s2, _⟩ => .inl (.inl (s2 _ _ eo))) ?_ ?_⟩
  · rintro i y σ H2 hi ⟨y2, y3, y4, rfl, s2, hz⟩
    have hlt : i < (post [] t).length := by rw [← iX.1]; exact (List.getElem?_eq_some_iff.mp hi).1
    have hp : (post [] t)[i]? = some (post [] t)[i] := List.getElem?_eq_getElem hlt
    have cut : post [] t = (post [] t).take i ++ (post [] t)[i] :: (post [] t).drop (i + 1) := by
      rw [← List.drop_eq_getElem_cons hlt, List.take_append_drop]
    generalize (post [] t)[i] = p at hp cut
    obtain ⟨a, c, vx, rfl, ha, hc, hv⟩ := (iX.2 i y p hi hp).same s2
    have s12 := s1.trans s2
    have sd := sides_of hN t [] _ p _ hth cut hz
    refine ⟨a, _, rfl, SqT.of ha, rfl, _, _, rfl, _, _, rfl, rfl, ?_⟩
    refine ⟨_, rfl, _, rfl, b, vx, n, N, p.2, rfl, hB.same s12, hv, sd, fun H3 s3 => ?_⟩
    have s13 := s12.trans s3
    cases hk : nodeF n N p.2 with
    | none =>
      refine ⟨_, rfl, _, rfl, iteF ⟨_, _, _, rfl, s2.trans s3, fun z hz2 => ?_⟩⟩
      rw [List.take_succ, hp] at hz2
      rcases List.mem_append.mp hz2 with e | e
      · exact hz z e
      · rw [List.mem_singleton.mp e]
        exact hk
    | some k =>
      refine ⟨_, rfl, _, rfl, iteT ⟨_, rfl, _, rfl, by show 2 ≤ sizeLine; decide, fun a2 ha2 => ?_⟩⟩
      have e : treeF n N t = some (p.1, k) := by
        unfold treeF
        rw [cut, firstF_some hk hz]
      have s4 := same_new ha2 (.tup [.ref c, .str k])
      exact qs p.1 k e a2 c _ (s13.trans s4) (s4 _ _ (s3 _ _ hc)) upd_same
  · rintro σ H2 ⟨y2, y3, y4, rfl, s2, hz⟩
    have s12 := s1.trans s2
    rw [iX.1, List.take_length] at hz
    have e0 := firstF_none hz
    obtain ⟨r, er, _⟩ := line_some hN hth (hz _ (post_last t []))
    refine ⟨_, rfl, _, rfl, b, x, n, N, t, r, rfl, hB.same s12, hT.same s12, er, fun a ha => ?_⟩
    refine ⟨Nat.zero_le _, fun u hu2 => ?_⟩
    have s3 := same_new hu2 (.tup [])
    refine ⟨a, u, r, rfl, ha.same s3, rfl, upd_same, _, rfl, ?_⟩
    by_cases hr0 : r = []
    · refine iteND (fun z => z hr0) ?_
      have e : treeF n N t = none := by
        unfold treeF
        rw [e0, er, hr0]
        exact if_pos rfl
      exact qn e _ (s12.trans s3)
    · refine iteD hr0 ⟨Nat.zero_le _, fun p hp => ⟨by show 2 ≤ sizeLine; decide, fun a2 ha2 => ?_⟩⟩
      have e : treeF n N t = some ([], ("end" : Str)) := by
        unfold treeF
        rw [e0, er]
        exact if_neg (fun z => hr0 (Option.some.inj z))
      have s4 := same_new hp (.tup [])
      have s5 := same_new ha2 (.tup [.ref p, .str "end"])
      exact qs [] "end" e a2 p _ (s12.trans (s3.trans (s4.trans s5))) (s5 _ _ upd_same) upd_same
end
end Km
/-! KmLeaves -/
set_option Elab.async false
set_option linter.all false
set_option maxRecDepth 100000
set_option maxHeartbeats 2000000
namespace Ns
def LT.leaves : LT → Nat
  | .wish _ => 1
  | .frm _ _ l r => l.leaves + r.leaves
def LT.high : LT → Nat
  | .wish _ => 1
  | .frm _ _ l r => max l.high r.high + 1
theorem high_size : ∀ t : LT, t.high ≤ t.size
  | .wish _ => Nat.le_refl _
  | .frm _ _ l r => by
    have h1 := high_size l
    have h2 := high_size r
    show max l.high r.high + 1 ≤ l.size + r.size + 1
    have := Nat.max_le.mpr ⟨Nat.le_trans h1 (Nat.le_add_right l.size r.size), Nat.le_trans h2 (Nat.le_add_left r.size l.size)⟩
    omega
end Ns
namespace Km
open PySem PySem.Spec PyProof.Rows L2 Ns
abbrev sLeaves : Stmt := top 32
def spLeaves (K : PySem.W.Frag) (n : Nat) : Sp := fun vs H Q _ => ∃ (x : V) (t : LT), vs = [x] ∧ LRep K H x t ∧ t.high ≤ n ∧ Q (.int (t.leaves : Int)) H
theorem scLeaves : FnScope ["paper"] ["paper"] (defScope sLeaves) := ⟨rfl, rfl, rfl, by decide +kernel, rfl, by decide +kernel, by decide +kernel⟩
section
variable {P : Program} {w : World} {K : PySem.W.Frag} {mg : Str → Option Value} {base : Heap} {f : Addr} {fd : FuncData}
theorem ok_leaves {n : Nat} (F : Fun K "line_tree_leaves" "line_tree_leaves" sLeaves f fd) (b : Binds K fd ["paper"] []) (m : mg "line_tree_leaves" = some (.ref f)) (G : FnOk P w K mg base CX0 n f fd ["paper"] (spLeaves K n)) :
    FnOk P w K mg base CX0 (n + 1) f fd ["paper"] (spLeaves K (n + 1)) := by
  refine F.ok scLeaves (fun vs H Q E h => ?_) (fun cdv A outer s H vs Q E hr h => ?_)
  · obtain ⟨x, t, rfl, _⟩ := h
    rfl
  obtain ⟨x, t, rfl, hT, hh, q⟩ := h
  refine ⟨_, pss_cons (ps_if (pt_cmpR op_eq (pe_ix ix_tup (pv 0) pe_int (fun _ _ => rfl)) pe_str (nomark _)) (pss_one (ps_ret pe_int)) pss_nil)
    (pss_one (ps_ret (pe_op op_add (pe_call G hr rfl m F.kp b .nil pass0 (pa_cons (pe_ix ix_tup (pv 0) pe_int (fun _ _ => rfl)) pa_nil)) (pe_call G hr rfl m F.kp b .nil pass0 (pa_cons (pe_ix ix_tup (pv 0) pe_int (fun _ _ => rfl)) pa_nil))))), ?_⟩
  cases t with
  | wish i =>
    obtain ⟨a, rfl, ha⟩ := hT
    exact ⟨_, rfl, a, _, 0, _, rfl, rfl, SqT.of ha, atI_nat (j := 0) rfl, rfl, _, rfl, iteD rfl q⟩
  | frm nm line l r =>
    obtain ⟨a, c, vl, vr, rfl, ha, hW, hL, hR⟩ := hT
    have h1 : max l.high r.high + 1 ≤ n + 1 := hh
    have h2 := Nat.le_max_left l.high r.high
    have h3 := Nat.le_max_right l.high r.high
    refine ⟨_, rfl, a, _, 0, _, rfl, rfl, SqT.of ha, atI_nat (j := 0) rfl, rfl, _, rfl, iteND wf_ne ?_⟩
    refine ⟨_, rfl, a, _, 3, _, rfl, rfl, SqT.of ha, atI_nat (j := 3) rfl, vl, l, rfl, hL, by omega, ?_⟩
    refine ⟨_, rfl, a, _, 4, _, rfl, rfl, SqT.of ha, atI_nat (j := 4) rfl, vr, r, rfl, hR, by omega, _, _, rfl, rfl, ?_⟩
    have e : ((l.leaves : Int) + (r.leaves : Int)) = ((Ns.LT.leaves (.frm nm line l r) : Nat) : Int) := by
      show _ = ((l.leaves + r.leaves : Nat) : Int)
      omega
    rw [← e] at q
    exact q
theorem leaves0 {ps : List Str} : FnOk P w K mg base CX0 0 f fd ps (spLeaves K 0) := by
  have no : ∀ vs H Q E, ¬ spLeaves K 0 vs H Q E := fun vs H Q E h => by
    obtain ⟨x, t, _, _, h1, _⟩ := h
    cases t <;> simp [Ns.LT.high] at h1
  exact ⟨fun vs H Q E h => absurd h (no vs H Q E), fun A outer s H args us vs Q E _ _ _ _ h => absurd h (no vs H Q E)⟩
theorem all_leaves (F : Fun K "line_tree_leaves" "line_tree_leaves" sLeaves f fd) (b : Binds K fd ["paper"] []) (m : mg "line_tree_leaves" = some (.ref f)) : ∀ n : Nat, FnOk P w K mg base CX0 n f fd ["paper"] (spLeaves K n)
  | 0 => leaves0
  | n + 1 => ok_leaves F b m (all_leaves F b m n)
end
end Km
/-! KmOwn -/
set_option Elab.async false
set_option linter.all false
set_option maxRecDepth 100000
set_option maxHeartbeats 2000000
namespace Km
open PySem PySem.Spec PyProof.Rows L2 Ns
abbrev sOwnRow : Stmt := top 50
abbrev sOwnLine : Stmt := top 49
theorem scOwnRow : FnScope ["_law_names", "_law_row", "_law_last", "_law_word"] ["_law_names", "_law_row"] (defScope sOwnRow) := ⟨rfl, rfl, rfl, by decide +kernel, rfl, by decide +kernel, by decide +kernel⟩
/-- a list of wishes -/
def RowsL (K : PySem.W.Frag) (H : Hp) (t : Addr) (N : List Wish) : Prop := ∃ M : List WRow, M.map (·.2) = N ∧ SqL K H t (M.map fun q => V.ref q.1) ∧ ∀ q ∈ M, WishH K H q.1 q.2
theorem RowsL.same {K : PySem.W.Frag} {H H1 : Hp} {t : Addr} {N : List Wish} (e : Same H H1) (h : RowsL K H t N) : RowsL K H1 t N := by
  obtain ⟨M, h1, h2, h3⟩ := h
  exact ⟨M, h1, e.seq h2, fun q hq => (h3 q hq).same e⟩
def spOwnLine (K : PySem.W.Frag) : Sp := fun vs H Q _ => ∃ (b : Addr) (x : V) (N : List Wish) (t : LT) (r : Wish), vs = [.ref b, x] ∧ RowsL K H b N ∧ LRep K H x t ∧ lineOf N t = some r ∧ ∀ a, WishH K H a r → Q (.ref a) H
theorem scOwnLine : FnScope ["_law_wishes", "_law_paper"] ["_law_wishes", "_law_paper"] (defScope sOwnLine) := ⟨rfl, rfl, rfl, by decide +kernel, rfl, by decide +kernel, by decide +kernel⟩
section
variable {P : Program} {w : World} {K : PySem.W.Frag} {mg : Str → Option Value} {base : Heap} {f : Addr} {fd : FuncData}
theorem ok_ownRow {k : Nat} (F : Fun K "_law_right_row" "_law_right_row" sOwnRow f fd) : FnOk P w K mg base CX0 (k + 1) f fd ["_law_names", "_law_row"] (spRight K) := by
  refine F.ok scOwnRow (fun vs H Q E h => ?_) (fun cdv A outer s H vs Q E hr h => ?_)
  · obtain ⟨n, a, r, rfl, _⟩ := h
    rfl
  obtain ⟨n, a, r, rfl, hW, q⟩ := h
  have nd := scOwnRow.nd
  refine ⟨_, pss_cons (ps_set (i := 2) nd rfl (Or.inl rfl) pe_int)
    (pss_cons (ps_for PassesOwn.never rfl (pi_tup (pv 1)) (pg_name (i := 3) nd rfl (Or.inl rfl))
      (pss_cons (ps_if (PW.pt (pw_or (pt_not (pt_chain op_lt op_le (pv 2) (pe_ix ix_tup (pv 3) pe_int (fun _ _ => rfl)) (pv 0))) (pw_or1 (pt_cmpR op_notIn_seq (pe_ix ix_tup (pv 3) pe_int (fun _ _ => rfl)) (pe_tup (pa_cons pe_int (pa_cons pe_int pa_nil))) (by with_unfolding_all rfl)))))
        (pss_one (ps_ret pe_bl)) pss_nil)
      (pss_one (ps_set (i := 2) nd rfl (Or.inl rfl) (pe_ix ix_tup (pv 3) pe_int (fun _ _ => rfl))))))
    (pss_one (ps_ret pe_bl))), ?_⟩
  obtain ⟨xs, hT, hE⟩ := hW
  have hl := eachV_len hE
  refine ⟨_, rfl, a, rfl, ⟨xs, hT⟩, for_tup (K := K) (xs := xs) (fun i σ H1 => ∃ (last : Int) (y3 : Option V), σ = [some (.int n), some (.ref a), some (.int last), y3] ∧ Same H H1 ∧ isR n 0 r = isR n last (r.drop i))
    ⟨0, none, rfl, Same.refl H, rfl⟩ (fun i σ H1 _ ⟨_, _, _, sm, _⟩ => sqT_same sm hT) ?_ ?_⟩
  · rintro i x σ H1 hi ⟨last, y3, rfl, sm, e⟩
    obtain ⟨p, hp, b, rfl, hb⟩ := eachV_at hE hi
    have hd : r.drop i = p :: r.drop (i + 1) := by
      have hlt : i < r.length := (List.getElem?_eq_some_iff.mp hp).1
      rw [List.drop_eq_getElem_cons hlt]
      have := (List.getElem?_eq_some_iff.mp hp).2
      rw [this]
    rw [hd] at e
    have hb1 := sm _ _ hb
    have bad : (p.1 ≤ last ∨ p.1 > n ∨ ¬ (p.2 = 0 ∨ p.2 = 1)) → isR n 0 r = false := fun c => by rw [e]; exact if_pos c
    refine ⟨_, rfl, _, rfl, b, _, 0, _, rfl, rfl, SqT.of hb1, atI_nat (j := 0) rfl, _, _, rfl, rfl, _, rfl, ?_⟩
    by_cases c1 : last < p.1
    · refine iteD c1 ⟨_, rfl, _, _, rfl, rfl, _, rfl, ?_⟩
      by_cases c2 : p.1 ≤ n
      · rw [decide_eq_true c2]
        refine iteF ⟨_, rfl, b, _, 1, _, rfl, rfl, SqT.of hb1, atI_nat (j := 1) rfl, by show 2 ≤ sizeLine; decide, fun t ht => ?_⟩
        have s2 : Same H (upd H1 t (.tup [.int 0, .int 1])) := sm.trans (same_new ht _)
        refine ⟨t, _, rfl, .inr (.inl (.inl upd_same)), rfl, rfl, _, rfl, ?_⟩
        show if (!inV (.int p.2) [.int 0, .int 1]) = true then _ else _
        rw [in01]
        by_cases c3 : p.2 = 0 ∨ p.2 = 1
        · rw [decide_eq_true c3]
          refine iteF ⟨_, rfl, b, _, 0, _, rfl, rfl, SqT.of (s2 _ _ hb), atI_nat (j := 0) rfl, p.1, _, rfl, s2, ?_⟩
          rw [e]
          exact if_neg (by rintro (z | z | z); exact absurd c1 (by omega); exact absurd c2 (by omega); exact z c3)
        · rw [decide_eq_false c3]
          refine iteT ?_
          have := q _ s2
          rw [bad (.inr (.inr c3))] at this
          exact this
      · rw [decide_eq_false c2]
        refine iteT (iteT ?_)
        have := q H1 sm
        rw [bad (.inr (.inl (by omega)))] at this
        exact this
    · refine iteND c1 ⟨_, rfl, iteT (iteT ?_)⟩
      have := q H1 sm
      rw [bad (.inl (by omega))] at this
      exact this
  · rintro σ H1 ⟨last, y3, rfl, sm, e⟩
    rw [hl, List.drop_length] at e
    have := q H1 sm
    rw [e] at this
    exact this
theorem ok_ownLine {k : Nat} (F : Fun K "_law_line" "_law_line" sOwnLine f fd) : FnOk P w K mg base CX0 (k + 1) f fd ["_law_wishes", "_law_paper"] (spOwnLine K) := by
  refine F.ok scOwnLine (fun vs H Q E h => ?_) (fun cdv A outer s H vs Q E hr h => ?_)
  · obtain ⟨b, x, N, t, r, rfl, _⟩ := h
    rfl
  obtain ⟨b, x, N, t, r, rfl, hB, hT, hl, q⟩ := h
  refine ⟨_, pss_one (ps_ret (pe_ifExp (pt_cmpR op_eq (pe_ix ix_tup (pv 1) pe_int (fun _ _ => rfl)) pe_str (nomark _)) (pe_ix ix_list (pv 0) (pe_ix ix_tup (pv 1) pe_int (fun _ _ => rfl)) (fun _ _ => rfl)) (pe_ix ix_tup (pv 1) pe_int (fun _ _ => rfl)))), ?_⟩
  cases t with
  | wish i =>
    obtain ⟨a, rfl, ha⟩ := hT
    obtain ⟨M, rfl, hL, hW⟩ := hB
    have i0 : 0 ≤ i := by
      by_cases c : 0 ≤ i
      · exact c
      · rw [show lineOf (M.map (·.2)) (.wish i) = none from if_neg c] at hl; cases hl
    rw [show lineOf (M.map (·.2)) (.wish i) = (M.map (·.2))[i.toNat]? from if_pos i0, List.getElem?_map] at hl
    cases hq : M[i.toNat]? with
    | none => rw [hq] at hl; cases hl
    | some z =>
      rw [hq] at hl
      obtain rfl : z.2 = r := Option.some.inj hl
      refine ⟨_, rfl, a, _, 0, _, rfl, rfl, SqT.of ha, atI_nat (j := 0) rfl, rfl, _, rfl, iteD rfl ?_⟩
      refine ⟨_, rfl, _, rfl, a, _, 1, _, rfl, rfl, SqT.of ha, atI_nat (j := 1) rfl, b, _, i, _, rfl, rfl, hL, atI_of (i := i.toNat) (by omega) (by rw [List.getElem?_map, hq]; rfl), q z.1 (hW z (List.mem_of_getElem? hq))⟩
  | frm nm line l r2 =>
    obtain ⟨a, c, vl, vr, rfl, ha, hW, _, _⟩ := hT
    obtain rfl : line = r := Option.some.inj hl
    exact ⟨_, rfl, a, _, 0, _, rfl, rfl, SqT.of ha, atI_nat (j := 0) rfl, rfl, _, rfl, iteND wf_ne ⟨_, rfl, a, _, 2, _, rfl, rfl, SqT.of ha, atI_nat (j := 2) rfl, q c hW⟩⟩
end
end Km
/-! NsNin -/
set_option Elab.async false
set_option linter.all false
set_option maxRecDepth 100000
set_option maxHeartbeats 2000000
namespace Ns
open PySem PySem.Spec PySem.SeqAt PyProof.Rows L2
/-- a word that is not in a list of words -/
def rNinWL (K : PySem.W.Frag) : R2 := fun x y H Q => ∃ (p : Word) (r : Wish) (l : Addr), WordH K H x p ∧ y = .ref l ∧ RowH K H l r ∧ Q (.bl (!decide (p ∈ r))) H
theorem op_ninWL {X : Cx} (hu : X.A.units + 64 < cLine) : OpR X (compareOp .NotIn) (rNinWL X.K) := by
  intro pins s σ H x y v u Q I rx ry h
  obtain ⟨p, r, l, hp, rfl, ⟨xs, hL, hE⟩, q⟩ := h
  obtain rfl : u = Value.ref l := ry
  have hv := word_at I hp rx
  obtain ⟨its, rv, pl, hz⟩ := I.list hL
  have each := words_at I hE rv
  refine notIn_listAt (isW s.heap p) pl.isList (fun w hw => isW_eq hv (by show X.A.units + 1 + 8 < cLine; omega) each w (by simpa using hw)) ⟨.bl _, H, I, rfl, ?_⟩
  rw [show its.toArray.any (isW s.heap p) = its.any (isW s.heap p) by simp, isW_any each]
  exact q
/-- the first fault as the law walks: left, right, the node -/
def lawF (n : Int) (N : List Wish) : List Int → LT → Option (List Int × Str)
  | pl, .wish i => (nodeF n N (.wish i)).map fun k => (pl, k)
  | pl, .frm nm line l r => match lawF n N (pl ++ [0]) l with
    | some z => some z
    | none => match lawF n N (pl ++ [1]) r with
      | some z => some z
      | none => (nodeF n N (.frm nm line l r)).map fun k => (pl, k)
theorem firstF_app {n : Int} {N : List Wish} : ∀ (A B : List Spot), firstF n N (A ++ B) = match firstF n N A with | some z => some z | none => firstF n N B
  | [], B => rfl
  | z :: A, B => by
    show (match nodeF n N z.2 with | some k => some (z.1, k) | none => firstF n N (A ++ B)) = match (match nodeF n N z.2 with | some k => some (z.1, k) | none => firstF n N A) with | some z => some z | none => firstF n N B
    cases nodeF n N z.2 with
    | some k => rfl
    | none => exact firstF_app A B
theorem firstF_one {n : Int} {N : List Wish} (pl : List Int) (t : LT) : firstF n N [(pl, t)] = (nodeF n N t).map fun k => (pl, k) := by
  show (match nodeF n N t with | some k => some (pl, k) | none => none) = _
  cases nodeF n N t <;> rfl
theorem law_first {n : Int} {N : List Wish} : ∀ (t : LT) (pl : List Int), firstF n N (post pl t) = lawF n N pl t
  | .wish i, pl => firstF_one pl _
  | .frm nm line l r, pl => by
    show firstF n N (post (pl ++ [0]) l ++ post (pl ++ [1]) r ++ [(pl, .frm nm line l r)]) = _
    rw [firstF_app, firstF_app, firstF_one, law_first l, law_first r]
    show _ = match lawF n N (pl ++ [0]) l with | some z => some z | none => match lawF n N (pl ++ [1]) r with | some z => some z | none => (nodeF n N (.frm nm line l r)).map fun k => (pl, k)
    cases lawF n N (pl ++ [0]) l with
    | some z => rfl
    | none => cases lawF n N (pl ++ [1]) r <;> rfl
theorem isR_val {n : Int} : ∀ (r : Wish) (last : Int), isR n last r = true → ∀ p ∈ r, p.2 = 0 ∨ p.2 = 1
  | [], _, _, p, hp => nomatch hp
  | q :: r, last, h, p, hp => by
    have h2 : (if q.1 ≤ last ∨ q.1 > n ∨ ¬ (q.2 = 0 ∨ q.2 = 1) then false else isR n q.1 r) = true := h
    by_cases c : q.1 ≤ last ∨ q.1 > n ∨ ¬ (q.2 = 0 ∨ q.2 = 1)
    · rw [if_pos c] at h2; cases h2
    · rw [if_neg c] at h2
      rcases List.mem_cons.mp hp with e | e
      · subst e
        exact Classical.byContradiction fun z => c (.inr (.inr z))
      · exact isR_val r _ h2 p e
theorem asked_iff {n : Int} {line : Wish} {nm : Int} (h : isR n 0 line = true) : nm ∈ line.map (·.1) ↔ ((nm, (0 : Int)) ∈ line ∨ (nm, (1 : Int)) ∈ line) := by
  constructor
  · intro hm
    obtain ⟨p, hp, e⟩ := List.mem_map.mp hm
    obtain ⟨a, b⟩ := p
    have e2 : a = nm := e
    subst e2
    rcases isR_val line 0 h _ hp with z | z
    · have z2 : b = 0 := z
      subst z2
      exact .inl hp
    · have z2 : b = 1 := z
      subst z2
      exact .inr hp
  · rintro (h1 | h1) <;> exact List.mem_map.mpr ⟨_, h1, rfl⟩
theorem few_out {q al : Wish} : (0 < (q.filter fun p => !decide (p ∈ al)).length) ↔ (q.all fun p => decide (p ∈ al)) = false := by
  constructor
  · intro h
    obtain ⟨p, hp⟩ := List.exists_mem_of_length_pos h
    obtain ⟨h1, h2⟩ := List.mem_filter.mp hp
    refine Bool.eq_false_iff.mpr fun z => ?_
    have := List.all_eq_true.mp z p h1
    rw [this] at h2
    cases h2
  · intro h
    refine Classical.byContradiction fun z => ?_
    have e : q.filter (fun p => !decide (p ∈ al)) = [] := List.eq_nil_of_length_eq_zero (by omega)
    have all : (q.all fun p => decide (p ∈ al)) = true := List.all_eq_true.mpr fun p hp => by
      cases c : decide (p ∈ al) with
      | true => rfl
      | false =>
        have hm : p ∈ q.filter fun p => !decide (p ∈ al) := List.mem_filter.mpr ⟨hp, by rw [c]; rfl⟩
        rw [e] at hm
        cases hm
    rw [all] at h
    cases h
end Ns
/-! KmOwnF -/
set_option Elab.async false
set_option linter.all false
set_option maxRecDepth 100000
set_option maxHeartbeats 2000000
namespace Ns
open PySem L2
theorem line_some_of {n : Int} {N : List Wish} {pl : List Int} (hN : ∀ r ∈ N, r.length ≤ 900) {t : LT} (h : lawF n N pl t = none) : ∃ q, lineOf N t = some q ∧ (Thin t → q.length ≤ 900) := by
  cases t with
  | wish i =>
    have h1 : (nodeF n N (.wish i)).map (fun k => (pl, k)) = none := h
    have h2 : nodeF n N (.wish i) = none := by
      cases e : nodeF n N (.wish i) with
      | none => rfl
      | some k => rw [e] at h1; cases h1
    obtain ⟨q, e1, e2⟩ := line_some hN (t := .wish i) trivial h2
    exact ⟨q, e1, fun _ => e2⟩
  | frm nm line l r => exact ⟨line, rfl, fun z => z.1⟩
theorem eqV_int (a b : Int) : eqV (.int a) (.int b) = decide (b = a) := by
  first
    | (show decide (a = b) = _; rw [decide_eq_decide]; exact eq_comm)
    | (simp [eqV]; exact eq_comm)
    | simp [eqV, eq_comm]
theorem inV_names : ∀ (line : Wish) (nm : Int), inV (.int nm) (line.map fun p => V.int p.1) = decide (nm ∈ line.map (·.1))
  | [], _ => rfl
  | p :: r, nm => by
    show (eqV (.int p.1) (.int nm) || inV (.int nm) (r.map fun p => V.int p.1)) = _
    rw [inV_names r nm, eqV_int]
    show (decide (nm = p.1) || decide (nm ∈ r.map (·.1))) = decide (nm ∈ p.1 :: r.map (·.1))
    rw [← Bool.decide_or]
    exact decide_eq_decide.mpr List.mem_cons.symm
end Ns
namespace Km
open PySem PySem.Spec PyProof.Rows L2 Ns
abbrev sOwnF : Stmt := top 51
def spOwnF (K : PySem.W.Frag) (m : Nat) : Sp := fun vs H Q _ => ∃ (n : Int) (b pa : Addr) (x : V) (N : List Wish) (t : LT) (pl : List Int), vs = [.int n, .ref b, x, .ref pa] ∧ RowsL K H b N ∧ LRep K H x t ∧ H pa = some (.tup (pl.map V.int)) ∧ pl.length + t.high ≤ 1000 ∧ Thin t ∧ (∀ r ∈ N, r.length ≤ 900) ∧ t.high ≤ m ∧
  (lawF n N pl t = none → ∀ H', Same H H' → Q .non H') ∧ (∀ pl' k, lawF n N pl t = some (pl', k) → ∀ a p H', Same H H' → H' p = some (.tup (pl'.map V.int)) → H' a = some (.tup [.ref p, .str k]) → Q (.ref a) H')
abbrev nOwnF : List Str := ["_law_names", "_law_wishes", "_law_paper", "_law_place", "_law_side", "_law_fault", "_law_word", "_law_allowed"]
theorem scOwnF : FnScope nOwnF ["_law_names", "_law_wishes", "_law_paper", "_law_place"] (defScope sOwnF) := ⟨rfl, rfl, rfl, by decide +kernel, rfl, by decide +kernel, by decide +kernel⟩
section
variable {P : Program} {w : World} {K : PySem.W.Frag} {mg : Str → Option Value} {base : Heap} {f : Addr} {fd : FuncData}
theorem ok_ownF {m : Nat} {fR fL : Addr} {fdR fdL : FuncData} (ml : mg "len" = none) (mr : mg "range" = none) (F : Fun K "_law_node_fault" "_law_node_fault" sOwnF f fd) (b0 : Binds K fd ["_law_names", "_law_wishes", "_law_paper", "_law_place"] []) (m0 : mg "_law_node_fault" = some (.ref f))
    (G : FnOk P w K mg base CX0 (m + 1) f fd ["_law_names", "_law_wishes", "_law_paper", "_law_place"] (spOwnF K m))
    (GR : FnOk P w K mg base CX0 1 fR fdR ["_law_names", "_law_row"] (spRight K)) (kR : PySem.W.keepIn K (.ref fR) = true) (bR : Binds K fdR ["_law_names", "_law_row"] []) (mR : mg "_law_right_row" = some (.ref fR))
    (GL : FnOk P w K mg base CX0 1 fL fdL ["_law_wishes", "_law_paper"] (spOwnLine K)) (kL : PySem.W.keepIn K (.ref fL) = true) (bL : Binds K fdL ["_law_wishes", "_law_paper"] []) (mL : mg "_law_line" = some (.ref fL)) :
    FnOk P w K mg base CX0 (m + 2) f fd ["_law_names", "_law_wishes", "_law_paper", "_law_place"] (spOwnF K (m + 1)) := by
  refine F.ok scOwnF (fun vs H Q E h => ?_) (fun cdv A outer s H vs Q E hr h => ?_)
  · obtain ⟨n, b, pa, x, N, t, pl, rfl, _⟩ := h
    rfl
  obtain ⟨n, b, pa, x, N, t, pl, rfl, hB, hT, hpa, h1000, hth, hN, hm, qn, qs⟩ := h
  have nd := scOwnF.nd
  have hu : (A.deeper (envOfC "_law_node_fault" (defScope sOwnF) s.heap.objs.size f cdv)).units + 64 < cLine := hr.units
  have hr1 : Room 1 (A.deeper (envOfC "_law_node_fault" (defScope sOwnF) s.heap.objs.size f cdv)) := hr.mono (by omega)
  refine ⟨_, pss_cons (ps_if (pt_cmpR op_eq (pe_ix ix_tup (pv 2) pe_int (fun _ _ => rfl)) pe_str (nomark _))
      (pss_one (ps_ret (pe_ifExp (pt_chain op_le op_lt pe_int (pe_ix ix_tup (pv 2) pe_int (fun _ _ => rfl)) (pe_callB call_len_seq rfl ml PySem.boot_len (pa_cons (pv 1) pa_nil))) pe_non (pe_tup (pa_cons (pv 3) (pa_cons pe_str pa_nil)))))) pss_nil)
    (pss_cons (ps_for PassesOwn.never rfl (pi_range1 rfl mr (pa_cons pe_int pa_nil)) (pg_name (i := 4) nd rfl (Or.inl rfl))
      (pss_cons (ps_set (i := 5) nd rfl (Or.inl rfl) (pe_call G hr rfl m0 F.kp b0 .nil pass0 (pa_cons (pv 0) (pa_cons (pv 1) (pa_cons (pe_ix ix_tup (pv 2) (pe_op op_add pe_int (pv 4)) (fun _ _ => rfl)) (pa_cons (pe_op op_catA (pv 3) (pe_tup (pa_cons (pv 4) pa_nil))) pa_nil))))))
      (pss_one (ps_if (pt_cmp (pc_notN (pv 5))) (pss_one (ps_ret (pv 5))) pss_nil))))
    (pss_cons (ps_if (pt_not (pt_val (pe_call GR hr1 rfl mR kR bR .nil pass0 (pa_cons (pv 0) (pa_cons (pe_ix ix_tup (pv 2) pe_int (fun _ _ => rfl)) pa_nil))))) (pss_one (ps_ret (pe_tup (pa_cons (pv 3) (pa_cons pe_str pa_nil))))) pss_nil)
    (pss_cons (ps_if (pt_not (pt_chain op_le op_le pe_int (pe_ix ix_tup (pv 2) pe_int (fun _ _ => rfl)) (pv 0))) (pss_one (ps_ret (pe_tup (pa_cons (pv 3) (pa_cons pe_str pa_nil))))) pss_nil)
    (pss_cons (ps_if (pt_cmpR op_in_seq (pe_ix ix_tup (pv 2) pe_int (fun _ _ => rfl)) (pe_lc (own := [("_law_word", 6)]) (g := gName 6) (tt := tYes) rfl nd (pi_tup (pe_ix ix_tup (pv 2) pe_int (fun _ _ => rfl))) (blkOk_by (N := nOwnF) (sc := defScope sOwnF) (by decide +kernel))
        (fun _ _ _ _ _ => pg_name (i := 6) nd rfl (Or.inl rfl)) (fun _ _ _ _ _ => pts_nil) (fun _ _ _ _ _ => pe_ix (r := rIxT K) ix_tup (pv 6) pe_int (fun _ _ => rfl))) (by with_unfolding_all rfl)) (pss_one (ps_ret (pe_tup (pa_cons (pv 3) (pa_cons pe_str pa_nil))))) pss_nil)
    (pss_cons (ps_for PassesOwn.never rfl (pi_range1 rfl mr (pa_cons pe_int pa_nil)) (pg_name (i := 4) nd rfl (Or.inl rfl))
      (pss_cons (ps_set (i := 7) nd rfl (Or.inr rfl) (pe_op op_cat (pe_lc (own := [("_law_word", 6)]) (g := gName 6) (tt := tYes) rfl nd (pi_tup (pe_ix ix_tup (pv 2) pe_int (fun _ _ => rfl))) (blkOk_by (N := nOwnF) (sc := defScope sOwnF) (by decide +kernel))
        (fun _ _ _ _ _ => pg_name (i := 6) nd rfl (Or.inl rfl)) (fun _ _ _ _ _ => pts_nil) (fun _ _ _ _ _ => pv 6)) (pe_lst (pa_cons (pe_tup (pa_cons (pe_ix ix_tup (pv 2) pe_int (fun _ _ => rfl)) (pa_cons (pe_op op_sub pe_int (pv 4)) pa_nil))) pa_nil))))
      (pss_one (ps_if (pt_cmpR op_gt (pe_callB call_len_seq rfl ml PySem.boot_len (pa_cons
        (pe_lc (own := [("_law_word", 6)]) (g := gName 6) (tt := tTest (tOp (rNinWL K) (tVar 6) (tVar 7))) rfl nd (pi_tup (pe_call GL hr1 rfl mL kL bL .nil pass0 (pa_cons (pv 1) (pa_cons (pe_ix ix_tup (pv 2) (pe_op op_add pe_int (pv 4)) (fun _ _ => rfl)) pa_nil)))) (blkOk_by (N := nOwnF) (sc := defScope sOwnF) (by decide +kernel))
          (fun _ _ _ _ _ => pg_name (i := 6) nd rfl (Or.inl rfl)) (fun _ _ _ _ _ => pts_one (pt_cmpR (op_ninWL hu) (pv 6) (pv 7) (by with_unfolding_all rfl))) (fun _ _ _ _ _ => pv 6)) pa_nil)) pe_int (nomark _))
        (pss_one (ps_ret (pe_tup (pa_cons (pv 3) (pa_cons (pe_ix ix_list (pe_lst (pa_cons pe_str (pa_cons pe_str pa_nil))) (pv 4) (fun _ _ => rfl)) pa_nil))))) pss_nil))))
    (pss_one (ps_ret pe_non))))))), ?_⟩
  cases t with
  | wish i =>
    obtain ⟨a, rfl, ha⟩ := hT
    obtain ⟨M, hM, hL, _⟩ := hB
    have hl : (M.map fun q => V.ref q.1).length = N.length := by rw [List.length_map, ← hM, List.length_map]
    have fault : ¬ (0 ≤ i ∧ i < (N.length : Int)) → lawF n N pl (.wish i) = some (pl, ("wish" : Str)) := fun z => by
      show (nodeF n N (.wish i)).map _ = _
      rw [show nodeF n N (.wish i) = some "wish" from if_neg z]
      rfl
    refine ⟨_, rfl, a, _, 0, _, rfl, rfl, SqT.of ha, atI_nat (j := 0) rfl, rfl, _, rfl, iteD rfl ?_⟩
    refine ⟨_, rfl, a, _, 1, _, rfl, rfl, SqT.of ha, atI_nat (j := 1) rfl, _, _, rfl, rfl, _, rfl, ?_⟩
    by_cases c0 : 0 ≤ i
    · refine iteD c0 ⟨_, rfl, b, _, rfl, .inl hL, _, _, rfl, rfl, _, rfl, ?_⟩
      rw [hl]
      by_cases c1 : i < (N.length : Int)
      · have e : lawF n N pl (.wish i) = none := by
          show (nodeF n N (.wish i)).map _ = _
          rw [show nodeF n N (.wish i) = none from if_pos ⟨c0, c1⟩]
          rfl
        exact iteD c1 (qn e H (Same.refl H))
      · refine iteND c1 ⟨_, rfl, by show 2 ≤ sizeLine; decide, fun a2 ha2 => ?_⟩
        exact qs pl "wish" (fault fun z => c1 z.2) a2 pa _ (same_new ha2 _) (same_new ha2 _ _ _ hpa) upd_same
    · refine iteND c0 ⟨_, rfl, iteF ⟨_, rfl, by show 2 ≤ sizeLine; decide, fun a2 ha2 => ?_⟩⟩
      exact qs pl "wish" (fault fun z => c0 z.1) a2 pa _ (same_new ha2 _) (same_new ha2 _ _ _ hpa) upd_same
  | frm nm line l r =>
    obtain ⟨a, c, vl, vr, rfl, ha, hW, hL, hR⟩ := hT
    have hh : max l.high r.high + 1 ≤ m + 1 := hm
    have hh2 : pl.length + (max l.high r.high + 1) ≤ 1000 := h1000
    have g1 := Nat.le_max_left l.high r.high
    have g2 := Nat.le_max_right l.high r.high
    refine ⟨_, rfl, a, _, 0, _, rfl, rfl, SqT.of ha, atI_nat (j := 0) rfl, rfl, _, rfl, iteND wf_ne ?_⟩
    refine ⟨_, rfl, by decide, by decide, for_range (n := 2) (fun i σ H1 => ∃ (y4 y5 : Option V), σ = [some (.int n), some (.ref b), some (.ref a), some (.ref pa), y4, y5, none, none] ∧ Same H H1 ∧ (1 ≤ i → lawF n N (pl ++ [0]) l = none) ∧ (2 ≤ i → lawF n N (pl ++ [1]) r = none))
      ⟨none, none, rfl, Same.refl H, fun z => absurd z (by decide), fun z => absurd z (by decide)⟩ ?_ ?_⟩
    · rintro i σ H1 hi ⟨y4, y5, rfl, s1, n1, n2⟩
      have two : i = 0 ∨ i = 1 := by omega
      rcases two with rfl | rfl
      · refine ⟨_, rfl, _, rfl, _, rfl, _, rfl, _, _, rfl, rfl, a, _, _, _, rfl, rfl, SqT.of (s1 _ _ ha), atI_of (i := 3) rfl rfl, _, rfl, _, rfl, by show 1 ≤ sizeLine; decide, fun t3 ht3 => ?_⟩
        refine place_snoc (v := 0) (same_new ht3 _ _ _ (s1 _ _ hpa)) upd_same (by omega) fun p5 H5 s5 e5 => ?_
        have s15 := s1.trans ((same_new ht3 (.tup [.int (0 + ((0 : Nat) : Int))])).trans s5)
        refine ⟨n, b, p5, vl, N, l, pl ++ [0], rfl, hB.same s15, hL.same s15, e5, by rw [List.length_append]; show pl.length + 1 + _ ≤ _; omega, hth.2.1, hN, by omega, fun hn H6 s6 => ?_, fun pl' k hk a2 p2 H6 s6 h1 h2 => ?_⟩
        · exact ⟨_, rfl, _, rfl, iteF ⟨_, _, rfl, s15.trans s6, fun _ => hn, fun z => absurd z (by decide)⟩⟩
        · refine ⟨_, rfl, _, rfl, iteT ⟨_, rfl, ?_⟩⟩
          refine qs pl' k ?_ a2 p2 H6 (s15.trans s6) h1 h2
          show (match lawF n N (pl ++ [0]) l with | some z => some z | none => _) = _
          rw [hk]
      · refine ⟨_, rfl, _, rfl, _, rfl, _, rfl, _, _, rfl, rfl, a, _, _, _, rfl, rfl, SqT.of (s1 _ _ ha), atI_of (i := 4) rfl rfl, _, rfl, _, rfl, by show 1 ≤ sizeLine; decide, fun t3 ht3 => ?_⟩
        refine place_snoc (v := 1) (same_new ht3 _ _ _ (s1 _ _ hpa)) upd_same (by omega) fun p5 H5 s5 e5 => ?_
        have s15 := s1.trans ((same_new ht3 (.tup [.int (0 + ((1 : Nat) : Int))])).trans s5)
        refine ⟨n, b, p5, vr, N, r, pl ++ [1], rfl, hB.same s15, hR.same s15, e5, by rw [List.length_append]; show pl.length + 1 + _ ≤ _; omega, hth.2.2, hN, by omega, fun hn H6 s6 => ?_, fun pl' k hk a2 p2 H6 s6 h1 h2 => ?_⟩
        · exact ⟨_, rfl, _, rfl, iteF ⟨_, _, rfl, s15.trans s6, fun _ => n1 (by decide), fun _ => hn⟩⟩
        · refine ⟨_, rfl, _, rfl, iteT ⟨_, rfl, ?_⟩⟩
          refine qs pl' k ?_ a2 p2 H6 (s15.trans s6) h1 h2
          show (match lawF n N (pl ++ [0]) l with | some z => some z | none => match lawF n N (pl ++ [1]) r with | some z => some z | none => _) = _
          rw [n1 (by decide), hk]
    · rintro σ H1 ⟨y4, y5, rfl, s1, n1, n2⟩
      have nl := n1 (by decide)
      have nr := n2 (by decide)
      have fin : ∀ o : Option Str, nodeF n N (.frm nm line l r) = o → lawF n N pl (.frm nm line l r) = o.map fun k => (pl, k) := fun o e => by
        show (match lawF n N (pl ++ [0]) l with | some z => some z | none => match lawF n N (pl ++ [1]) r with | some z => some z | none => (nodeF n N (.frm nm line l r)).map fun k => (pl, k)) = _
        rw [nl, nr, e]
      obtain ⟨h900, th1, th2⟩ := hth
      refine ⟨_, rfl, _, rfl, a, _, 2, _, rfl, rfl, SqT.of (s1 _ _ ha), atI_nat (j := 2) rfl, n, c, line, rfl, hW.same s1, fun H2 s2 => ⟨_, rfl, ?_⟩⟩
      have s12 := s1.trans s2
      cases hR0 : isR n 0 line with
      | false =>
        refine iteT ⟨_, rfl, by show 2 ≤ sizeLine; decide, fun a2 ha2 => ?_⟩
        have s3 := same_new ha2 (.tup [.ref pa, .str "line"])
        exact qs pl "line" (fin _ (if_pos hR0)) a2 pa _ (s12.trans s3) (s3 _ _ (s12 _ _ hpa)) upd_same
      | true =>
      have n0 : ¬ isR n 0 line = false := by rw [hR0]; exact Bool.noConfusion
      refine iteF ?_
      refine ⟨_, rfl, a, _, 1, _, rfl, rfl, SqT.of (s12 _ _ ha), atI_nat (j := 1) rfl, _, _, rfl, rfl, _, rfl, ?_⟩
      by_cases c1 : 1 ≤ nm
      case neg =>
        refine iteND c1 ⟨_, rfl, iteT ⟨_, rfl, by show 2 ≤ sizeLine; decide, fun a2 ha2 => ?_⟩⟩
        have s3 := same_new ha2 (.tup [.ref pa, .str "name"])
        exact qs pl "name" (fin _ ((if_neg n0).trans (if_pos (.inl (by omega))))) a2 pa _ (s12.trans s3) (s3 _ _ (s12 _ _ hpa)) upd_same
      refine iteD c1 ⟨_, rfl, _, _, rfl, rfl, _, rfl, ?_⟩
      by_cases c2 : nm ≤ n
      case neg =>
        rw [decide_eq_false c2]
        refine iteT ⟨_, rfl, by show 2 ≤ sizeLine; decide, fun a2 ha2 => ?_⟩
        have s3 := same_new ha2 (.tup [.ref pa, .str "name"])
        exact qs pl "name" (fin _ ((if_neg n0).trans (if_pos (.inr (by omega))))) a2 pa _ (s12.trans s3) (s3 _ _ (s12 _ _ hpa)) upd_same
      rw [decide_eq_true c2]
      have nn1 : ¬ (nm < 1 ∨ n < nm) := by omega
      refine iteF ?_
      obtain ⟨xs, hxs, hE⟩ := hW.same s12
      have lx := eachV_len hE
      refine ⟨_, rfl, a, _, 1, _, rfl, rfl, SqT.of (s12 _ _ ha), atI_nat (j := 1) rfl, _, rfl, a, _, 2, _, rfl, rfl, SqT.of (s12 _ _ ha), atI_nat (j := 2) rfl, c, rfl, ⟨xs, hxs⟩, fun D hD => ?_⟩
      refine lc_tup (K := K) (xs := xs) (fun i H3 => H3 D = some (.lst ((line.take i).map fun p => V.int p.1)) ∧ Same H2 H3) ⟨upd_same, same_new hD _⟩ (fun i H3 _ ⟨_, s3⟩ => sqT_same s3 hxs) ?_ ?_
      · rintro i x H3 hi ⟨eD, s3⟩
        obtain ⟨p, hp, b2, rfl, hb2⟩ := eachV_at hE hi
        have hlt : i < line.length := (List.getElem?_eq_some_iff.mp hp).1
        refine ⟨rfl, _, rfl, b2, _, 0, _, rfl, rfl, SqT.of (s3 _ _ hb2), atI_nat (j := 0) rfl, _, eD, Nat.lt_of_le_of_lt (show ((line.take i).map fun p => V.int p.1).length ≤ 1000 by rw [List.length_map, List.length_take]; omega) (by decide), ?_, fun z o e => ?_⟩
        · have t : line.take (i + 1) = line.take i ++ [p] := by rw [List.take_succ, hp]; rfl
          rw [upd_same, t, List.map_append]
          rfl
        · rw [upd_ne (ne_of_none e hD)]
          exact s3 _ _ e
      rintro H3 ⟨eD, s3⟩
      rw [lx, List.take_length] at eD
      have s13 := s12.trans s3
      have flat : (line.map fun p => V.int p.1).all flatV = true := by
        rw [List.all_map]
        exact List.all_eq_true.mpr fun p _ => rfl
      have inl := inV_names line nm
      refine ⟨D, _, rfl, .inl (.inl (.inl eD)), rfl, flat, _, rfl, ?_⟩
      show if inV (.int nm) (line.map fun p => V.int p.1) = true then _ else _
      rw [inl]
      by_cases c3 : nm ∈ line.map (·.1)
      · rw [decide_eq_true c3]
        refine iteT ⟨_, rfl, by show 2 ≤ sizeLine; decide, fun a2 ha2 => ?_⟩
        have s4 := same_new ha2 (.tup [.ref pa, .str "asked"])
        exact qs pl "asked" (fin _ ((if_neg n0).trans ((if_neg nn1).trans (if_pos ((asked_iff hR0).mp c3))))) a2 pa _ (s13.trans s4) (s4 _ _ (s13 _ _ hpa)) upd_same
      rw [decide_eq_false c3]
      have nn2 : ¬ ((nm, (0 : Int)) ∈ line ∨ (nm, (1 : Int)) ∈ line) := fun z => c3 ((asked_iff hR0).mpr z)
      refine iteF ?_
      obtain ⟨ql, el, hql⟩ := line_some_of hN (t := l) nl
      obtain ⟨qr, er, hqr⟩ := line_some_of hN (t := r) nr
      refine ⟨_, rfl, by decide, by decide, for_range (n := 2) (fun i σ H4 => ∃ (y4 y5 y6 y7 : Option V), σ = [some (.int n), some (.ref b), some (.ref a), some (.ref pa), y4, y5, y6, y7] ∧ Same H H4 ∧ (1 ≤ i → hasW (lineOf N l) (line ++ [(nm, 1)]) = true) ∧ (2 ≤ i → hasW (lineOf N r) (line ++ [(nm, 0)]) = true))
        ⟨_, _, _, _, rfl, s13, fun z => absurd z (by decide), fun z => absurd z (by decide)⟩ ?_ ?_⟩
      · rintro i σ H4 hi ⟨y4, y5, y6, y7, rfl, s4, w1, w2⟩
        have two : i = 0 ∨ i = 1 := by omega
        rcases two with rfl | rfl
        · have s14a := Same.refl H4
          obtain ⟨xs, hxs, hE⟩ := hW.same s4
          have lx := eachV_len hE
          refine ⟨_, rfl, a, _, 2, _, rfl, rfl, SqT.of (s4 _ _ ha), atI_nat (j := 2) rfl, c, rfl, ⟨xs, hxs⟩, fun D hD => ?_⟩
          refine lc_tup (K := K) (xs := xs) (fun i H5 => H5 D = some (.lst (xs.take i)) ∧ Same H4 H5) ⟨upd_same, same_new hD _⟩ (fun i H5 _ ⟨_, s5⟩ => sqT_same s5 hxs) ?_ ?_
          · rintro i x H5 hi ⟨eD, s5⟩
            have hlt : i < xs.length := (List.getElem?_eq_some_iff.mp hi).1
            refine ⟨rfl, _, rfl, _, eD, Nat.lt_of_le_of_lt (show (xs.take i).length ≤ 1000 by rw [List.length_take]; omega) (by decide), ?_, fun z o e => ?_⟩
            · rw [upd_same, List.take_succ, hi]
              rfl
            · rw [upd_ne (ne_of_none e hD)]
              exact s5 _ _ e
          rintro H5 ⟨eD, s5⟩
          rw [List.take_length] at eD
          have s45 := s4.trans s5
          refine ⟨_, rfl, a, _, 1, _, rfl, rfl, SqT.of (s45 _ _ ha), atI_nat (j := 1) rfl, _, rfl, _, _, rfl, rfl, by show 2 ≤ sizeLine; decide, fun t4 ht4 => ⟨by show 1 ≤ sizeLine; decide, fun l4 hl4 => ?_⟩⟩
          have sa := same_new ht4 (.tup [.int nm, (fun i j : Int => V.int (i - j)) 1 (0 + ((0 : Nat) : Int))])
          have sb := same_new hl4 (.lst [.ref t4])
          refine ⟨D, l4, xs, [.ref t4], rfl, rfl, sb _ _ (sa _ _ eD), upd_same, Nat.le_trans (show xs.length + 1 ≤ 1000 by omega) (by decide), fun al hal => ?_⟩
          have sc := same_new hal (.lst (xs ++ [.ref t4]))
          have s14 := s5.trans (sa.trans (sb.trans sc))
          have s47 := s4.trans s14
          have hal2 : RowH K (upd (upd (upd H5 t4 (.tup [.int nm, (fun i j : Int => V.int (i - j)) 1 (0 + ((0 : Nat) : Int))])) l4 (.lst [.ref t4])) al (.lst (xs ++ [.ref t4]))) al (line ++ [(nm, 1)]) := ⟨_, SqL.of upd_same, eachV_snoc (eachV_mono (fun x p => WordH.same s14) hE) (pair_word (sc _ _ (sb _ _ upd_same)))⟩
          generalize upd (upd (upd H5 t4 (.tup [.int nm, (fun i j : Int => V.int (i - j)) 1 (0 + ((0 : Nat) : Int))])) l4 (.lst [.ref t4])) al (.lst (xs ++ [.ref t4])) = H7 at s14 s47 hal2
          refine ⟨_, rfl, _, rfl, _, rfl, _, _, rfl, rfl, a, _, _, _, rfl, rfl, SqT.of (s47 _ _ ha), atI_of (i := 3) rfl rfl, b, vl, N, l, ql, rfl, hB.same s47, hL.same s47, el, fun wl hwl => ?_⟩
          obtain ⟨ys, hys, hY⟩ := hwl
          have ly := eachV_len hY
          have lq := hql th1
          refine ⟨wl, rfl, ⟨ys, hys⟩, fun D2 hD2 => ?_⟩
          refine lc_tup (K := K) (xs := ys) (fun i H8 => ∃ acc : List V, H8 D2 = some (.lst acc) ∧ acc.length = ((ql.take i).filter fun p => !decide (p ∈ line ++ [(nm, (1 : Int))])).length ∧ Same H7 H8) ⟨[], upd_same, rfl, same_new hD2 _⟩ (fun i H8 _ ⟨_, _, _, s8⟩ => sqT_same s8 hys) ?_ ?_
          · rintro i x H8 hi ⟨acc, eA, la, s8⟩
            obtain ⟨p, hp, b2, rfl, hb2⟩ := eachV_at hY hi
            have hlt : i < ql.length := (List.getElem?_eq_some_iff.mp hp).1
            have tk : ql.take (i + 1) = ql.take i ++ [p] := by rw [List.take_succ, hp]; rfl
            refine ⟨rfl, _, rfl, _, rfl, p, line ++ [(nm, 1)], al, ⟨b2, rfl, s8 _ _ hb2⟩, rfl, hal2.same s8, _, rfl, ?_⟩
            by_cases hin : p ∈ line ++ [(nm, (1 : Int))]
            · rw [decide_eq_true hin]
              refine iteF ⟨acc, eA, ?_, s8⟩
              rw [tk, List.filter_append, List.length_append, la, List.filter_cons_of_neg (by rw [decide_eq_true hin]; exact Bool.noConfusion)]
              rfl
            · rw [decide_eq_false hin]
              have lf := List.length_filter_le (fun p => !decide (p ∈ line ++ [(nm, (1 : Int))])) (ql.take i)
              rw [List.length_take] at lf
              refine iteT ⟨_, rfl, acc, eA, Nat.lt_of_le_of_lt (show acc.length ≤ 1000 by omega) (by decide), _, upd_same, ?_, fun z o e => ?_⟩
              · rw [tk, List.filter_append, List.length_append, List.length_append, la, List.filter_cons_of_pos (by rw [decide_eq_false hin]; rfl)]
                rfl
              · rw [upd_ne (ne_of_none e hD2)]
                exact s8 _ _ e
          rintro H8 ⟨acc, eA, la, s8⟩
          rw [ly, List.take_length] at la
          refine ⟨D2, acc, rfl, .inl (.inl (.inl eA)), _, _, rfl, rfl, _, rfl, ?_⟩
          have s48 := s47.trans s8
          by_cases hpos : 0 < acc.length
          · have hw : hasW (lineOf N l) (line ++ [(nm, 1)]) = false := by
              rw [el]
              exact few_out.mp (by rw [← la]; exact hpos)
            refine iteD (by omega) ⟨_, rfl, by show 2 ≤ sizeLine; decide, fun l5 hl5 => ⟨_, rfl, l5, _, _, _, rfl, rfl, SqL.of upd_same, atI_of (i := 0) rfl rfl, by show 2 ≤ sizeLine; decide, fun a2 ha2 => ?_⟩⟩
            have sd := same_new hl5 (.lst [.str "left", .str "right"])
            have se := same_new ha2 (.tup [.ref pa, .str "left"])
            exact qs pl "left" (fin _ ((if_neg n0).trans ((if_neg nn1).trans ((if_neg nn2).trans (if_pos hw))))) a2 pa _ (s48.trans (sd.trans se)) (se _ _ (sd _ _ (s48 _ _ hpa))) upd_same
          · have hw : hasW (lineOf N l) (line ++ [(nm, 1)]) = true := by
              rw [el]
              cases z : ql.all (fun p => decide (p ∈ line ++ [(nm, (1 : Int))])) with
              | true => exact z
              | false => exact absurd (few_out.mpr z) (by rw [← la]; exact hpos)
            refine iteND (by omega) ?_
            have s14 := s14.trans s8
            exact ⟨_, _, _, _, rfl, s4.trans s14, fun _ => hw, fun z => absurd z (by decide)⟩
        · have s14a := Same.refl H4
          obtain ⟨xs, hxs, hE⟩ := hW.same s4
          have lx := eachV_len hE
          refine ⟨_, rfl, a, _, 2, _, rfl, rfl, SqT.of (s4 _ _ ha), atI_nat (j := 2) rfl, c, rfl, ⟨xs, hxs⟩, fun D hD => ?_⟩
          refine lc_tup (K := K) (xs := xs) (fun i H5 => H5 D = some (.lst (xs.take i)) ∧ Same H4 H5) ⟨upd_same, same_new hD _⟩ (fun i H5 _ ⟨_, s5⟩ => sqT_same s5 hxs) ?_ ?_
          · rintro i x H5 hi ⟨eD, s5⟩
            have hlt : i < xs.length := (List.getElem?_eq_some_iff.mp hi).1
            refine ⟨rfl, _, rfl, _, eD, Nat.lt_of_le_of_lt (show (xs.take i).length ≤ 1000 by rw [List.length_take]; omega) (by decide), ?_, fun z o e => ?_⟩
            · rw [upd_same, List.take_succ, hi]
              rfl
            · rw [upd_ne (ne_of_none e hD)]
              exact s5 _ _ e
          rintro H5 ⟨eD, s5⟩
          rw [List.take_length] at eD
          have s45 := s4.trans s5
          refine ⟨_, rfl, a, _, 1, _, rfl, rfl, SqT.of (s45 _ _ ha), atI_nat (j := 1) rfl, _, rfl, _, _, rfl, rfl, by show 2 ≤ sizeLine; decide, fun t4 ht4 => ⟨by show 1 ≤ sizeLine; decide, fun l4 hl4 => ?_⟩⟩
          have sa := same_new ht4 (.tup [.int nm, (fun i j : Int => V.int (i - j)) 1 (0 + ((1 : Nat) : Int))])
          have sb := same_new hl4 (.lst [.ref t4])
          refine ⟨D, l4, xs, [.ref t4], rfl, rfl, sb _ _ (sa _ _ eD), upd_same, Nat.le_trans (show xs.length + 1 ≤ 1000 by omega) (by decide), fun al hal => ?_⟩
          have sc := same_new hal (.lst (xs ++ [.ref t4]))
          have s14 := s5.trans (sa.trans (sb.trans sc))
          have s47 := s4.trans s14
          have hal2 : RowH K (upd (upd (upd H5 t4 (.tup [.int nm, (fun i j : Int => V.int (i - j)) 1 (0 + ((1 : Nat) : Int))])) l4 (.lst [.ref t4])) al (.lst (xs ++ [.ref t4]))) al (line ++ [(nm, 0)]) := ⟨_, SqL.of upd_same, eachV_snoc (eachV_mono (fun x p => WordH.same s14) hE) (pair_word (sc _ _ (sb _ _ upd_same)))⟩
          generalize upd (upd (upd H5 t4 (.tup [.int nm, (fun i j : Int => V.int (i - j)) 1 (0 + ((1 : Nat) : Int))])) l4 (.lst [.ref t4])) al (.lst (xs ++ [.ref t4])) = H7 at s14 s47 hal2
          refine ⟨_, rfl, _, rfl, _, rfl, _, _, rfl, rfl, a, _, _, _, rfl, rfl, SqT.of (s47 _ _ ha), atI_of (i := 4) rfl rfl, b, vr, N, r, qr, rfl, hB.same s47, hR.same s47, er, fun wl hwl => ?_⟩
          obtain ⟨ys, hys, hY⟩ := hwl
          have ly := eachV_len hY
          have lq := hqr th2
          refine ⟨wl, rfl, ⟨ys, hys⟩, fun D2 hD2 => ?_⟩
          refine lc_tup (K := K) (xs := ys) (fun i H8 => ∃ acc : List V, H8 D2 = some (.lst acc) ∧ acc.length = ((qr.take i).filter fun p => !decide (p ∈ line ++ [(nm, (0 : Int))])).length ∧ Same H7 H8) ⟨[], upd_same, rfl, same_new hD2 _⟩ (fun i H8 _ ⟨_, _, _, s8⟩ => sqT_same s8 hys) ?_ ?_
          · rintro i x H8 hi ⟨acc, eA, la, s8⟩
            obtain ⟨p, hp, b2, rfl, hb2⟩ := eachV_at hY hi
            have hlt : i < qr.length := (List.getElem?_eq_some_iff.mp hp).1
            have tk : qr.take (i + 1) = qr.take i ++ [p] := by rw [List.take_succ, hp]; rfl
            refine ⟨rfl, _, rfl, _, rfl, p, line ++ [(nm, 0)], al, ⟨b2, rfl, s8 _ _ hb2⟩, rfl, hal2.same s8, _, rfl, ?_⟩
            by_cases hin : p ∈ line ++ [(nm, (0 : Int))]
            · rw [decide_eq_true hin]
              refine iteF ⟨acc, eA, ?_, s8⟩
              rw [tk, List.filter_append, List.length_append, la, List.filter_cons_of_neg (by rw [decide_eq_true hin]; exact Bool.noConfusion)]
              rfl
            · rw [decide_eq_false hin]
              have lf := List.length_filter_le (fun p => !decide (p ∈ line ++ [(nm, (0 : Int))])) (qr.take i)
              rw [List.length_take] at lf
              refine iteT ⟨_, rfl, acc, eA, Nat.lt_of_le_of_lt (show acc.length ≤ 1000 by omega) (by decide), _, upd_same, ?_, fun z o e => ?_⟩
              · rw [tk, List.filter_append, List.length_append, List.length_append, la, List.filter_cons_of_pos (by rw [decide_eq_false hin]; rfl)]
                rfl
              · rw [upd_ne (ne_of_none e hD2)]
                exact s8 _ _ e
          rintro H8 ⟨acc, eA, la, s8⟩
          rw [ly, List.take_length] at la
          refine ⟨D2, acc, rfl, .inl (.inl (.inl eA)), _, _, rfl, rfl, _, rfl, ?_⟩
          have s48 := s47.trans s8
          by_cases hpos : 0 < acc.length
          · have hw : hasW (lineOf N r) (line ++ [(nm, 0)]) = false := by
              rw [er]
              exact few_out.mp (by rw [← la]; exact hpos)
            refine iteD (by omega) ⟨_, rfl, by show 2 ≤ sizeLine; decide, fun l5 hl5 => ⟨_, rfl, l5, _, _, _, rfl, rfl, SqL.of upd_same, atI_of (i := 1) rfl rfl, by show 2 ≤ sizeLine; decide, fun a2 ha2 => ?_⟩⟩
            have sd := same_new hl5 (.lst [.str "left", .str "right"])
            have se := same_new ha2 (.tup [.ref pa, .str "right"])
            exact qs pl "right" (fin _ ((if_neg n0).trans ((if_neg nn1).trans ((if_neg nn2).trans ((if_neg (by rw [w1 (by decide)]; exact Bool.noConfusion)).trans (if_pos hw)))))) a2 pa _ (s48.trans (sd.trans se)) (se _ _ (sd _ _ (s48 _ _ hpa))) upd_same
          · have hw : hasW (lineOf N r) (line ++ [(nm, 0)]) = true := by
              rw [er]
              cases z : qr.all (fun p => decide (p ∈ line ++ [(nm, (0 : Int))])) with
              | true => exact z
              | false => exact absurd (few_out.mpr z) (by rw [← la]; exact hpos)
            refine iteND (by omega) ?_
            have s14 := s14.trans s8
            exact ⟨_, _, _, _, rfl, s4.trans s14, fun _ => w1 (by decide), fun _ => hw⟩
      · rintro σ H4 ⟨y4, y5, y6, y7, rfl, s4, w1, w2⟩
        have e := fin none ((if_neg n0).trans ((if_neg nn1).trans ((if_neg nn2).trans ((if_neg (by rw [w1 (by decide)]; exact Bool.noConfusion)).trans (if_neg (by rw [w2 (by decide)]; exact Bool.noConfusion))))))
        exact qn e H4 s4
end
end Km
/-! KmDue -/
set_option Elab.async false
set_option linter.all false
set_option maxRecDepth 100000
set_option maxHeartbeats 2000000
namespace Ns
theorem treeF_law {n : Int} {N : List Wish} (t : LT) : treeF n N t = match lawF n N [] t with
    | some z => some z
    | none => if lineOf N t = some [] then none else some ([], "end") := by
  unfold treeF
  first
    | (rw [law_first]; done)
    | (rw [law_first]; cases lawF n N [] t <;> rfl)
end Ns
namespace Km
open PySem PySem.Spec PyProof.Rows L2 Ns
abbrev sDue : Stmt := top 52
def spDue (K : PySem.W.Frag) : Sp := fun vs H Q _ => ∃ (n : Int) (b : Addr) (x : V) (N : List Wish) (t : LT), vs = [.int n, .ref b, x] ∧ RowsL K H b N ∧ LRep K H x t ∧ t.size ≤ 900 ∧ t.high ≤ 100 ∧ Thin t ∧ (∀ r ∈ N, r.length ≤ 900) ∧
  (treeF n N t = none → ∀ H', Same H H' → Q .non H') ∧ (∀ pl k, treeF n N t = some (pl, k) → ∀ a p H', Same H H' → H' p = some (.tup (pl.map V.int)) → H' a = some (.tup [.ref p, .str k]) → Q (.ref a) H')
theorem scDue : FnScope ["_law_names", "_law_wishes", "_law_paper", "_law_fault"] ["_law_names", "_law_wishes", "_law_paper"] (defScope sDue) := ⟨rfl, rfl, rfl, by decide +kernel, rfl, by decide +kernel, by decide +kernel⟩
section
variable {P : Program} {w : World} {K : PySem.W.Frag} {mg : Str → Option Value} {base : Heap} {f : Addr} {fd : FuncData}
theorem ok_due {fF fL : Addr} {fdF fdL : FuncData} (ml : mg "len" = none) (F : Fun K "_law_due" "_law_due" sDue f fd)
    (GF : FnOk P w K mg base CX0 101 fF fdF ["_law_names", "_law_wishes", "_law_paper", "_law_place"] (spOwnF K 100)) (kF : PySem.W.keepIn K (.ref fF) = true) (bF : Binds K fdF ["_law_names", "_law_wishes", "_law_paper", "_law_place"] []) (mF : mg "_law_node_fault" = some (.ref fF))
    (GL : FnOk P w K mg base CX0 1 fL fdL ["_law_wishes", "_law_paper"] (spOwnLine K)) (kL : PySem.W.keepIn K (.ref fL) = true) (bL : Binds K fdL ["_law_wishes", "_law_paper"] []) (mL : mg "_law_line" = some (.ref fL)) :
    FnOk P w K mg base CX0 102 f fd ["_law_names", "_law_wishes", "_law_paper"] (spDue K) := by
  refine F.ok scDue (fun vs H Q E h => ?_) (fun cdv A outer s H vs Q E hr h => ?_)
  · obtain ⟨n, b, x, N, t, rfl, _⟩ := h
    rfl
  obtain ⟨n, b, x, N, t, rfl, hB, hT, hsz, h100, hth, hN, qn, qs⟩ := h
  have nd := scDue.nd
  refine ⟨_, pss_cons (ps_set (i := 3) nd rfl (Or.inl rfl) (pe_call GF hr rfl mF kF bF .nil pass0 (pa_cons (pv 0) (pa_cons (pv 1) (pa_cons (pv 2) (pa_cons (pe_tup pa_nil) pa_nil))))))
    (pss_cons (ps_if (PW.pt (pw_and (pt_cmp (pc_isN (pv 3))) (pw_and1 (pt_cmpR op_gt (pe_callB call_len_seq rfl ml PySem.boot_len (pa_cons (pe_call GL (hr.mono (by decide)) rfl mL kL bL .nil pass0 (pa_cons (pv 1) (pa_cons (pv 2) pa_nil))) pa_nil)) pe_int (nomark _)))))
      (pss_one (ps_ret (pe_tup (pa_cons (pe_tup pa_nil) (pa_cons pe_str pa_nil))))) pss_nil)
    (pss_one (ps_ret (pv 3)))), ?_⟩
  have high := high_size t
  refine ⟨_, rfl, _, rfl, _, rfl, Nat.zero_le _, fun p0 hp0 => ?_⟩
  have s0 := same_new hp0 (.tup [])
  refine ⟨n, b, p0, x, N, t, [], rfl, hB.same s0, hT.same s0, upd_same, (by show 0 + _ ≤ _; omega), hth, hN, by omega, fun hn H1 s1 => ?_, fun pl' k hk a p H1 s1 h1 h2 => ?_⟩
  · have s2 := s0.trans s1
    obtain ⟨q, eq_, lq⟩ := line_some_of hN hn
    refine ⟨_, rfl, _, rfl, iteT ⟨_, rfl, _, rfl, b, x, N, t, q, rfl, hB.same s2, hT.same s2, eq_, fun wl hwl => ?_⟩⟩
    obtain ⟨ys, hys, hY⟩ := hwl
    have ly := eachV_len hY
    refine ⟨wl, ys, rfl, .inr hys, _, _, rfl, rfl, _, rfl, ?_⟩
    by_cases c : 0 < ys.length
    · refine iteD (by omega) ⟨Nat.zero_le _, fun p hp => ⟨by show 2 ≤ sizeLine; decide, fun a ha => ?_⟩⟩
      have e : treeF n N t = some ([], ("end" : Str)) := by
        rw [treeF_law, hn]
        exact if_neg (fun z => by rw [eq_] at z; obtain rfl := Option.some.inj z; rw [ly] at c; exact absurd c (by decide))
      have s3 := same_new hp (.tup [])
      have s4 := same_new ha (.tup [.ref p, .str "end"])
      exact qs [] "end" e a p _ (s2.trans (s3.trans s4)) (s4 _ _ upd_same) upd_same
    · refine iteND (by omega) ?_
      have e : treeF n N t = none := by
        rw [treeF_law, hn]
        have z : q = [] := List.eq_nil_of_length_eq_zero (by omega)
        exact if_pos (by rw [eq_, z])
      exact ⟨_, rfl, qn e H1 s2⟩
  · refine ⟨_, rfl, _, rfl, iteF ⟨_, rfl, ?_⟩⟩
    have e : treeF n N t = some (pl', k) := by rw [treeF_law, hk]
    exact qs pl' k e a p H1 (s0.trans s1) h1 h2
end
end Km
/-! KmCell -/
set_option Elab.async false
set_option linter.all false
set_option maxRecDepth 100000
set_option maxHeartbeats 2000000
namespace Km
open PySem PySem.Spec PyProof.Rows L2 Ns
abbrev sCell : Stmt := top 36
abbrev sDraws : Stmt := top 37
/-- the built-ins that no name of the text hides -/
structure Blt (mg : Str → Option Value) : Prop where
  mlen : mg "len" = none
  mint : mg "int" = none
  mran : mg "range" = none
  mabs : mg "abs" = none
theorem small200 {n : Nat} (h : n ≤ 200000) : n < sizeLine := Nat.lt_of_le_of_lt h (by decide)
/-! ### _law_cell(script, k) -/
def spCell (K : PySem.W.Frag) : Sp := fun vs H Q _ => ∃ (a : Addr) (ns : List Int) (k : Nat), vs = [.ref a, .int (k : Int)] ∧ SqL K H a (ns.map V.int) ∧ Q (.int (ns.getD k 0)) H
theorem scCell : FnScope ["_law_script", "_law_k"] ["_law_script", "_law_k"] (defScope sCell) := ⟨rfl, rfl, rfl, by decide +kernel, rfl, by decide +kernel, by decide +kernel⟩
section
variable {P : Program} {w : World} {K : PySem.W.Frag} {mg : Str → Option Value} {base : Heap} {f : Addr} {fd : FuncData}
theorem ok_cell {k : Nat} (T : Blt mg) (F : Fun K "_law_cell" "_law_cell" sCell f fd) : FnOk P w K mg base CX0 (k + 1) f fd ["_law_script", "_law_k"] (spCell K) := by
  refine F.ok scCell (fun vs H Q E h => ?_) (fun cdv A outer s H vs Q E hr h => ?_)
  · obtain ⟨a, ns, k, rfl, _⟩ := h
    rfl
  obtain ⟨a, ns, k, rfl, hS, q⟩ := h
  refine ⟨_, pss_cons (ps_if (pt_cmpR op_lt (pv 1) (pe_callB call_len_seq rfl T.mlen PySem.boot_len (pa_cons (pv 0) pa_nil)) (nomark _)) (pss_one (ps_ret (pe_ix ix_list (pv 0) (pv 1) (fun _ _ => rfl)))) pss_nil)
    (pss_one (ps_ret pe_int)), ?_⟩
  refine ⟨_, rfl, _, rfl, a, _, rfl, .inl hS, _, _, rfl, rfl, _, rfl, ?_⟩
  rw [List.length_map]
  by_cases h : k < ns.length
  · rw [decide_eq_true (by omega)]
    have e : (ns.map V.int)[k]? = some (.int (ns.getD k 0)) := by
      rw [List.getElem?_map, List.getElem?_eq_getElem h, List.getD_eq_getElem?_getD, List.getElem?_eq_getElem h]
      rfl
    exact iteT ⟨_, rfl, _, rfl, a, _, _, _, rfl, rfl, hS, atI_nat e, q⟩
  · rw [decide_eq_false (by omega)]
    refine iteF ?_
    have e : ns.getD k 0 = 0 := by
      rw [List.getD_eq_getElem?_getD, List.getElem?_eq_none (by omega)]
      rfl
    rw [e] at q
    exact q
/-! ### _law_draws(cell, many): slots cell many draws rest k state other -/
def spDraws : Sp := fun vs H Q _ => ∃ (z : Int) (m : Nat), vs = [.int z, .int (m : Int)] ∧ m ≤ 1000 ∧
  ∀ (ds : List Int) (o : Addr) (H' : Hp), ds.length = m → (∀ d ∈ ds, 0 ≤ d ∧ d < 60) → Same H H' → H' o = some (.lst (ds.map V.int)) → Q (.ref o) H'
theorem scDraws : FnScope ["_law_cell_here", "_law_many", "_law_draws_here", "_law_rest", "_law_k", "_law_state", "_law_other"] ["_law_cell_here", "_law_many"] (defScope sDraws) := ⟨rfl, rfl, rfl, by decide +kernel, rfl, by decide +kernel, by decide +kernel⟩
theorem ok_draws {k : Nat} (T : Blt mg) (F : Fun K "_law_draws" "_law_draws" sDraws f fd) : FnOk P w K mg base CX0 (k + 1) f fd ["_law_cell_here", "_law_many"] spDraws := by
  refine F.ok scDraws (fun vs H Q E h => ?_) (fun cdv A outer s H vs Q E hr h => ?_)
  · obtain ⟨z, m, rfl, _⟩ := h
    rfl
  obtain ⟨z, m, rfl, hm, q⟩ := h
  have nd := scDraws.nd
  refine ⟨_, pss_cons (ps_set (i := 2) nd rfl (Or.inl rfl) (pe_lst pa_nil))
    (pss_cons (ps_set (i := 3) nd rfl (Or.inl rfl) (pe_callB call_abs rfl T.mabs PyProof.Rows.boot_abs (pa_cons (pv 0) pa_nil)))
    (pss_cons (ps_if (pt_cmpR op_ge (pv 3) (pe_op op_pow pe_int pe_int) (nomark _))
      (pss_cons (ps_for PassesOwn.never rfl (pi_range1 rfl T.mran (pa_cons (pv 1) pa_nil)) (pg_name (i := 4) nd rfl (Or.inl rfl))
        (pss_cons (ps_expr (pe_bm PySem.F.plainAttrs_list PySem.F.slot_list_append PySem.F.type_list_append mt_append (pv 2) (pa_cons (pe_op op_mod (pv 3) pe_int) pa_nil)))
          (pss_one (ps_set (i := 3) nd rfl (Or.inl rfl) (pe_op op_fdiv (pv 3) pe_int)))))
        (pss_one (ps_ret (pv 2)))) pss_nil)
    (pss_cons (ps_set (i := 5) nd rfl (Or.inl rfl) (pe_op op_add (pv 3) pe_int))
    (pss_cons (ps_for PassesOwn.never rfl (pi_range1 rfl T.mran (pa_cons (pv 1) pa_nil)) (pg_name (i := 4) nd rfl (Or.inl rfl))
        (pss_cons (ps_set (i := 5) nd rfl (Or.inl rfl) (pe_op op_mod (pe_callTy call_int1 rfl T.mint PyProof.Rows.boot_int (pa_cons (pe_op op_add (pe_op op_add (pe_op op_mul (pv 5) pe_int) (pe_op op_mul pe_int (pv 4))) pe_int) pa_nil)) pe_int))
        (pss_cons (ps_set (i := 6) nd rfl (Or.inl rfl) (pe_op op_mod (pe_callTy call_int1 rfl T.mint PyProof.Rows.boot_int (pa_cons (pe_op op_add (pe_op op_mul (pv 5) pe_int) (pv 4)) pa_nil)) pe_int))
          (pss_one (ps_expr (pe_bm PySem.F.plainAttrs_list PySem.F.slot_list_append PySem.F.type_list_append mt_append (pv 2) (pa_cons (pe_op op_mod (pe_op op_fdiv (pv 6) pe_int) pe_int) pa_nil)))))))
    (pss_one (ps_ret (pv 2))))))), ?_⟩
  refine ⟨Nat.zero_le _, fun o ho => ?_⟩
  refine ⟨_, rfl, z, rfl, _, rfl, _, _, rfl, rfl, ⟨by decide, by decide, by decide⟩, _, _, rfl, rfl, _, rfl, ?_⟩
  have s1 : Same H (upd H o (.lst [])) := same_new ho _
  have lens : ∀ {ds : List Int} {i : Nat}, ds.length = i → i < m → (ds.map V.int).length < sizeLine := fun e h => by
    rw [List.length_map, e]
    exact small200 (by omega)
  have done : ∀ {ds : List Int} {d : Int}, (∀ x ∈ ds, 0 ≤ x ∧ x < 60) → 0 ≤ d ∧ d < 60 → ∀ x ∈ ds ++ [d], 0 ≤ x ∧ x < 60 := fun h1 h2 x hx => by
    rcases List.mem_append.mp hx with hx | hx
    · exact h1 x hx
    · rw [List.mem_singleton.mp hx]; exact h2
  have keep : ∀ {H' : Hp} {xs : List V}, Same H H' → Same H (upd H' o (.lst xs)) := fun sm b x e => by
    rw [upd_ne (ne_of_none e ho)]
    exact sm _ _ e
  refine ite2 (fun c => ?_) (fun c => ?_)
  · refine ⟨_, rfl, (m : Int), rfl, by omega, by omega, for_range (n := m) (fun i σ H' => ∃ (r : Int) (y : Option V) (ds : List Int), σ = [some (.int z), some (.int (m : Int)), some (.ref o), some (.int r), y, none, none] ∧ ds.length = i ∧ (∀ d ∈ ds, 0 ≤ d ∧ d < 60) ∧ Same H H' ∧ H' o = some (.lst (ds.map V.int)))
      ⟨_, none, [], rfl, rfl, (fun d hd => by cases hd), s1, upd_same⟩ ?_ ?_⟩
    · rintro i σ H' hi ⟨r, y, ds, rfl, hl, hd, sm, eo⟩
      refine ⟨.ref o, rfl, .inl ⟨rfl, _, .inl (.inl eo)⟩, _, rfl, _, _, rfl, rfl, (by show (0 : Int) < 60; decide), o, _, _, rfl, rfl, eo, lens hl hi, ?_⟩
      refine ⟨_, rfl, _, _, rfl, rfl, ⟨by decide, by decide⟩, ?_⟩
      refine ⟨_, _, ds ++ [r % 60], rfl, by rw [List.length_append, hl]; rfl, done hd ⟨by omega, by omega⟩, keep sm, ?_⟩
      rw [upd_same, List.map_append]
      rfl
    · rintro σ H' ⟨r, y, ds, rfl, hl, hd, sm, eo⟩
      exact ⟨_, rfl, q ds o H' hl hd sm eo⟩
  · have c' : ¬ (if z < 0 then -z else z) ≥ (10 : Int) ^ (18 : Int).toNat := of_decide_eq_false (Bool.eq_false_iff.mpr c)
    have c2 : (if z < 0 then -z else z) < 1000000000000000000 := by
      have e : (10 : Int) ^ (18 : Int).toNat = 1000000000000000000 := by decide
      rw [e] at c'
      omega
    have c3 : 0 ≤ (if z < 0 then -z else z) := by split <;> omega
    refine ⟨_, rfl, _, _, rfl, rfl, _, rfl, (m : Int), rfl, by omega, by omega, for_range (n := m) (fun i σ H' => ∃ (r st : Int) (y y6 : Option V) (ds : List Int), σ = [some (.int z), some (.int (m : Int)), some (.ref o), some (.int r), y, some (.int st), y6] ∧ (0 ≤ st ∧ st < 2000000000000000000) ∧ ds.length = i ∧ (∀ d ∈ ds, 0 ≤ d ∧ d < 60) ∧ Same H H' ∧ H' o = some (.lst (ds.map V.int)))
      ⟨_, _, none, none, [], rfl, ⟨by omega, by omega⟩, rfl, (fun d hd => by cases hd), s1, upd_same⟩ ?_ ?_⟩
    · rintro i σ H' hi ⟨r, st, y, y6, ds, rfl, hst, hl, hd, sm, eo⟩
      refine ⟨_, rfl, _, _, rfl, rfl, .inl ⟨by omega, by omega⟩, _, rfl, _, _, rfl, rfl, .inl ⟨by decide, by decide⟩, _, _, rfl, rfl, _, _, rfl, rfl, .inl ⟨_, rfl, _, _, rfl, rfl, (by show (0 : Int) < 2147483647; decide), ?_⟩⟩
      refine ⟨_, rfl, _, _, rfl, rfl, .inl ⟨by omega, by omega⟩, _, rfl, _, _, rfl, rfl, .inl ⟨_, rfl, _, _, rfl, rfl, (by show (0 : Int) < 1000003; decide), ?_⟩⟩
      refine ⟨.ref o, rfl, .inl ⟨rfl, _, .inl (.inl eo)⟩, _, rfl, _, _, rfl, rfl, ⟨by decide, by decide⟩, _, _, rfl, rfl, (by show (0 : Int) < 60; decide), o, _, _, rfl, rfl, eo, lens hl hi, ?_⟩
      refine ⟨_, _, _, _, ds ++ [((st * 48271 + 12345 * (0 + (i : Int)) + 7) % 2147483647 * 69621 + (0 + (i : Int))) % 1000003 / 3 % 60], rfl, ⟨by omega, by omega⟩, by rw [List.length_append, hl]; rfl, done hd ⟨Int.emod_nonneg _ (by decide), Int.emod_lt_of_pos _ (by decide)⟩, keep sm, ?_⟩
      rw [upd_same, List.map_append]
      rfl
    · rintro σ H' ⟨r, st, y, y6, ds, rfl, hst, hl, hd, sm, eo⟩
      exact ⟨_, rfl, q ds o H' hl hd sm eo⟩
end
end Km
/-! KmSeed -/
set_option Elab.async false
set_option linter.all false
set_option maxRecDepth 100000
set_option maxHeartbeats 2000000
namespace Km
open PySem PySem.Spec PyProof.Rows L2 Ns
abbrev sSeed : Stmt := top 38
def spSeed (K : PySem.W.Frag) : Sp := fun vs H Q _ => ∃ (a : Addr) (ns : List Int) (k : Nat), vs = [.ref a, .int (k : Int)] ∧ SqL K H a (ns.map V.int) ∧ k ≤ 1000 ∧ ∀ z : Int, 0 ≤ z → Q (.int z) H
theorem scSeed : FnScope ["_law_script", "_law_k", "_law_first", "_law_seed_here", "_law_cell_here"] ["_law_script", "_law_k"] (defScope sSeed) := ⟨rfl, rfl, rfl, by decide +kernel, rfl, by decide +kernel, by decide +kernel⟩
section
variable {P : Program} {w : World} {K : PySem.W.Frag} {mg : Str → Option Value} {base : Heap} {f : Addr} {fd : FuncData}
theorem ok_seed {fC : Addr} {fdC : FuncData} (T : Blt mg) (F : Fun K "_law_seed" "_law_seed" sSeed f fd)
    (GC : FnOk P w K mg base CX0 1 fC fdC ["_law_script", "_law_k"] (spCell K)) (kC : PySem.W.keepIn K (.ref fC) = true) (bC : Binds K fdC ["_law_script", "_law_k"] []) (mC : mg "_law_cell" = some (.ref fC)) :
    FnOk P w K mg base CX0 2 f fd ["_law_script", "_law_k"] (spSeed K) := by
  refine F.ok scSeed (fun vs H Q E h => ?_) (fun cdv A outer s H vs Q E hr h => ?_)
  · obtain ⟨a, ns, k, rfl, _⟩ := h
    rfl
  obtain ⟨a, ns, k, rfl, hS, hk, q⟩ := h
  have nd := scSeed.nd
  refine ⟨_, pss_cons (ps_set (i := 2) nd rfl (Or.inl rfl) (pe_callB call_abs rfl T.mabs PyProof.Rows.boot_abs (pa_cons (pe_call GC hr rfl mC kC bC .nil pass0 (pa_cons (pv 0) (pa_cons (pv 1) pa_nil))) pa_nil)))
    (pss_cons (ps_if (pt_cmpR op_ge (pv 2) (pe_op op_pow pe_int pe_int) (nomark _)) (pss_one (ps_ret (pv 2))) pss_nil)
    (pss_cons (ps_set (i := 3) nd rfl (Or.inl rfl) (pe_op op_add pe_int (pv 1)))
    (pss_cons (ps_for PassesOwn.never rfl (pi_list (pv 0)) (pg_name (i := 4) nd rfl (Or.inl rfl))
      (pss_one (ps_set (i := 3) nd rfl (Or.inl rfl) (pe_op op_mod (pe_callTy call_int1 rfl T.mint PyProof.Rows.boot_int (pa_cons (pe_op op_add (pe_op op_mul (pv 3) pe_int) (pe_callB call_abs rfl T.mabs PyProof.Rows.boot_abs (pa_cons (pv 4) pa_nil))) pa_nil)) pe_int))))
    (pss_one (ps_ret (pv 3)))))), ?_⟩
  refine ⟨_, rfl, _, rfl, a, ns, k, rfl, hS, _, rfl, ?_⟩
  generalize ns.getD k 0 = z0
  have h0 : 0 ≤ (if z0 < 0 then -z0 else z0) := by split <;> omega
  refine ⟨_, rfl, _, _, rfl, rfl, ⟨by decide, by decide, by decide⟩, _, _, rfl, rfl, _, rfl, ?_⟩
  refine ite2 (fun c => ⟨_, rfl, q _ h0⟩) (fun c => ?_)
  refine ⟨_, rfl, _, _, rfl, rfl, _, rfl, a, rfl, ⟨_, hS⟩, for_list (K := K) (xs := ns.map V.int) (fun i σ H1 => ∃ (z : Int) (y : Option V), σ = [some (.ref a), some (.int (k : Int)), some (.int (if z0 < 0 then -z0 else z0)), some (.int z), y] ∧ 0 ≤ z ∧ z < 1000000000000 ∧ H1 = H)
    ⟨_, none, rfl, by omega, by omega, rfl⟩ (fun i σ H1 _ ⟨_, _, _, _, _, e⟩ => by rw [e]; exact hS) ?_ ?_⟩
  · rintro i x σ H1 hi ⟨z, y, rfl, p0, p1, rfl⟩
    obtain ⟨c1, rfl⟩ : ∃ c1, x = V.int c1 := by
      rw [List.getElem?_map] at hi
      cases e : ns[i]? with
      | none => rw [e] at hi; cases hi
      | some v => rw [e] at hi; exact ⟨v, (Option.some.inj hi).symm⟩
    refine ⟨_, rfl, _, _, rfl, rfl, .inl ⟨by omega, by omega⟩, _, rfl, _, rfl, _, _, rfl, rfl, .inl ⟨_, rfl, _, _, rfl, rfl, (by show (0 : Int) < 999999999989; decide), ?_⟩⟩
    exact ⟨_, _, rfl, Int.emod_nonneg _ (by decide), Int.lt_trans (Int.emod_lt_of_pos _ (by decide)) (by decide), rfl⟩
  · rintro σ H1 ⟨z, y, rfl, p0, p1, rfl⟩
    exact ⟨_, rfl, q z p0⟩
end
end Km
/-! KmWish -/
set_option Elab.async false
set_option linter.all false
set_option maxRecDepth 100000
set_option maxHeartbeats 2000000
namespace Ns
open PySem L2
theorem isR_of {n : Int} : ∀ (r : Wish) (last : Int), Up r → (∀ p ∈ r, last < p.1 ∧ p.1 ≤ n ∧ (p.2 = 0 ∨ p.2 = 1)) → isR n last r = true
  | [], _, _, _ => rfl
  | q :: r, last, up, h => by
    obtain ⟨u1, u2⟩ := List.pairwise_cons.mp up
    obtain ⟨h1, h2, h3⟩ := h q List.mem_cons_self
    have e : isR n last (q :: r) = isR n q.1 r := if_neg (by rintro (z | z | z); omega; omega; exact z h3)
    rw [e]
    exact isR_of r q.1 u2 fun p hp => ⟨u1 p hp, (h p (List.mem_cons_of_mem _ hp)).2⟩
end Ns
namespace Km
open PySem PySem.Spec PyProof.Rows L2 Ns
abbrev sWishD : Stmt := top 39
def spWishD (K : PySem.W.Frag) : Sp := fun vs H Q _ => ∃ (z : Int) (m : Nat), vs = [.int z, .int (m : Int)] ∧ m ≤ 40 ∧ ∀ t H' r, Same H H' → WishH K H' t r → Up r → isR (m : Int) 0 r = true → r.length ≤ m → Q (.ref t) H'
abbrev nWishD : List Str := ["_law_cell_here", "_law_names", "_law_draws_here", "_law_k"]
theorem scWishD : FnScope nWishD ["_law_cell_here", "_law_names"] (defScope sWishD) := ⟨rfl, rfl, rfl, by decide +kernel, rfl, by decide +kernel, by decide +kernel⟩
section
variable {P : Program} {w : World} {K : PySem.W.Frag} {mg : Str → Option Value} {base : Heap} {f : Addr} {fd : FuncData}
theorem ok_wishD {fD : Addr} {fdD : FuncData} (T : Blt mg) (mt : mg "tuple" = none) (F : Fun K "_law_wish" "_law_wish" sWishD f fd)
    (GD : FnOk P w K mg base CX0 1 fD fdD ["_law_cell_here", "_law_many"] spDraws) (kD : PySem.W.keepIn K (.ref fD) = true) (bD : Binds K fdD ["_law_cell_here", "_law_many"] []) (mD : mg "_law_draws" = some (.ref fD)) :
    FnOk P w K mg base CX0 2 f fd ["_law_cell_here", "_law_names"] (spWishD K) := by
  refine F.ok scWishD (fun vs H Q E h => ?_) (fun cdv A outer s H vs Q E hr h => ?_)
  · obtain ⟨z, m, rfl, _⟩ := h
    rfl
  obtain ⟨z, m, rfl, hm, q⟩ := h
  have nd := scWishD.nd
  refine ⟨_, pss_cons (ps_set (i := 2) nd rfl (Or.inr rfl) (pe_call GD hr rfl mD kD bD .nil pass0 (pa_cons (pv 0) (pa_cons (pv 1) pa_nil))))
    (pss_one (ps_ret (pe_tupleOf rfl mt (pe_lc (own := [("_law_k", 3)]) (g := gName 3) (tt := tTest (tOp (rI0 fun i j => V.bl (decide (j < i))) (tOp (rI (fun _ j => 0 < j) fun i j => .int (i % j)) (tOp (rIxL K) (tVar 2) (tVar 3)) (tC (.int 3))) (tC (.int 0)))) rfl nd (pi_range1 rfl T.mran (pa_cons (pv 1) pa_nil))
      (blkOk_by (N := nWishD) (sc := defScope sWishD) (by decide +kernel)) (fun _ _ _ _ _ => pg_name (i := 3) nd rfl (Or.inl rfl)) (fun _ _ _ _ _ => pts_one (pt_cmpR op_gt (pe_op op_mod (pe_ix ix_list (pv 2) (pv 3) (fun _ _ => rfl)) pe_int) pe_int (nomark _)))
      (fun _ _ _ _ _ => pe_tup (pa_cons (pe_op op_add (pv 3) pe_int) (pa_cons (pe_op op_sub (pe_op op_mod (pe_ix (r := rIxL K) ix_list (pv 2) (pv 3) (fun _ _ => rfl)) pe_int) pe_int) pa_nil))))))), ?_⟩
  refine ⟨_, rfl, _, rfl, z, m, rfl, by omega, fun ds o H1 hl hd sm eo => ?_⟩
  refine ⟨_, rfl, (m : Int), rfl, by omega, by omega, fun D hD => ?_⟩
  refine lc_range (n := m) (fun i H2 => ∃ (acc : List V) (r : Wish), H2 D = some (.lst acc) ∧ Same H1 H2 ∧ Pairs H2 acc r ∧ Up r ∧ (∀ p ∈ r, 0 < p.1 ∧ p.1 ≤ (i : Int) ∧ (p.2 = 0 ∨ p.2 = 1)) ∧ r.length ≤ i)
    ⟨[], [], upd_same, same_new hD _, ⟨rfl, fun i x p h => by simp at h⟩, List.Pairwise.nil, (fun p hp => nomatch hp), Nat.le_refl _⟩ ?_ ?_
  · rintro i H2 hi ⟨acc, r, eD, s2, hP, up, hb, hlr⟩
    have hds : ∃ d, (ds.map V.int)[i]? = some (.int d) ∧ 0 ≤ d := by
      have h1 : i < ds.length := by omega
      exact ⟨ds[i], by rw [List.getElem?_map, List.getElem?_eq_getElem h1]; rfl, (hd _ (List.getElem_mem h1)).1⟩
    obtain ⟨d, e1, d0⟩ := hds
    have hS : ∀ H', Same H1 H' → SqL K H' o (ds.map V.int) := fun H' s => .inl (.inl (s _ _ eo))
    refine ⟨rfl, _, rfl, _, rfl, o, _, _, _, rfl, rfl, hS H2 s2, at_of (by omega : (0 : Int) + (i : Int) = (i : Int)) e1, _, _, rfl, rfl, (by show (0 : Int) < 3; decide), _, _, rfl, rfl, _, rfl, ?_⟩
    have m1 := Int.emod_nonneg d (show (3 : Int) ≠ 0 by decide)
    have m2 := Int.emod_lt_of_pos d (show (0 : Int) < 3 by decide)
    by_cases c : 0 < d % 3
    · rw [decide_eq_true c]
      refine iteT ⟨_, rfl, _, _, rfl, rfl, _, rfl, _, rfl, o, _, _, _, rfl, rfl, hS H2 s2, at_of (by omega : (0 : Int) + (i : Int) = (i : Int)) e1, _, _, rfl, rfl, (by show (0 : Int) < 3; decide), _, _, rfl, rfl, by show 2 ≤ sizeLine; decide, fun t ht => ?_⟩
      have s3 := same_new ht (.tup [V.int (0 + (i : Int) + 1), V.int (d % 3 - 1)])
      have eD3 := s3 _ _ eD
      have la := hP.1
      refine ⟨acc, eD3, Nat.lt_of_le_of_lt (show acc.length ≤ 1000 by omega) (by decide), _, r ++ [(0 + (i : Int) + 1, d % 3 - 1)], upd_same, fun x u e => ?_, Ns.Pairs.off eD3 (Ns.Pairs.snoc (hP.same s3) upd_same), ?_, fun p hp => ?_, ?_⟩
      · rw [upd_ne (ne_of_none e hD)]
        exact s3 _ _ (s2 _ _ e)
      · refine List.pairwise_append.mpr ⟨up, List.pairwise_singleton _ _, fun p hp p2 hp2 => ?_⟩
        rw [List.mem_singleton.mp hp2]
        have := (hb p hp).2.1
        show p.1 < 0 + (i : Int) + 1
        omega
      · rcases List.mem_append.mp hp with e | e
        · have h1 := hb p e
          exact ⟨h1.1, by have := h1.2.1; omega, h1.2.2⟩
        · rw [List.mem_singleton.mp e]
          refine ⟨by show (0 : Int) < 0 + (i : Int) + 1; omega, by show (0 : Int) + (i : Int) + 1 ≤ ((i + 1 : Nat) : Int); omega, ?_⟩
          show d % 3 - 1 = 0 ∨ d % 3 - 1 = 1
          omega
      · rw [List.length_append]
        show _ + 1 ≤ _
        omega
    · rw [decide_eq_false c]
      exact iteF ⟨acc, r, eD, s2, hP, up, fun p hp => ⟨(hb p hp).1, by have := (hb p hp).2.1; omega, (hb p hp).2.2⟩, by omega⟩
  · rintro H2 ⟨acc, r, eD, s2, hP, up, hb, hlr⟩
    refine .inl ⟨D, acc, rfl, .inl (.inl eD), fun t ht => ?_⟩
    have s3 := same_new ht (.tup acc)
    exact q t _ r (sm.trans (s2.trans s3)) ⟨acc, SqT.of upd_same, (hP.same s3).each⟩ up (isR_of r 0 up hb) hlr
end
end Km
/-! KmPart -/
set_option Elab.async false
set_option linter.all false
set_option maxRecDepth 100000
set_option maxHeartbeats 2000000
namespace Km
open PySem PySem.Spec PyProof.Rows L2 Ns
abbrev sPart : Stmt := top 40
def spPart (K : PySem.W.Frag) : Sp := fun vs H Q _ => ∃ (d : Int) (a : Addr) (r : Wish), vs = [.int d, .ref a] ∧ WishH K H a r ∧ r.length ≤ 900 ∧ ∀ t H' r', Same H H' → WishH K H' t r' → r'.Sublist r → Q (.ref t) H'
theorem scPart : FnScope ["_law_draw", "_law_row", "_law_part_here", "_law_rest", "_law_word"] ["_law_draw", "_law_row"] (defScope sPart) := ⟨rfl, rfl, rfl, by decide +kernel, rfl, by decide +kernel, by decide +kernel⟩
section
variable {P : Program} {w : World} {K : PySem.W.Frag} {mg : Str → Option Value} {base : Heap} {f : Addr} {fd : FuncData}
theorem ok_part {k : Nat} (T : Blt mg) (mt : mg "tuple" = none) (F : Fun K "_law_part" "_law_part" sPart f fd) : FnOk P w K mg base CX0 (k + 1) f fd ["_law_draw", "_law_row"] (spPart K) := by
  refine F.ok scPart (fun vs H Q E h => ?_) (fun cdv A outer s H vs Q E hr h => ?_)
  · obtain ⟨d, a, r, rfl, _⟩ := h
    rfl
  obtain ⟨d, a, r, rfl, hW, h900, q⟩ := h
  have nd := scPart.nd
  refine ⟨_, pss_cons (ps_set (i := 2) nd rfl (Or.inl rfl) (pe_lst pa_nil))
    (pss_cons (ps_set (i := 3) nd rfl (Or.inl rfl) (pv 0))
    (pss_cons (ps_for PassesOwn.never rfl (pi_tup (pv 1)) (pg_name (i := 4) nd rfl (Or.inl rfl))
      (pss_cons (ps_if (pt_cmpR op_eq (pe_op op_mod (pe_callTy call_int1 rfl T.mint PyProof.Rows.boot_int (pa_cons (pv 3) pa_nil)) pe_int) pe_int (nomark _))
        (pss_one (ps_expr (pe_bm PySem.F.plainAttrs_list PySem.F.slot_list_append PySem.F.type_list_append mt_append (pv 2) (pa_cons (pv 4) pa_nil)))) pss_nil)
      (pss_one (ps_set (i := 3) nd rfl (Or.inl rfl) (pe_op op_fdiv (pv 3) pe_int)))))
    (pss_one (ps_ret (pe_tupleOf rfl mt (pv 2)))))), ?_⟩
  obtain ⟨xs, hxs, hE⟩ := hW
  have lx := eachV_len hE
  refine ⟨Nat.zero_le _, fun o ho => ?_⟩
  have s0 := same_new ho (.lst [])
  refine ⟨_, rfl, _, rfl, a, rfl, ⟨xs, sqT_same s0 hxs⟩, for_tup (K := K) (xs := xs) (fun i σ H1 => ∃ (z : Int) (y : Option V) (acc : List V) (r' : Wish), σ = [some (.int d), some (.ref a), some (.ref o), some (.int z), y] ∧ Same H H1 ∧ H1 o = some (.lst acc) ∧ WishH.EachV (WordH K H1) acc r' ∧ r'.Sublist (r.take i))
    ⟨d, none, [], [], rfl, s0, upd_same, trivial, List.Sublist.refl _⟩ (fun i σ H1 _ ⟨_, _, _, _, _, sm, _⟩ => sqT_same sm hxs) ?_ ?_⟩
  · rintro i x σ H1 hi ⟨z, y, acc, r', rfl, sm, eo, hA, hsub⟩
    obtain ⟨p, hp, b, rfl, hb⟩ := eachV_at hE hi
    have hlt : i < r.length := (List.getElem?_eq_some_iff.mp hp).1
    have tk : r.take (i + 1) = r.take i ++ [p] := by rw [List.take_succ, hp]; rfl
    have la := eachV_len hA
    have ls := hsub.length_le
    rw [List.length_take] at ls
    refine ⟨_, rfl, .inl ⟨_, rfl, _, _, rfl, rfl, (by show (0 : Int) < 2; decide), rfl, _, rfl, ?_⟩⟩
    refine ite2 (fun cc => ?_) (fun cc => ?_)
    · refine ⟨.ref o, rfl, .inl ⟨rfl, _, .inl (.inl eo)⟩, _, rfl, o, _, _, rfl, rfl, eo, Nat.lt_of_le_of_lt (show acc.length ≤ 1000 by omega) (by decide), ?_⟩
      refine ⟨_, rfl, _, _, rfl, rfl, ⟨by decide, by decide⟩, ?_⟩
      have wO : ∀ x p, WordH K H1 x p → WordH K (upd H1 o (.lst (acc ++ [V.ref b]))) x p := fun x p ⟨c, e1, e2⟩ => ⟨c, e1, sqT_offL (K := K) eo e2⟩
      refine ⟨_, _, _, r' ++ [p], rfl, fun u v e => ?_, upd_same, eachV_snoc (eachV_mono wO hA) (wO _ _ ⟨b, rfl, sm _ _ hb⟩), ?_⟩
      · rw [upd_ne (ne_of_none e ho)]
        exact sm _ _ e
      · rw [tk]
        exact hsub.append (List.Sublist.refl _)
    · refine ⟨_, rfl, _, _, rfl, rfl, ⟨by decide, by decide⟩, ?_⟩
      refine ⟨_, _, acc, r', rfl, sm, eo, hA, ?_⟩
      rw [tk]
      exact hsub.trans (List.sublist_append_left _ _)
  · rintro σ H1 ⟨z, y, acc, r', rfl, sm, eo, hA, hsub⟩
    rw [lx, List.take_length] at hsub
    refine ⟨_, rfl, .inl ⟨o, acc, rfl, .inl (.inl eo), fun t ht => ?_⟩⟩
    have s3 := same_new ht (.tup acc)
    exact q t _ r' (sm.trans s3) ⟨acc, SqT.of upd_same, eachV_mono (fun x p => WordH.same s3) hA⟩ hsub
end
end Km
/-! KmRows -/
set_option Elab.async false
set_option linter.all false
set_option maxRecDepth 100000
set_option maxHeartbeats 2000000
namespace Ns
open PySem PySem.Spec PyProof.Rows L2
/-- a line tree whose leaves hold any values -/
inductive GT where
  | leaf (v : V)
  | node (nm : Int) (line : Wish) (l r : GT)
def GRep (K : PySem.W.Frag) (H : Hp) : V → GT → Prop
  | x, .leaf v => ∃ a, x = .ref a ∧ H a = some (.tup [.str "wish", v])
  | x, .node nm line l r => ∃ a b vl vr, x = .ref a ∧ H a = some (.tup [.str "from", .int nm, .ref b, vl, vr]) ∧ WishH K H b line ∧ GRep K H vl l ∧ GRep K H vr r
theorem GRep.same {K : PySem.W.Frag} {H H1 : Hp} (e : Same H H1) : ∀ {t : GT} {x : V}, GRep K H x t → GRep K H1 x t
  | .leaf v, x, ⟨a, h1, h2⟩ => ⟨a, h1, e _ _ h2⟩
  | .node nm line l r, x, ⟨a, b, vl, vr, h1, h2, h3, h4, h5⟩ => ⟨a, b, vl, vr, h1, e _ _ h2, h3.same e, h4.same e, h5.same e⟩
def GT.vals : GT → List V
  | .leaf v => [v]
  | .node _ _ l r => l.vals ++ r.vals
def GT.high : GT → Nat
  | .leaf _ => 1
  | .node _ _ l r => max l.high r.high + 1
def gOf : LT → GT
  | .wish i => .leaf (.int i)
  | .frm nm line l r => .node nm line (gOf l) (gOf r)
theorem gOf_rep {K : PySem.W.Frag} {H : Hp} : ∀ {t : LT} {x : V}, LRep K H x t → GRep K H x (gOf t)
  | .wish i, x, h => h
  | .frm nm line l r, x, ⟨a, b, vl, vr, h1, h2, h3, h4, h5⟩ => ⟨a, b, vl, vr, h1, h2, h3, gOf_rep h4, gOf_rep h5⟩
theorem gOf_vals : ∀ t : LT, (gOf t).vals.length = t.leaves
  | .wish i => rfl
  | .frm nm line l r => by
    show ((gOf l).vals ++ (gOf r).vals).length = l.leaves + r.leaves
    rw [List.length_append, gOf_vals l, gOf_vals r]
theorem gOf_high : ∀ t : LT, (gOf t).high = t.high
  | .wish i => rfl
  | .frm nm line l r => by
    show max (gOf l).high (gOf r).high + 1 = max l.high r.high + 1
    rw [gOf_high l, gOf_high r]
end Ns
namespace Km
open PySem PySem.Spec PyProof.Rows L2 Ns
abbrev sRows : Stmt := top 42
def spRows (K : PySem.W.Frag) (n : Nat) : Sp := fun vs H Q _ => ∃ (x : V) (t : GT), vs = [x] ∧ GRep K H x t ∧ t.vals.length ≤ 100000 ∧ t.high ≤ n ∧ ∀ o H', Same H H' → H o = none → H' o = some (.lst t.vals) → Q (.ref o) H'
theorem scRows : FnScope ["_law_paper"] ["_law_paper"] (defScope sRows) := ⟨rfl, rfl, rfl, by decide +kernel, rfl, by decide +kernel, by decide +kernel⟩
section
variable {P : Program} {w : World} {K : PySem.W.Frag} {mg : Str → Option Value} {base : Heap} {f : Addr} {fd : FuncData}
theorem ok_rows {n : Nat} (F : Fun K "_law_leaf_rows" "_law_leaf_rows" sRows f fd) (b : Binds K fd ["_law_paper"] []) (m : mg "_law_leaf_rows" = some (.ref f)) (G : FnOk P w K mg base CX0 n f fd ["_law_paper"] (spRows K n)) :
    FnOk P w K mg base CX0 (n + 1) f fd ["_law_paper"] (spRows K (n + 1)) := by
  refine F.ok scRows (fun vs H Q E h => ?_) (fun cdv A outer s H vs Q E hr h => ?_)
  · obtain ⟨x, t, rfl, _⟩ := h
    rfl
  obtain ⟨x, t, rfl, hT, hl, hh, q⟩ := h
  refine ⟨_, pss_cons (ps_if (pt_cmpR op_eq (pe_ix ix_tup (pv 0) pe_int (fun _ _ => rfl)) pe_str (nomark _)) (pss_one (ps_ret (pe_lst (pa_cons (pe_ix ix_tup (pv 0) pe_int (fun _ _ => rfl)) pa_nil)))) pss_nil)
    (pss_one (ps_ret (pe_op op_cat (pe_call G hr rfl m F.kp b .nil pass0 (pa_cons (pe_ix ix_tup (pv 0) pe_int (fun _ _ => rfl)) pa_nil)) (pe_call G hr rfl m F.kp b .nil pass0 (pa_cons (pe_ix ix_tup (pv 0) pe_int (fun _ _ => rfl)) pa_nil))))), ?_⟩
  cases t with
  | leaf v =>
    obtain ⟨a, rfl, ha⟩ := hT
    refine ⟨_, rfl, a, _, 0, _, rfl, rfl, SqT.of ha, atI_nat (j := 0) rfl, rfl, _, rfl, iteD rfl ?_⟩
    exact ⟨_, rfl, a, _, 1, _, rfl, rfl, SqT.of ha, atI_nat (j := 1) rfl, by show 1 ≤ sizeLine; decide, fun o ho => q o _ (same_new ho _) ho upd_same⟩
  | node nm line l r =>
    obtain ⟨a, c, vl, vr, rfl, ha, hW, hL, hR⟩ := hT
    have h1 : max l.high r.high + 1 ≤ n + 1 := hh
    have h2 := Nat.le_max_left l.high r.high
    have h3 := Nat.le_max_right l.high r.high
    have hl2 : (l.vals ++ r.vals).length ≤ 100000 := hl
    rw [List.length_append] at hl2
    refine ⟨_, rfl, a, _, 0, _, rfl, rfl, SqT.of ha, atI_nat (j := 0) rfl, rfl, _, rfl, iteND wf_ne ?_⟩
    refine ⟨_, rfl, a, _, 3, _, rfl, rfl, SqT.of ha, atI_nat (j := 3) rfl, vl, l, rfl, hL, by omega, by omega, fun o1 H1 s1 n1 e1 => ?_⟩
    refine ⟨_, rfl, a, _, 4, _, rfl, rfl, SqT.of (s1 _ _ ha), atI_nat (j := 4) rfl, vr, r, rfl, hR.same s1, by omega, by omega, fun o2 H2 s2 n2 e2 => ?_⟩
    refine ⟨o1, o2, _, _, rfl, rfl, s2 _ _ e1, e2, Nat.le_trans hl2 (by decide), fun o ho => ?_⟩
    have s12 := s1.trans s2
    refine q o _ (s12.trans (same_new ho _)) ?_ upd_same
    cases e : H o with
    | none => rfl
    | some u => have z := s12 o u e; rw [ho] at z; cases z
theorem rows0 {ps : List Str} : FnOk P w K mg base CX0 0 f fd ps (spRows K 0) := by
  have no : ∀ vs H Q E, ¬ spRows K 0 vs H Q E := fun vs H Q E h => by
    obtain ⟨x, t, _, _, _, h1, _⟩ := h
    cases t <;> simp [Ns.GT.high] at h1
  exact ⟨fun vs H Q E h => absurd h (no vs H Q E), fun A outer s H args us vs Q E _ _ _ _ h => absurd h (no vs H Q E)⟩
theorem all_rows (F : Fun K "_law_leaf_rows" "_law_leaf_rows" sRows f fd) (b : Binds K fd ["_law_paper"] []) (m : mg "_law_leaf_rows" = some (.ref f)) : ∀ n : Nat, FnOk P w K mg base CX0 n f fd ["_law_paper"] (spRows K n)
  | 0 => rows0
  | n + 1 => ok_rows F b m (all_rows F b m n)
end
end Km
/-! KmSub -/
set_option Elab.async false
set_option linter.all false
set_option maxRecDepth 100000
set_option maxHeartbeats 2000000
namespace Ns
open PySem PySem.Spec PyProof.Rows L2
/-- the node at a place -/
def LT.sub : LT → List Int → Option LT
  | t, [] => some t
  | .frm _ _ l r, v :: pl => if v = 0 then l.sub pl else if v = 1 then r.sub pl else none
  | .wish _, _ :: _ => none
theorem sub_snoc : ∀ (pl : List Int) (t t1 : LT) (v : Int) (pl2 : List Int), t.sub pl = some t1 → t.sub (pl ++ v :: pl2) = t1.sub (v :: pl2)
  | [], t, t1, v, pl2, h => by
    have e : t = t1 := by cases t <;> exact Option.some.inj h
    rw [e]
    rfl
  | u :: pl, .wish i, t1, v, pl2, h => by cases h
  | u :: pl, .frm nm line l r, t1, v, pl2, h => by
    have h2 : (if u = 0 then l.sub pl else if u = 1 then r.sub pl else none) = some t1 := h
    show (if u = 0 then l.sub (pl ++ v :: pl2) else if u = 1 then r.sub (pl ++ v :: pl2) else none) = t1.sub (v :: pl2)
    by_cases c : u = 0
    · rw [if_pos c] at h2 ⊢
      exact sub_snoc pl l t1 v pl2 h2
    · rw [if_neg c] at h2 ⊢
      by_cases c1 : u = 1
      · rw [if_pos c1] at h2 ⊢
        exact sub_snoc pl r t1 v pl2 h2
      · rw [if_neg c1] at h2
        cases h2
end Ns
namespace Km
open PySem PySem.Spec PyProof.Rows L2 Ns
abbrev sSub : Stmt := top 45
def spSub (K : PySem.W.Frag) : Sp := fun vs H Q _ => ∃ (x : V) (a : Addr) (t t' : LT) (pl : List Int), vs = [x, .ref a] ∧ LRep K H x t ∧ SqT K H a (pl.map V.int) ∧ t.sub pl = some t' ∧ ∀ x', LRep K H x' t' → Q x' H
theorem scSub : FnScope ["_law_paper", "_law_place", "_law_node_here", "_law_side"] ["_law_paper", "_law_place"] (defScope sSub) := ⟨rfl, rfl, rfl, by decide +kernel, rfl, by decide +kernel, by decide +kernel⟩
section
variable {P : Program} {w : World} {K : PySem.W.Frag} {mg : Str → Option Value} {base : Heap} {f : Addr} {fd : FuncData}
theorem ok_sub {k : Nat} (F : Fun K "_law_node" "_law_node" sSub f fd) : FnOk P w K mg base CX0 (k + 1) f fd ["_law_paper", "_law_place"] (spSub K) := by
  refine F.ok scSub (fun vs H Q E h => ?_) (fun cdv A outer s H vs Q E hr h => ?_)
  · obtain ⟨x, a, t, t', pl, rfl, _⟩ := h
    rfl
  obtain ⟨x, a, t, t', pl, rfl, hT, hS, hsub, q⟩ := h
  have nd := scSub.nd
  refine ⟨_, pss_cons (ps_set (i := 2) nd rfl (Or.inl rfl) (pv 0))
    (pss_cons (ps_for PassesOwn.never rfl (pi_tup (pv 1)) (pg_name (i := 3) nd rfl (Or.inl rfl))
      (pss_one (ps_set (i := 2) nd rfl (Or.inl rfl) (pe_ix ix_tup (pv 2) (pe_op op_add pe_int (pv 3)) (fun _ _ => rfl)))))
    (pss_one (ps_ret (pv 2)))), ?_⟩
  refine ⟨_, rfl, _, rfl, a, rfl, ⟨_, hS⟩, for_tup (K := K) (xs := pl.map V.int) (fun i σ H1 => ∃ (y : V) (y3 : Option V) (t1 : LT), σ = [some x, some (.ref a), some y, y3] ∧ H1 = H ∧ LRep K H y t1 ∧ t.sub (pl.take i) = some t1)
    ⟨x, none, t, rfl, rfl, hT, by cases t <;> rfl⟩ (fun i σ H1 _ ⟨_, _, _, _, e, _⟩ => by rw [e]; exact hS) ?_ ?_⟩
  · rintro i z σ H1 hi ⟨y, y3, t1, rfl, rfl, hy, hs⟩
    rw [List.getElem?_map] at hi
    cases hv : pl[i]? with
    | none => rw [hv] at hi; cases hi
    | some v =>
      rw [hv] at hi
      obtain rfl : V.int v = z := Option.some.inj hi
      have hlt : i < pl.length := (List.getElem?_eq_some_iff.mp hv).1
      have cut : pl = pl.take i ++ v :: pl.drop (i + 1) := by
        have e := (List.getElem?_eq_some_iff.mp hv).2
        rw [← e, ← List.drop_eq_getElem_cons hlt, List.take_append_drop]
      have e1 := sub_snoc (pl.take i) t t1 v (pl.drop (i + 1)) hs
      rw [← cut, hsub] at e1
      have tk : pl.take (i + 1) = pl.take i ++ [v] := by rw [List.take_succ, hv]; rfl
      have e2 := sub_snoc (pl.take i) t t1 v [] hs
      cases t1 with
      | wish j => cases e1
      | frm nm line l r =>
        have e3 : some t' = if v = 0 then l.sub (pl.drop (i + 1)) else if v = 1 then r.sub (pl.drop (i + 1)) else none := e1
        obtain ⟨b, c, vl, vr, rfl, hb, hW, hL, hR⟩ := hy
        by_cases c0 : v = 0
        · refine ⟨_, rfl, _, rfl, _, _, rfl, rfl, b, _, _, vl, rfl, rfl, SqT.of hb, atI_of (i := 3) (by rw [c0]; rfl) rfl, ?_⟩
          refine ⟨vl, _, l, rfl, rfl, hL, ?_⟩
          rw [tk, e2]
          show (if v = 0 then l.sub [] else if v = 1 then r.sub [] else none) = some l
          rw [if_pos c0]
          cases l <;> rfl
        · by_cases c1 : v = 1
          · refine ⟨_, rfl, _, rfl, _, _, rfl, rfl, b, _, _, vr, rfl, rfl, SqT.of hb, atI_of (i := 4) (by rw [c1]; rfl) rfl, ?_⟩
            refine ⟨vr, _, r, rfl, rfl, hR, ?_⟩
            rw [tk, e2]
            show (if v = 0 then l.sub [] else if v = 1 then r.sub [] else none) = some r
            rw [if_neg c0, if_pos c1]
            cases r <;> rfl
          · rw [if_neg c0, if_neg c1] at e3
            cases e3
  · rintro σ H1 ⟨y, y3, t1, rfl, rfl, hy, hs⟩
    rw [List.length_map, List.take_length, hsub] at hs
    obtain rfl := Option.some.inj hs
    exact ⟨_, rfl, q y hy⟩
end
end Km
/-! KmPut -/
set_option Elab.async false
set_option linter.all false
set_option maxRecDepth 100000
set_option maxHeartbeats 2000000
namespace Ns
open PySem PySem.Spec PyProof.Rows L2
/-- another tree at a place -/
def LT.put (u : LT) : LT → List Int → LT
  | _, [] => u
  | .frm nm line l r, v :: pl => if v = 0 then .frm nm line (LT.put u l pl) r else .frm nm line l (LT.put u r pl)
  | .wish i, _ :: _ => .wish i
theorem six1 (n : Nat) : HT.sIx (n + 1) 0 (some 1) = 1 ∧ HT.sIx (n + 1) (n + 1) none = n + 1 := by
  refine ⟨?_, rfl⟩
  simp [HT.sIx]
  try omega
theorem cut1 (x : V) (xs : List V) : cutV (x :: xs) (some 1) none = xs := by
  unfold cutV
  obtain ⟨h1, h2⟩ := six1 xs.length
  rw [List.length_cons, h1, h2]
  show (xs.drop 0).take (xs.length + 1 - 1) = xs
  simp
end Ns
namespace Km
open PySem PySem.Spec PyProof.Rows L2 Ns
abbrev sPut : Stmt := top 46
def spPut (K : PySem.W.Frag) (m : Nat) : Sp := fun vs H Q _ => ∃ (x y : V) (a : Addr) (t t' u : LT) (pl : List Int), vs = [x, .ref a, y] ∧ LRep K H x t ∧ LRep K H y u ∧ SqT K H a (pl.map V.int) ∧ t.sub pl = some t' ∧ pl.length ≤ m ∧ ∀ x' H', Same H H' → LRep K H' x' (LT.put u t pl) → Q x' H'
theorem scPut : FnScope ["_law_paper", "_law_place", "_law_node_here"] ["_law_paper", "_law_place", "_law_node_here"] (defScope sPut) := ⟨rfl, rfl, rfl, by decide +kernel, rfl, by decide +kernel, by decide +kernel⟩
section
variable {P : Program} {w : World} {K : PySem.W.Frag} {mg : Str → Option Value} {base : Heap} {f : Addr} {fd : FuncData}
theorem ok_put {m : Nat} (ml : mg "len" = none) (F : Fun K "_law_put" "_law_put" sPut f fd) (b0 : Binds K fd ["_law_paper", "_law_place", "_law_node_here"] []) (m0 : mg "_law_put" = some (.ref f))
    (G : ∀ n, n + 1 = m → FnOk P w K mg base CX0 (n + 1) f fd ["_law_paper", "_law_place", "_law_node_here"] (spPut K n)) : FnOk P w K mg base CX0 (m + 1) f fd ["_law_paper", "_law_place", "_law_node_here"] (spPut K m) := by
  refine F.ok scPut (fun vs H Q E h => ?_) (fun cdv A outer s H vs Q E hr h => ?_)
  · obtain ⟨x, y, a, t, t', u, pl, rfl, _⟩ := h
    rfl
  obtain ⟨x, y, a, t, t', u, pl, rfl, hT, hU, hS, hsub, hm, q⟩ := h
  cases m with
  | zero =>
    have e : pl = [] := List.eq_nil_of_length_eq_zero (by omega)
    subst e
    refine ⟨_, pss_cons (ps_if (pt_cmpR op_eq (pe_callB call_len_seq rfl ml PySem.boot_len (pa_cons (pv 1) pa_nil)) pe_int (nomark _)) (pss_one (ps_ret (pv 2))) pss_nil)
      (pss_cons ps_no (pss_one ps_no)), ?_⟩
    refine ⟨_, rfl, a, _, rfl, .inr hS, rfl, _, rfl, iteD rfl ⟨_, rfl, q y H (Same.refl H) ?_⟩⟩
    cases t <;> exact hU
  | succ n =>
    have G1 := G n rfl
    refine ⟨_, pss_cons (ps_if (pt_cmpR op_eq (pe_callB call_len_seq rfl ml PySem.boot_len (pa_cons (pv 1) pa_nil)) pe_int (nomark _)) (pss_one (ps_ret (pv 2))) pss_nil)
      (pss_cons (ps_if (pt_cmpR op_eq (pe_ix ix_tup (pv 1) pe_int (fun _ _ => rfl)) pe_int (nomark _))
        (pss_one (ps_ret (pe_tup (pa_cons (pe_ix ix_tup (pv 0) pe_int (fun _ _ => rfl)) (pa_cons (pe_ix ix_tup (pv 0) pe_int (fun _ _ => rfl)) (pa_cons (pe_ix ix_tup (pv 0) pe_int (fun _ _ => rfl))
          (pa_cons (pe_call G1 hr rfl m0 F.kp b0 .nil pass0 (pa_cons (pe_ix ix_tup (pv 0) pe_int (fun _ _ => rfl)) (pa_cons (pe_slice sl_tup (pv 1) (po_some pe_int) po_none) (pa_cons (pv 2) pa_nil)))) (pa_cons (pe_ix ix_tup (pv 0) pe_int (fun _ _ => rfl)) pa_nil)))))))) pss_nil)
      (pss_one (ps_ret (pe_tup (pa_cons (pe_ix ix_tup (pv 0) pe_int (fun _ _ => rfl)) (pa_cons (pe_ix ix_tup (pv 0) pe_int (fun _ _ => rfl)) (pa_cons (pe_ix ix_tup (pv 0) pe_int (fun _ _ => rfl))
          (pa_cons (pe_ix ix_tup (pv 0) pe_int (fun _ _ => rfl)) (pa_cons (pe_call G1 hr rfl m0 F.kp b0 .nil pass0 (pa_cons (pe_ix ix_tup (pv 0) pe_int (fun _ _ => rfl)) (pa_cons (pe_slice sl_tup (pv 1) (po_some pe_int) po_none) (pa_cons (pv 2) pa_nil)))) pa_nil))))))))), ?_⟩
    cases pl with
    | nil =>
      refine ⟨_, rfl, a, _, rfl, .inr hS, rfl, _, rfl, iteD rfl ⟨_, rfl, q y H (Same.refl H) ?_⟩⟩
      cases t <;> exact hU
    | cons v pl =>
      have hm2 : pl.length + 1 ≤ n + 1 := hm
      refine ⟨_, rfl, a, _, rfl, .inr hS, rfl, _, rfl, iteND (fun z => by have z2 := V.int.inj z; rw [List.length_map, List.length_cons] at z2; omega) ?_⟩
      refine ⟨_, rfl, a, _, 0, _, rfl, rfl, hS, atI_nat (j := 0) rfl, rfl, _, rfl, ?_⟩
      cases t with
      | wish i => cases hsub
      | frm nm line l r =>
        have hsub2 : (if v = 0 then l.sub pl else if v = 1 then r.sub pl else none) = some t' := hsub
        obtain ⟨b, c, vl, vr, rfl, hb, hW, hL, hR⟩ := hT
        have nz : ¬ (HT.sIx ((v :: pl).map V.int).length 0 (some 1) = 0 ∧ HT.sIx ((v :: pl).map V.int).length ((v :: pl).map V.int).length none = ((v :: pl).map V.int).length) := fun z => by
          have z1 := z.1
          rw [List.map_cons, List.length_cons, (six1 _).1] at z1
          cases z1
        have ec : cutV ((v :: pl).map V.int) (some 1) none = pl.map V.int := cut1 _ _
        by_cases c0 : v = 0
        · rw [if_pos c0] at hsub2
          refine iteD (congrArg V.int c0) ?_
          refine ⟨_, rfl, b, _, 0, _, rfl, rfl, SqT.of hb, atI_nat (j := 0) rfl, _, rfl, b, _, 1, _, rfl, rfl, SqT.of hb, atI_nat (j := 1) rfl, _, rfl, b, _, 2, _, rfl, rfl, SqT.of hb, atI_nat (j := 2) rfl, _, rfl, b, _, 3, _, rfl, rfl, SqT.of hb, atI_nat (j := 3) rfl, _, rfl, ?_⟩
          refine ⟨1, rfl, a, _, rfl, hS, nz, fun p hp => ?_⟩
          have s1 := same_new hp (.tup (cutV ((v :: pl).map V.int) (some 1) none))
          have hp2 : SqT K (upd H p (.tup (cutV ((v :: pl).map V.int) (some 1) none))) p (pl.map V.int) := by
            have z : SqT K (upd H p (.tup (cutV ((v :: pl).map V.int) (some 1) none))) p (cutV ((v :: pl).map V.int) (some 1) none) := SqT.of upd_same
            rw [ec] at z ⊢
            exact z
          refine ⟨_, rfl, vl, y, p, l, t', u, pl, rfl, hL.same s1, hU.same s1, hp2, hsub2, by omega, fun x' H2 s2 hx => ?_⟩
          have s12 := s1.trans s2
          refine ⟨_, rfl, b, _, 4, _, rfl, rfl, SqT.of (s12 _ _ hb), atI_nat (j := 4) rfl, by show 5 ≤ sizeLine; decide, fun t5 ht5 => ?_⟩
          have s3 := same_new ht5 (.tup [.str "from", .int nm, .ref c, x', vr])
          refine q _ _ (s12.trans s3) ?_
          have e : LT.put u (.frm nm line l r) (v :: pl) = .frm nm line (LT.put u l pl) r := if_pos c0
          rw [e]
          exact ⟨t5, c, x', vr, rfl, upd_same, hW.same (s12.trans s3), hx.same s3, hR.same (s12.trans s3)⟩
        · have c1 : v = 1 := Classical.byContradiction fun z => by rw [if_neg c0, if_neg z] at hsub2; cases hsub2
          rw [if_neg c0, if_pos c1] at hsub2
          refine iteND (fun z => c0 (V.int.inj z)) ?_
          refine ⟨_, rfl, b, _, 0, _, rfl, rfl, SqT.of hb, atI_nat (j := 0) rfl, _, rfl, b, _, 1, _, rfl, rfl, SqT.of hb, atI_nat (j := 1) rfl, _, rfl, b, _, 2, _, rfl, rfl, SqT.of hb, atI_nat (j := 2) rfl, _, rfl, b, _, 3, _, rfl, rfl, SqT.of hb, atI_nat (j := 3) rfl, _, rfl, b, _, 4, _, rfl, rfl, SqT.of hb, atI_nat (j := 4) rfl, _, rfl, ?_⟩
          refine ⟨1, rfl, a, _, rfl, hS, nz, fun p hp => ?_⟩
          have s1 := same_new hp (.tup (cutV ((v :: pl).map V.int) (some 1) none))
          have hp2 : SqT K (upd H p (.tup (cutV ((v :: pl).map V.int) (some 1) none))) p (pl.map V.int) := by
            have z : SqT K (upd H p (.tup (cutV ((v :: pl).map V.int) (some 1) none))) p (cutV ((v :: pl).map V.int) (some 1) none) := SqT.of upd_same
            rw [ec] at z ⊢
            exact z
          refine ⟨_, rfl, vr, y, p, r, t', u, pl, rfl, hR.same s1, hU.same s1, hp2, hsub2, by omega, fun x' H2 s2 hx => ?_⟩
          have s12 := s1.trans s2
          refine ⟨by show 5 ≤ sizeLine; decide, fun t5 ht5 => ?_⟩
          have s3 := same_new ht5 (.tup [.str "from", .int nm, .ref c, vl, x'])
          refine q _ _ (s12.trans s3) ?_
          have e : LT.put u (.frm nm line l r) (v :: pl) = .frm nm line l (LT.put u r pl) := if_neg c0
          rw [e]
          exact ⟨t5, c, vl, x', rfl, upd_same, hW.same (s12.trans s3), hL.same (s12.trans s3), hx.same s3⟩
end
end Km
/-! KmExc -/
set_option Elab.async false
set_option linter.all false
set_option maxRecDepth 100000
set_option maxHeartbeats 2000000
namespace KmX
open PySem PySem.W PySem.Calls PyProof.Rows PySem.HandSPX
/-! an error of one field, whose __init__ says super().__init__('..'); self.f = f -/
def xA (f g : Str) (p1 p2 p3 : Pos) : Arguments where
  posonlyargs := []
  args := [⟨"self", none, p1⟩, ⟨f, none, p2⟩, ⟨g, none, p3⟩]
  vararg := none
  kwonlyargs := []
  kw_defaults := []
  kwarg := none
  defaults := []
/-- the places of super().__init__ and of its call: in one line -/
abbrev qa3 : Pos := ⟨30, 8, 30, 24⟩
abbrev qa5 : Pos := ⟨30, 8, 30, 49⟩
def xB (f g m : Str) (a1 a2 a4 a6 b1 b2 b3 b4 e1 e2 e3 e4 : Pos) : List Stmt :=
  [.Expr (.Call (.Attribute (.Call (.Name "super" a1) [] [] a2) "__init__" qa3) [.Constant (.str m) 0 a4] [] qa5) a6,
   .Assign [.Attribute (.Name "self" b1) f b2] (.Name f b3) b4,
   .Assign [.Attribute (.Name "self" e1) g e2] (.Name g e3) e4]
def xS (f g : Str) : Scope where
  kind := .function
  names := [("self", .local), (f, .local), (g, .local), ("__class__", .free), ("super", .globalImplicit)]
  isGenerator := false
  isCoroutine := false
  more := []
/-- what the written part says of such a class, its name nm, its field f -/
structure XT (prog : Program) (K : Frag) (mg : Str → Option Value) (nm f g : Str) (C fI cc : Addr) : Prop where
  gC : mg nm = some (.ref C)
  gS : mg "super" = none
  cls : ∃ n2 q N bs bm sn sub ab col dd k0 k1 k2 k3 k5, K.lookup C = some (excClassObj n2 q C N bs bm true sn sub ab col dd k0 k1 k2 k3 k5 "ValueError.__new__") ∧ refsVE bm = true
  sa : findIn K (.ref C) "__setattr__" = some (some (.builtin "object.__setattr__"))
  ga : findIn K (.ref C) "__getattribute__" = some (some (.builtin "BaseException.__getattribute__"))
  gg : findIn K (.ref C) "__getattr__" = some none
  noF : findIn K (.ref C) f = some none
  noG : findIn K (.ref C) g = some none
  iC : findIn K (.ref C) "__init__" = some (some (.ref fI))
  tI : typeIn K (.ref fI) = some (.type "function")
  kC : keepIn K (.ref C) = true
  exC : subIn K (.ref C) (.type "BaseException") = some true
  veC : subIn K (.ref C) (.type "ValueError") = some true
  tyC : typeIn K (.ref C) = some (.type "type")
  hdC : hasDictIn K C = true
  mrC : mroIn K C (.ref C) = some true
  suC : ks_superIn K C C "__init__" = some (some (.builtin "ValueError.__init__"))
  opq : nsIn K cStatics "thirdparty.any" = some none
  top : (prog.main.scope.names.lookup ("super" : Str)).isSome = false
  fn : ∃ (oc : Value) (od : Option Addr) (doc pm ct : Value) (an : Option Addr) (osl : Array (Option Value)) (cda : Addr) (m q : Str) (p1 p2 p3 a1 a2 a4 a6 b1 b2 b3 b4 e1 e2 e3 e4 : Pos),
    K.lookup fI = some ⟨oc, od, .func (ksFn "__init__" q (xA f g p1 p2 p3) (xB f g m a1 a2 a4 a6 b1 b2 b3 b4 e1 e2 e3 e4) (xS f g) .none .none doc pm an (.ref cda) ct cc), osl⟩ ∧ codeIn K (.ref cda) q = true ∧
      ∃ ccl cdd vs ccs file tf, K.lookup cda = some ⟨ccl, cdd, .fields vs, ccs⟩ ∧ vs[2]? = some (.str file tf) ∧ ((prog.main.file : Str) == file) = true
  cell : ∃ cl cld csl, K.lookup cc = some ⟨cl, cld, .cell (some (.ref C)), csl⟩
/-- what __init__ leaves of a fresh exception at x -/
structure XEnd (f g : Str) (h h' : Heap) (x C dx : Addr) (v u : Value) : Prop where
  keep : ∀ b o, b ≠ x → h.get? b = some o → h'.get? b = some o
  obj : ∃ t1 : Addr, h'.get? x = some { cls := .ref C, dict := some dx, data := .fields #[.ref t1, .none, .none, .none, .bool false, .none] }
  dbig : h.objs.size ≤ dx
  dne : dx ≠ x
  ns : h'.Ns1 dx (fun y => if y = g then some u else if y = f then some v else none)
/-- the error made -/
structure XMade (f g : Str) (h h' : Heap) (e C d : Addr) (v u : Value) : Prop where
  keep : ∀ b o, h.get? b = some o → h'.get? b = some o
  new : h.objs.size ≤ e
  obj : ∃ oe vs, h'.get? e = some oe ∧ oe.cls = .ref C ∧ oe.dict = some d ∧ oe.data = .fields vs ∧ vs[1]? = some .none
  dbig : h.objs.size ≤ d
  dne : d ≠ e
  ns : h'.Ns1 d (fun y => if y = g then some u else if y = f then some v else none)
section
variable {prog : Program} {w : World} {A : Around} {E : Value → Shared → Prop} {R : Result → Shared → Prop} {s : Shared} {K : Frag} {mg : Str → Option Value} {C fI cc : Addr} {nm f f2 : Str}
/-- the wrapper of ValueError.__init__ bound to the exception x, called with some arguments -/
theorem x_bound {hh : Heap} {g : Array GenState} {d : Drawn} {tk : Nat} {os : OsState} {u x t0 : Addr} {rest : List Value} {Q : Value → Shared → Prop} (T : XT prog K mg nm f f2 C fI cc) (X : K.In hh) (hu : hh.get? u = some (kxs_mw "ValueError.__init__" x))
    (hx : hh.get? x = some (excO C t0)) (hz : rest.length ≤ sizeLine)
    (hq : ∀ h' t1, (∀ b o, b ≠ x → hh.get? b = some o → h'.get? b = some o) → h'.get? x = some (excO C t1) → Q .none ⟨h', g, d, tk, os⟩) :
    wpAny (model prog w) A (call (.ref u) rest) Q E ⟨hh, g, d, tk, os⟩ := by
  obtain ⟨n2, q, N, bs, bm, sn, sub, ab, col, dd, k0, k1, k2, k3, k5, hC, hbm⟩ := T.cls
  refine wpAny_call (codeAny_of_tree ?_)
  show wpAny _ A.in1 (callAny (.ref u) ⟨rest, []⟩) _ _ _
  unfold callAny
  refine wpAny_bind (wpAny_load hu ?_)
  have e1 : (Value.type "method-wrapper" == Value.type "method" || Value.type "method-wrapper" == Value.type "builtin_function_or_method" || Value.type "method-wrapper" == Value.type "method-wrapper") = true := by decide
  simp only [kxs_mw, e1, if_true]
  refine KFB.if_so (by decide) (wpAny_bind (check_bound_init F.excBase_ValueError.toExcCallFacts (X _ _ hC) hx rfl ?_))
  refine wpAny_bind (wpAny_pure (wpAny_pure ⟨plainId_quiet F.excBase_ValueError.init.plain _, codeAny_builtin F.excBase_ValueError.initEntry ?_⟩))
  exact exc_init_tree (cls := .ref C) (t0 := t0) (dv := none) (c2 := .none) (c3 := .none) (b4 := .bool false) hx hz fun h' k e1 _ => hq h' _ k e1
theorem x_init (T : XT prog K mg nm "place" "kind" C fI cc) {x t0 : Addr} {v u : Value} (X : K.In s.heap) (hlim : s.heap.NoLimit) (hG : s.heap.Ns mainGlobals mg) (hB : ∃ mb, s.heap.Ns builtinsNs mb ∧ ∀ y : Str, y ≠ "__name__" → mb y = bootBuiltins y)
    (hx : s.heap.get? x = some (excO C t0)) (hnx : K.lookup x = none) (hroom : A.depth < recursionLimit)
    (hq : ∀ h' tk dx, XEnd "place" "kind" s.heap h' x C dx v u → R (.ok (.ret .none)) { s with heap := h', toks := tk }) :
    codeAny (model prog w) A (.call (.ref fI) ⟨[.ref x, v, u], []⟩) R s := by
  obtain ⟨oc, od, doc, pm, ct, an, osl, cda, m, q, p1, p2, p3, a1, a2, a4, a6, b1, b2, b3, b4, e1, e2, e3, e4, ho, hcd, ccl, cdd, vs, ccs, file, tf, hcda, hvs, hfile⟩ := T.fn
  obtain ⟨cl, cld, csl, hcell⟩ := T.cell
  obtain ⟨n2, q2, N, bs, bm, sn, sub, ab, col, dd, k0, k1, k2, k3, k5, hC, hbm⟩ := T.cls
  have hcl : clsIn K C = some { name := n2, bases := bs, mro := .ref C :: bm, ns := N, qualname := q2, hasDict := true, slotNames := sn, subclasses := sub, abstract := ab, collection := col, hasDel := false } := by unfold clsIn; rw [hC] <;> rfl
  refine ks_codeAny_call_defAt (fd := ksFn "__init__" q (xA "place" "kind" p1 p2 p3) (xB "place" "kind" m a1 a2 a4 a6 b1 b2 b3 b4 e1 e2 e3 e4) (xS "place" "kind") .none .none doc pm an (.ref cda) ct cc) (body := xB "place" "kind" m a1 a2 a4 a6 b1 b2 b3 b4 e1 e2 e3 e4) (binds := [("self", .ref x), ("place", v), ("kind", u)])
    hroom (X _ _ ho) rfl hlim (codeRec_of X hcd) rfl (BindsTo.of_eq (by first | rfl | with_unfolding_all rfl)) ?c1 ?c2 (fun h₁ hn k => ?_) rfl rfl rfl
  case c1 =>
    intro y hy
    rcases hy with _ | ⟨_, _ | ⟨_, _ | ⟨_, _ | ⟨_, _ | ⟨_, hy⟩⟩⟩⟩⟩ <;> first | decide | (intro z; cases z) | (cases hy)
  case c2 =>
    intro y hy
    rcases hy with _ | ⟨_, _ | ⟨_, _ | ⟨_, hy⟩⟩⟩
    · rfl
    · rfl
    · rfl
    · cases hy
  have X₁ : K.In h₁ := X.keeps k
  have hx₁ := k _ _ hx
  have hLx : s.heap.objs.size ≠ x := Nat.ne_of_gt (Heap.lt_size hx)
  -- super().__init__(..)
  have hG₁ : h₁.Ns mainGlobals mg := hG.keeps k
  obtain ⟨mb, hB0, hmb⟩ := hB
  have hB₁ : h₁.Ns builtinsNs mb := hB0.keeps k
  obtain ⟨oD, hD1, hD2⟩ : ∃ oD, h₁.get? C = some oD ∧ ∃ cd, oD.data = .cls cd := ⟨_, X₁ _ _ hC, _, rfl⟩
  obtain ⟨cdD, hD2⟩ := hD2
  have hxC : x ≠ C := by
    intro z
    have y := X _ _ hC
    rw [← z, hx] at y
    cases y
  obtain ⟨g0, gs, dr, tk0, os0⟩ := s
  refine ks_wpAt_execs_cons (ks_wpAt_Expr_any (ks_wpAt_MethodCall ?_))
  refine ks_wpAt_super_base (f := fI) (cc := cda) (ar := ⟨"self", none, p1⟩) (vs := vs) rfl rfl rfl rfl (X₁ _ _ ho) rfl rfl rfl (X₁ _ _ hcda) rfl hvs hfile T.top ?_
  refine ks_loadName_global rfl rfl (loadGlobal_builtin hG₁ T.gS hB₁ ((hmb "super" (by decide)).trans PyProof.Rows.Boot.«super») ⟨rfl, ?_⟩)
  refine wpAny_loadName_free rfl rfl rfl ⟨_, X₁ _ _ hcell, rfl⟩ ?_
  refine wpAny_loadName_local rfl rfl hn rfl ?_
  refine ks_wpAny_isType_cls hD1 hD2 ⟨rfl, ?_⟩
  refine ks_wpAny_call_super hD1 hD2 hx₁ rfl (fun c e => by cases e) (looks_mroIn X₁ T.mrC) (fun h₂ hso k₂ => ?_)
  have X₂ : K.In h₂ := X₁.keeps k₂
  have hsu := T.suC
  unfold ks_superIn at hsu
  rw [hcl] at hsu
  have I₂ : InstAt h₂ x (excO C t0) C none := ⟨k₂ _ _ hx₁, rfl, rfl, trivial⟩
  refine kxs_getMethod kxs_ValueError hso (looks_opaque X₂ T.opq) (l₀ := .ref C :: bm) (fun A Q E s k q => wpAny_bind ((looks_clsIn X₂ hcl) A _ E s k (wpAny_pure q))) rfl X₂ hsu (I₂.type.andThen (looks_subIn X₂ T.veC)) hxC rfl ?_
  have hu : (h₂.push (kxs_mw "ValueError.__init__" x)).get? h₂.objs.size = some (kxs_mw "ValueError.__init__" x) := Heap.get?_push_at rfl rfl
  have k₃ : ∀ b o, h₂.get? b = some o → (h₂.push (kxs_mw "ValueError.__init__" x)).get? b = some o := fun b o e => Heap.get?_push_of_some _ e
  refine kxs_callWith (i := "ValueError.__init__") (x := x) rfl (evalArgs_plain ?_)
  refine Calls.spliced_cons (Calls.Constant_str (k := 0) (pos := a4) (Calls.spliced_nil ⟨hu, ?_⟩))
  refine x_bound T (X₂.keeps k₃) hu (k₃ _ _ (k₂ _ _ hx₁)) (by show 1 ≤ sizeLine; rw [sizeLine_eq]; decide) (fun h₄ t1 k₄ hx₄ => ?_)
  -- self.place = place
  have keep : ∀ b o, b ≠ x → g0.get? b = some o → h₄.get? b = some o := fun b o e z => k₄ b o e (k₃ _ _ (k₂ _ _ (k _ _ z)))
  have hn₄ : h₄.Ns g0.objs.size (fun y => [(("self" : Str), Value.ref x), ("place", v), ("kind", u)].reverse.lookup y) := hn.at fun o z => k₄ _ _ hLx (k₃ _ _ (k₂ _ _ z))
  have X₄ : K.In h₄ := fun a o z => keep a o (fun e => by rw [e, hnx] at z; cases z) (X a o z)
  refine ks_wpAt_execs_cons (ks_wpAt_Assign_Attr (wpAt_of_wpAny (ESX.ldL hn₄ (by first | rfl | with_unfolding_all rfl | kernel_rfl) (ESX.ldL hn₄ (by first | rfl | with_unfolding_all rfl | kernel_rfl) ?_))))
  refine set_plain X₄ (ox := excO C t1) (od := none) ⟨hx₄, rfl, rfl, trivial⟩ T.sa ?_
  refine exc_osa X₄ hx₄ hcl (show refsVE (.ref C :: bm) = true from hbm) rfl T.noF (fun h₅ tk₅ dx k₅ dn dne hx₅ hn₅ => ?_)
  -- self.kind = kind
  have keep5 : ∀ b o, b ≠ x → g0.get? b = some o → h₅.get? b = some o := fun b o e z => k₅ b o e (keep b o e z)
  have nLx : g0.objs.size ≠ x := hLx
  have hn₅' : h₅.Ns g0.objs.size (fun y => [(("self" : Str), Value.ref x), ("place", v), ("kind", u)].reverse.lookup y) := hn₄.at fun o z => k₅ _ _ hLx z
  have X₅ : K.In h₅ := fun a o z => keep5 a o (fun e => by rw [e, hnx] at z; cases z) (X a o z)
  obtain ⟨oD5, ho5, _⟩ := L2.lookIn_ns hn₅
  have dlt : g0.objs.size ≤ dx := Nat.le_trans (Nat.le_of_lt hn₄.lt) dn
  have dnL : dx ≠ g0.objs.size := Nat.ne_of_gt (Nat.lt_of_lt_of_le hn₄.lt dn)
  refine ks_wpAt_execs_cons (ks_wpAt_Assign_Attr (wpAt_of_wpAny (ESX.ldL hn₅' (by first | rfl | with_unfolding_all rfl | kernel_rfl) (ESX.ldL hn₅' (by first | rfl | with_unfolding_all rfl | kernel_rfl) ?_))))
  refine set_plain X₅ (ox := { cls := .ref C, dict := some dx, data := .fields #[.ref t1, .none, .none, .none, .bool false, .none] }) (od := some oD5) ⟨hx₅, rfl, rfl, ho5⟩ T.sa ?_
  have wiz : Within (fun y : Str => if y = ("place" : Str) then some v else none) [("place" : Str)] := Within.cons "place" v Within.nil
  refine PySem.OEX.osa_old X₅ hx₅ hn₅ wiz (by decide) hcl (show refsVE (.ref C :: bm) = true from hbm) rfl T.noG (fun h₆ tk₆ k₆ hn₆ => ?_)
  have dold : ∀ b o, b ≠ x → g0.get? b = some o → b ≠ dx := fun b o e z q => by
    have := Heap.lt_size z
    rw [q] at this
    exact absurd (Nat.lt_of_lt_of_le this dlt) (Nat.lt_irrefl _)
  refine wpAt_of_wpAny (wpAny_execs_nil (hq h₆ tk₆ dx ⟨fun b o e z => k₆ b o (dold b o e z) (keep5 b o e z), ⟨t1, k₆ _ _ (Ne.symm dne) hx₅⟩, dlt, dne, hn₆⟩))
theorem x_made (T : XT prog K mg nm "place" "kind" C fI cc) {v u : Value} (X : K.In s.heap) (hlim : s.heap.NoLimit) (hG : s.heap.Ns mainGlobals mg) (hB : ∃ mb, s.heap.Ns builtinsNs mb ∧ ∀ y : Str, y ≠ "__name__" → mb y = bootBuiltins y) (hroom : A.depth + 1 < recursionLimit)
    (hq : ∀ h' tk e d, XMade "place" "kind" s.heap h' e C d v u → R (.ok (.ret (.ref e))) { s with heap := h', toks := tk }) :
    codeAny (model prog w) A (.call (.ref C) ⟨[v, u], []⟩) R s := by
  obtain ⟨nm', q, N, bs, bm, sn, sub, ab, col, dd, k0, k1, k2, k3, k5, hC, hbm⟩ := T.cls
  obtain ⟨hp, g, dr, tk, os⟩ := s
  have k : ∀ b o, hp.get? b = some o → ((hp.push (kdv_tup [v, u])).push (excO C hp.objs.size)).get? b = some o := fun b o e => Heap.get?_push_of_some _ (Heap.get?_push_of_some _ e)
  have hget : ((hp.push (kdv_tup [v, u])).push (excO C hp.objs.size)).get? (hp.objs.size + 1) = some (excO C hp.objs.size) := by heap_get
  have hnx : K.lookup (hp.objs.size + 1) = none := by
    cases e : K.lookup (hp.objs.size + 1) with
    | none => rfl
    | some o =>
      have z : hp.get? (hp.objs.size + 1) = some o := X _ _ e
      exact absurd (Nat.lt_of_succ_lt (Heap.lt_size z)) (Nat.lt_irrefl _)
  obtain ⟨mb, hB1, hB2⟩ := hB
  refine call_own F.excBase_ValueError (fun X => refsVE_contains X bm hbm) (X _ _ hC) (looks_findIn X T.iC) (fun self => bind_fn X self T.tI) (by show 2 ≤ sizeLine; rw [sizeLine_eq]; decide) ?_
  refine x_init (s := ⟨(hp.push (kdv_tup [v, u])).push (excO C hp.objs.size), g, dr, tk, os⟩) T (X.keeps k) (hlim.keeps k) (hG.keeps k) ⟨mb, hB1.keeps k, hB2⟩ hget hnx (by show A.depth + 1 < recursionLimit; exact hroom) fun h' tk' dx ⟨k', hx, dn, dne, hns⟩ => ?_
  have old : ∀ b o, hp.get? b = some o → h'.get? b = some o := fun b o e => k' b o (Nat.ne_of_lt (Nat.lt_succ_of_lt (Heap.lt_size e))) (k b o e)
  have z : hp.objs.size + 1 + 1 ≤ dx := by
    have q := dn
    rw [Heap.size_push, Heap.size_push] at q
    exact q
  obtain ⟨t1, hx⟩ := hx
  exact ⟨rfl, hq h' tk' (hp.objs.size + 1) dx ⟨old, Nat.le_succ _, ⟨_, _, hx, rfl, rfl, rfl, rfl⟩, Nat.le_trans (Nat.le_trans (Nat.le_succ _) (Nat.le_succ _)) z, dne, hns⟩⟩
end
end KmX
namespace L2
open PySem PySem.Spec PyProof.Rows
theorem relO_fld2 {v u : V} {v' u' : Value} (r : RelV v v') (r2 : RelV u u') (f g y : Str) : RelO (List.lookup y [(g, u), (f, v)]) (if y = g then some u' else if y = f then some v' else none) := by
  by_cases hg : y = g
  · subst hg
    rw [if_pos rfl]
    have q : List.lookup y [(y, u), (f, v)] = some u := by simp [List.lookup]
    rw [q]
    exact r2
  · rw [if_neg hg]
    have qg : (y == g) = false := by simpa using hg
    by_cases hw : y = f
    · subst hw
      rw [if_pos rfl]
      have q : List.lookup y [(g, u), (y, v)] = some v := by simp [List.lookup, qg]
      rw [q]
      exact r
    · rw [if_neg hw]
      have qw : (y == f) = false := by simpa using hw
      have q2 : List.lookup y [(g, u), (f, v)] = none := by simp [List.lookup, qw, qg]
      rw [q2]
      trivial
abbrev xd2 (v u : V) : HO := .xd [(("kind" : Str), u), (("place" : Str), v)]
section
variable {X : Cx} {C fI cc : Addr} {nm : Str}
/-- BadText(e) -/
def tMkX (C : Addr) (ta : TA) : St → Hp → XK → Prop := fun σ H Q => ta σ H fun vs H1 => ∃ v u, vs = [v, u] ∧ ∀ d, H1 d = none → Q (.ref C) (some d) (upd H1 d (xd2 v u))
theorem pmk_x {a b : Expr} {ta : TA} {p pos : Pos} {k : Nat} (T : KmX.XT X.prog X.K X.mg nm "place" "kind" C fI cc) (hr : Room k X.A) (ha : PA X [a, b] ta) (hg : Gl X nm) (hd : (nm == ("__debug__" : Str)) = false := by decide)
    (he : starEach (a :: b :: []) X.env = (false, eval a X.env) :: starEach [b] X.env := by rfl) (hpl : (backTo pos (starEach [b] X.env)).any (·.1) = false := by rfl) :
    PMk X (.Call (.Name nm p) [a, b] [] pos) (tMkX C ta) := by
  intro pins s σ H Q I h
  refine wpAny_Call_Name_kw (ld_glob I hg T.gC ?_ hd)
  refine PySem.W.callWith_K (h₀ := X.base) I.ok.mod.kin T.kC (thn (ha.run pos pins s σ H _ I h) fun us s1 hh => ?_) he hpl
  obtain ⟨vs, H1, I1, r1, v, v2, ev, q1⟩ := hh
  subst ev
  refine ⟨I1.kIn, ?_⟩
  cases r1 with
  | cons rv rn =>
    rename_i v' us'
    cases rn with
    | cons rv2 rn2 =>
    rename_i v2' us2'
    cases rn2
    show wpAny _ _ (call (.ref C) [v', v2']) _ _ _
    have hlim := I1.nolimit
    have hG := I1.mod.glob.keeps I1.bk
    obtain ⟨mb, hB1, hB2⟩ := I1.mod.blt
    have hB : ∃ mb, s1.heap.Ns builtinsNs mb ∧ ∀ y : Str, y ≠ "__name__" → mb y = bootBuiltins y := ⟨mb, hB1.keeps I1.bk, hB2⟩
    obtain ⟨hp, g, dr, tk, os⟩ := s1
    refine wpAny_call (KmX.x_made T I1.kIn hlim hG hB (by have := hr.dp; omega) fun h' tk' e d M => ?_)
    show MkP X pins σ Q (.ref e) ⟨h', g, dr, tk', os⟩
    obtain ⟨oe, fv, hoe, hc, hd, hdat, h1⟩ := M.obj
    have hns := M.ns
    obtain ⟨G', g1, g2⟩ := restrict h' fun b => decide (b ≠ e)
    have gk : ∀ b, b ≠ e → G'.get? b = h'.get? b := fun b hb => g1 b (decide_eq_true hb)
    have ge : G'.get? e = none := g2 e (by simp)
    have old : ∀ b o, hp.get? b = some o → G'.get? b = some o := fun b o q => (gk b (Nat.ne_of_lt (Nat.lt_of_lt_of_le (Heap.lt_size q) M.new))).trans (M.keep b o q)
    have ob : ObjOk X.prog X.w (upd H1 d (xd2 v v2)) G' d (xd2 v v2) :=
      ⟨_, hns.at (fun o q => (gk d M.dne).trans q), fun f => relO_fld2 rv rv2 "place" "kind" f⟩
    have J : Inv X pins σ (upd H1 d (xd2 v v2)) ⟨G', g, dr, tk', os⟩ := I1.laid (t' := tk') old M.dbig ob
    refine ⟨e, oe, fv, ⟨G', g, dr, tk', os⟩, _, .ref C, some d, rfl, J, fun b o q => ?_, ge, hoe, ⟨hc, hd⟩, hdat, h1, ?_, rfl, I1.bare, raises_own T.exC T.tyC, q1 d (I1.hok.fresh M.dbig)⟩
    · by_cases hb : b = e
      · have q' : G'.get? b = some o := q
        rw [hb, ge] at q'; cases q'
      · exact (gk b hb).symm.trans q
    · rw [upd_ne (Ne.symm M.dne)]
      exact I1.hok.fresh M.new
/-- raise BadText(e) -/
def tRaiseX (C : Addr) (W : WX) (ta : TA) : TS := fun _ σ H => tMkX C ta σ H fun cls d H' => W cls d σ H'
theorem ps_raiseX {a b : Expr} {ta : TA} {W : WX} {p pos pos2 : Pos} {k : Nat} (hc : X.calm = true) (T : KmX.XT X.prog X.K X.mg nm "place" "kind" C fI cc) (hr : Room k X.A) (tk : Takes X W) (ha : PA X [a, b] ta) (hg : Gl X nm) (hd : (nm == ("__debug__" : Str)) = false := by decide)
    (he : starEach (a :: b :: []) X.env = (false, eval a X.env) :: starEach [b] X.env := by rfl) (hpl : (backTo pos (starEach [b] X.env)).any (·.1) = false := by rfl) :
    PS X (.Raise (some (.Call (.Name nm p) [a, b] [] pos)) none pos2) (tRaiseX C W ta) := ps_raise hc tk (pmk_x T hr ha hg hd he hpl)
/-- e.place or e.kind, e the exception that the suite holds (at a; its class cls, its dict d) -/
def tByX (C : Addr) (a : Addr) (cls : Value) (d : Option Addr) (f : Str) (te : TE) : TE := fun σ H Q => te σ H fun x H1 => x = .ref a ∧ cls = .ref C ∧ ∃ (dd : Addr) (v u : V) (y : V), d = some dd ∧ H1 dd = some (xd2 v u) ∧ List.lookup f [(("kind" : Str), u), (("place" : Str), v)] = some y ∧ Q y H1
theorem pe_byX {a : Addr} {oe : Obj} {cls : Value} {d : Option Addr} {f : Str} {pn : List (Addr × Obj)} {e : Expr} {te : TE} {pos : Pos} (T : KmX.XT X.prog X.K X.mg nm "place" "kind" C fI cc) (hno : PySem.W.findIn X.K (.ref C) f = some none) (hz : Zc cls d oe) (hf : ∃ vs, oe.data = .fields vs) (he : PE (X.suite a ((a, oe) :: pn)) e te)
    (hb : attributeBase e f X.env (eval e X.env) = eval e X.env := by rfl) :
    PE (X.suite a ((a, oe) :: pn)) (.Attribute e f pos) (tByX C a cls d f te) := by
  refine ⟨fun pins s σ H Q I h => ?_⟩
  refine attr_of hb (thn (he.run pins s σ H _ I h) fun u s1 hh => ?_)
  obtain ⟨x, H1, I1, rx, ex, ec, dd, v, w, y, ed, ea, el, q⟩ := hh
  subst ex
  obtain rfl : u = Value.ref a := rx
  subst ec
  subst ed
  obtain ⟨ha, _⟩ := I1.pin (a, oe) (List.mem_append_left _ List.mem_cons_self)
  obtain ⟨vs, hd⟩ := hf
  have hx : ObjOk X.prog X.w H1 s1.heap dd (xd2 v w) := I1.hok dd _ ea
  obtain ⟨mA, hns, hr⟩ := hx
  obtain ⟨od, ho, hl⟩ := lookIn_ns hns
  obtain ⟨u, hu, ru⟩ := RelO.some_of (v := y) (o := mA f) (by rw [← el]; exact hr f)
  have J : PySem.W.InstAt s1.heap a oe C (some od) := ⟨ha, hz.1, by unfold PySem.W.notCls; rw [hd] <;> rfl, by rw [hz.2]; exact ho⟩
  exact HandSPX.exc_get I1.kIn J T.ga T.gg T.exC (PySem.W.findObj_own T.hdC hno rfl (by rw [hl, hu])) (handed_of ru) ⟨y, H1, I1.tok _, ru, q⟩
end
end L2
/-! KmAsked -/
set_option Elab.async false
set_option linter.all false
set_option maxRecDepth 100000
set_option maxHeartbeats 2000000
namespace Km
open PySem PySem.Spec PyProof.Rows L2 Ns
abbrev sAsked : Stmt := top 34
/-- answers to names, each 0 or 1 -/
def Ans (kvs : List (Key × V)) : Prop := ∀ k v, valV kvs k = some v → v = .int 0 ∨ v = .int 1
theorem Ans.put {kvs : List (Key × V)} {k : Key} {v : V} (h : Ans kvs) (hv : v = .int 0 ∨ v = .int 1) : Ans (putK kvs k v) := fun j u e => by
  rw [valV_put] at e
  by_cases c : j = k
  · rw [if_pos c] at e
    obtain rfl := Option.some.inj e
    exact hv
  · rw [if_neg c] at e
    exact h j u e
def spAsked (K : PySem.W.Frag) (m : Nat) : Sp := fun vs H Q _ => ∃ (x : V) (a : Addr) (t : LT) (kvs : List (Key × V)), vs = [x, .ref a] ∧ LRep K H x t ∧ H a = some (.dK kvs) ∧ Ans kvs ∧ kvs.length + t.high ≤ 1000 ∧ t.high ≤ m ∧ ∀ y H', Same H H' → Q y H'
theorem scAsked : FnScope ["node", "answers", "name", "first"] ["node", "answers"] (defScope sAsked) := ⟨rfl, rfl, rfl, by decide +kernel, rfl, by decide +kernel, by decide +kernel⟩
section
variable {P : Program} {w : World} {K : PySem.W.Frag} {mg : Str → Option Value} {base : Heap} {f : Addr} {fd : FuncData}
theorem ok_asked {m : Nat} (F : Fun K "asked_node" "asked_node" sAsked f fd) (b0 : Binds K fd ["node", "answers"] []) (m0 : mg "asked_node" = some (.ref f))
    (G : FnOk P w K mg base CX0 m f fd ["node", "answers"] (spAsked K m)) : FnOk P w K mg base CX0 (m + 1) f fd ["node", "answers"] (spAsked K (m + 1)) := by
  refine F.ok scAsked (fun vs H Q E h => ?_) (fun cdv A outer s H vs Q E hr h => ?_)
  · obtain ⟨x, a, t, kvs, rfl, _⟩ := h
    rfl
  obtain ⟨x, a, t, kvs, rfl, hT, ha, hA, h1000, hm, q⟩ := h
  have nd := scAsked.nd
  have hu : (A.deeper (envOfC "asked_node" (defScope sAsked) s.heap.objs.size f cdv)).units + 1 < cLine := by have := hr.units; omega
  refine ⟨_, pss_cons (ps_while PassesOwn.never (PW.pt (pw_and (pt_cmpR op_eq (pe_ix ix_tup (pv 0) pe_int (fun _ _ => rfl)) pe_str (nomark _)) (pw_and1 (pt_cmp (pc_din hu (pe_ix ix_tup (pv 0) pe_int (fun _ _ => rfl)) (pv 1))))))
      (pss_one (ps_set (i := 0) nd rfl (Or.inl rfl) (pe_ix ix_tup (pv 0) (pe_op op_add pe_int (pe_dget hu (pv 1) (pe_ix ix_tup (pv 0) pe_int (fun _ _ => rfl)) (fun _ _ => rfl))) (fun _ _ => rfl)))))
    (pss_cons (ps_if (pt_cmpR op_eq (pe_ix ix_tup (pv 0) pe_int (fun _ _ => rfl)) pe_str (nomark _)) (pss_one (ps_ret (pe_tup (pa_cons pe_str (pa_cons (pe_ix ix_tup (pv 0) pe_int (fun _ _ => rfl)) pa_nil))))) pss_nil)
    (pss_cons (ps_set (i := 2) nd rfl (Or.inl rfl) (pe_ix ix_tup (pv 0) pe_int (fun _ _ => rfl)))
    (pss_cons (ps_set (i := 3) nd rfl (Or.inl rfl) (pe_call G hr rfl m0 F.kp b0 .nil pass0 (pa_cons (pe_ix ix_tup (pv 0) pe_int (fun _ _ => rfl)) (pa_cons (pe_dstar (pv 1) (pv 2) pe_int) pa_nil))))
    (pss_one (ps_ret (pe_tup (pa_cons pe_str (pa_cons (pv 2) (pa_cons (pv 3) (pa_cons (pe_call G hr rfl m0 F.kp b0 .nil pass0 (pa_cons (pe_ix ix_tup (pv 0) pe_int (fun _ _ => rfl)) (pa_cons (pe_dstar (pv 1) (pv 2) pe_int) pa_nil))) pa_nil)))))))))), ?_⟩
  refine ⟨fun μ σ H' => ∃ (y : V) (u : LT), σ = [some y, some (.ref a), none, none] ∧ H' = H ∧ LRep K H y u ∧ u.high ≤ t.high ∧ μ = u.high, ⟨_, x, t, rfl, rfl, hT, Nat.le_refl _, rfl⟩, ?_⟩
  rintro μ σ H1 ⟨y, u, rfl, rfl, hU, hu2, rfl⟩
  cases u with
  | wish i =>
    obtain ⟨b, rfl, hb⟩ := hU
    refine ⟨_, rfl, b, _, 0, _, rfl, rfl, SqT.of hb, atI_nat (j := 0) rfl, rfl, _, rfl, iteND (fun z => wf_ne z.symm) ?_⟩
    refine iteF ⟨_, rfl, b, _, 0, _, rfl, rfl, SqT.of hb, atI_nat (j := 0) rfl, rfl, _, rfl, iteD rfl ?_⟩
    exact ⟨_, rfl, b, _, 1, _, rfl, rfl, SqT.of hb, atI_nat (j := 1) rfl, by show 2 ≤ sizeLine; decide, fun p hp => q _ _ (same_new hp _)⟩
  | frm nm line l r =>
    have hU0 := hU
    obtain ⟨b, c, vl, vr, rfl, hb, hW, hL, hR⟩ := hU
    have g2 := Nat.le_max_left l.high r.high
    have g3 := Nat.le_max_right l.high r.high
    have g1 : max l.high r.high + 1 ≤ t.high := hu2
    refine ⟨_, rfl, b, _, 0, _, rfl, rfl, SqT.of hb, atI_nat (j := 0) rfl, rfl, _, rfl, iteD rfl ?_⟩
    refine ⟨_, rfl, b, _, 1, _, rfl, rfl, SqT.of hb, atI_nat (j := 1) rfl, _, rfl, a, _, rfl, DGet.k (k := .inl nm) ha, _, rfl, ?_⟩
    cases hv : valV kvs (.inl nm) with
    | some v =>
      refine iteT ⟨_, fun σ1 H1 z => z, ?_⟩
      have ex : ∃ (j : Nat) (y' : V) (u' : LT), v = .int (j : Int) ∧ [V.str "from", V.int nm, V.ref c, vl, vr][3 + j]? = some y' ∧ LRep K H1 y' u' ∧ u'.high < max l.high r.high + 1 := by
        rcases hA _ _ hv with e | e
        · exact ⟨0, vl, l, e, rfl, hL, by omega⟩
        · exact ⟨1, vr, r, e, rfl, hR, by omega⟩
      obtain ⟨j, y', u', rfl, e3, hU', hlt⟩ := ex
      refine ⟨_, rfl, _, rfl, _, rfl, b, _, 1, _, rfl, rfl, SqT.of hb, atI_nat (j := 1) rfl, a, _, rfl, (by have g := DGet.k (k := .inl nm) ha; rw [hv] at g; exact g), _, _, rfl, rfl, b, _, _, _, rfl, rfl, SqT.of hb, atI_of (i := 3 + j) (by omega) e3, ?_⟩
      exact ⟨_, hlt, y', u', rfl, rfl, hU', by omega, rfl⟩
    | none =>
      refine iteF ⟨_, rfl, b, _, 0, _, rfl, rfl, SqT.of hb, atI_nat (j := 0) rfl, rfl, _, rfl, iteND wf_ne ?_⟩
      refine ⟨_, rfl, b, _, 1, _, rfl, rfl, SqT.of hb, atI_nat (j := 1) rfl, ?_⟩
      refine ⟨_, rfl, b, _, 3, _, rfl, rfl, SqT.of hb, atI_nat (j := 3) rfl, fun d hd => ?_⟩
      have star : ∀ {H2 : Hp} {d : Addr} {v : V}, Same H1 H2 → H2 d = none → 
          a ≠ d ∧ (upd H2 d (.dK [])) a = some (.dK kvs) ∧
            ∀ e, (upd (upd H2 d (.dK [])) d (.dK kvs)) e = none → (upd (upd (upd H2 d (.dK [])) d (.dK kvs)) e (.dK [])) d = some (.dK kvs) ∧
              Same H1 (upd (upd (upd (upd (upd H2 d (.dK [])) d (.dK kvs)) e (.dK [])) e (.dK [(.inl nm, v)])) d (.dK (putK kvs (.inl nm) v))) := by
        intro H2 d v s2 hd
        have nad : a ≠ d := fun z => by have := s2 _ _ ha; rw [z, hd] at this; cases this
        refine ⟨nad, (upd_ne nad).trans (s2 _ _ ha), fun e he => ?_⟩
        have nde : d ≠ e := fun z => by rw [← z, upd_same] at he; cases he
        refine ⟨(upd_ne nde).trans upd_same, fun b1 o1 e1 => ?_⟩
        have he2 : H2 e = none := by rw [upd_ne (Ne.symm nde), upd_ne (Ne.symm nde)] at he; exact he
        have n1 : b1 ≠ d := fun z => by have := s2 _ _ e1; rw [z, hd] at this; cases this
        have n2 : b1 ≠ e := fun z => by have := s2 _ _ e1; rw [z, he2] at this; cases this
        rw [upd_ne n1, upd_ne n2, upd_ne n2, upd_ne n1, upd_ne n1]
        exact s2 _ _ e1
      obtain ⟨nad, f1, f2⟩ := star (v := .int 0) (Same.refl H1) hd
      have lput := length_putK kvs (.inl nm) (.int 0)
      have lput1 := length_putK kvs (.inl nm) (.int 1)
      refine ⟨_, rfl, a, kvs, rfl, nad, f1, upd_same, by rw [sizeLine_eq]; omega, fun e he => ⟨_, rfl, .inl nm, rfl, upd_same, (f2 e he).1, ?_⟩⟩
      have s3 := (f2 e he).2
      refine ⟨vl, d, l, _, rfl, hL.same s3, upd_same, hA.put (.inl rfl), by omega, by omega, fun y1 H3 s4 => ?_⟩
      have s34 := s3.trans s4
      refine ⟨_, rfl, _, rfl, _, rfl, b, _, 4, _, rfl, rfl, SqT.of (s34 _ _ hb), atI_nat (j := 4) rfl, fun d2 hd2 => ?_⟩
      obtain ⟨nad2, f3, f4⟩ := star (v := .int 1) s34 hd2
      refine ⟨_, rfl, a, kvs, rfl, nad2, f3, upd_same, by rw [sizeLine_eq]; omega, fun e2 he2 => ⟨_, rfl, .inl nm, rfl, upd_same, (f4 e2 he2).1, ?_⟩⟩
      have s5 := (f4 e2 he2).2
      refine ⟨vr, d2, r, _, rfl, hR.same s5, upd_same, hA.put (.inr rfl), by omega, by omega, fun y2 H4 s6 => ?_⟩
      exact ⟨by show 4 ≤ sizeLine; decide, fun p hp => q _ _ (s5.trans (s6.trans (same_new hp _)))⟩
theorem asked0 {ps : List Str} : FnOk P w K mg base CX0 0 f fd ps (spAsked K 0) := by
  have no : ∀ vs H Q E, ¬ spAsked K 0 vs H Q E := fun vs H Q E h => by
    obtain ⟨x, a, t, kvs, _, _, _, _, _, h1, _⟩ := h
    cases t <;> simp [Ns.LT.high] at h1
  exact ⟨fun vs H Q E h => absurd h (no vs H Q E), fun A outer s H args us vs Q E _ _ _ _ h => absurd h (no vs H Q E)⟩
theorem all_asked (F : Fun K "asked_node" "asked_node" sAsked f fd) (b : Binds K fd ["node", "answers"] []) (m : mg "asked_node" = some (.ref f)) : ∀ n : Nat, FnOk P w K mg base CX0 n f fd ["node", "answers"] (spAsked K n)
  | 0 => asked0
  | n + 1 => ok_asked F b m (all_asked F b m n)
end
end Km
/-! KmCheck -/
set_option Elab.async false
set_option linter.all false
set_option maxRecDepth 100000
set_option maxHeartbeats 2000000
namespace Km
open PySem PySem.Spec PyProof.Rows L2 Ns
abbrev sCheck : Stmt := top 31
abbrev sLT : Stmt := top 33
/-- a fault of the paper, raised -/
def BadP (CP : Addr) (E : XK) (H : Hp) (pl : List Int) (k : Str) : Prop := ∀ p d H', Same H H' → H' p = some (.tup (pl.map V.int)) → H' d = some (xd2 (.ref p) (.str k)) → E (.ref CP) (some d) H'
def spCheck (K : PySem.W.Frag) (C CP : Addr) : Sp := fun vs H Q E => ∃ (b : Addr) (x : V) (n : Int) (N : List Wish) (t : LT), vs = [.ref b, x] ∧ BookAt K C H b n N ∧ LRep K H x t ∧ t.size ≤ 1000 ∧ Thin t ∧ (∀ r ∈ N, r.length ≤ 900) ∧
  (treeF n N t = none → ∀ H', Same H H' → Q .non H') ∧ (∀ pl k, treeF n N t = some (pl, k) → BadP CP E H pl k)
def spLT (K : PySem.W.Frag) (C CP : Addr) : Sp := fun vs H Q E => ∃ (b : Addr) (x : V) (n : Int) (N : List Wish) (t : LT), vs = [.ref b, x] ∧ BookAt K C H b n N ∧ LRep K H x t ∧ t.size ≤ 1000 ∧ t.high ≤ 100 ∧ Thin t ∧ (∀ r ∈ N, r.length ≤ 900) ∧
  (treeF n N t = none → ∀ y H', Same H H' → Q y H') ∧ (∀ pl k, treeF n N t = some (pl, k) → BadP CP E H pl k)
theorem scCheck : FnScope ["book", "paper", "fault"] ["book", "paper"] (defScope sCheck) := ⟨rfl, rfl, rfl, by decide +kernel, rfl, by decide +kernel, by decide +kernel⟩
theorem scLT : FnScope ["book", "paper"] ["book", "paper"] (defScope sLT) := ⟨rfl, rfl, rfl, by decide +kernel, rfl, by decide +kernel, by decide +kernel⟩
section
variable {P : Program} {w : World} {K : PySem.W.Frag} {mg : Str → Option Value} {base : Heap} {f : Addr} {fd : FuncData} {C CP fI cc : Addr}
theorem ok_check {fF : Addr} {fdF : FuncData} (T : KmX.XT P K mg "BadPaper" "place" "kind" CP fI cc) (F : Fun K "check_line_tree" "check_line_tree" sCheck f fd)
    (GF : FnOk P w K mg base CX0 4 fF fdF ["book", "paper"] (spTreeF K C)) (kF : PySem.W.keepIn K (.ref fF) = true) (bF : Binds K fdF ["book", "paper"] []) (mF : mg "line_tree_fault" = some (.ref fF)) :
    FnOk P w K mg base (L2.CX P w) 5 f fd ["book", "paper"] (spCheck K C CP) := by
  refine F.okX scCheck (fun vs H Q E h => ?_) (fun cdv A outer s H vs Q E hr h => ?_)
  · obtain ⟨b, x, n, N, t, rfl, _⟩ := h
    rfl
  obtain ⟨b, x, n, N, t, rfl, hB, hT, hsz, hth, hN, qn, qs⟩ := h
  have nd := scCheck.nd
  refine ⟨_, pss_cons (ps_set (i := 2) nd rfl (Or.inl rfl) (pe_call GF hr rfl mF kF bF .nil pass0 (pa_cons (pv 0) (pa_cons (pv 1) pa_nil))))
    (pss_one (ps_if (pt_cmp (pc_notN (pv 2))) (pss_one (ps_raiseX rfl T hr (takes_of rfl rfl rfl rfl) (pa_cons (pe_ix ix_tup (pv 2) pe_int (fun _ _ => rfl)) (pa_cons (pe_ix ix_tup (pv 2) pe_int (fun _ _ => rfl)) pa_nil)) rfl)) pss_nil)), ?_⟩
  refine ⟨_, rfl, _, rfl, b, x, n, N, t, rfl, hB, hT, hsz, hth, hN, fun hn H1 s1 => ?_, fun pl k hk a p H1 s1 h1 h2 => ?_⟩
  · exact ⟨_, rfl, _, rfl, iteF (qn hn H1 s1)⟩
  · refine ⟨_, rfl, _, rfl, iteT ?_⟩
    refine ⟨_, rfl, a, _, 0, _, rfl, rfl, SqT.of h2, atI_nat (j := 0) rfl, _, rfl, a, _, 1, _, rfl, rfl, SqT.of h2, atI_nat (j := 1) rfl, _, _, rfl, fun d hd => ?_⟩
    have s2 := same_new hd (xd2 (.ref p) (.str k))
    exact qs pl k hk p d _ (s1.trans s2) (s2 _ _ h1) upd_same
theorem ok_lt {fC fA : Addr} {fdC fdA : FuncData} (F : Fun K "lines_tree" "lines_tree" sLT f fd)
    (GC : FnOk P w K mg base (L2.CX P w) 5 fC fdC ["book", "paper"] (spCheck K C CP)) (kC : PySem.W.keepIn K (.ref fC) = true) (bC : Binds K fdC ["book", "paper"] []) (mC : mg "check_line_tree" = some (.ref fC))
    (GA : FnOk P w K mg base CX0 100 fA fdA ["node", "answers"] (spAsked K 100)) (kA : PySem.W.keepIn K (.ref fA) = true) (bA : Binds K fdA ["node", "answers"] []) (mA : mg "asked_node" = some (.ref fA)) :
    FnOk P w K mg base (L2.CX P w) 101 f fd ["book", "paper"] (spLT K C CP) := by
  refine F.okX scLT (fun vs H Q E h => ?_) (fun cdv A outer s H vs Q E hr h => ?_)
  · obtain ⟨b, x, n, N, t, rfl, _⟩ := h
    rfl
  obtain ⟨b, x, n, N, t, rfl, hB, hT, hsz, h100, hth, hN, qn, qs⟩ := h
  have nd := scLT.nd
  refine ⟨_, pss_cons (ps_expr (pe_call (E := E) GC (hr.mono (by decide)) rfl mC kC bC .nil (passes_call (takes_of rfl rfl rfl rfl) (fun _ _ _ _ h => h)) (pa_cons (pv 0) (pa_cons (pv 1) pa_nil))))
    (pss_one (ps_ret (pe_call GA hr rfl mA kA bA .nil pass0 (pa_cons (pv 1) (pa_cons pe_dnewK pa_nil))))), ?_⟩
  refine ⟨_, rfl, _, rfl, b, x, n, N, t, rfl, hB, hT, hsz, hth, hN, fun hn H1 s1 => ?_, fun pl k hk => qs pl k hk⟩
  refine ⟨_, rfl, fun d hd => ?_⟩
  have s2 := same_new hd (.dK [])
  exact ⟨x, d, t, [], rfl, hT.same (s1.trans s2), upd_same, (fun k v e => by cases e), (by show 0 + _ ≤ _; omega), h100, fun y H3 s3 => qn hn y H3 (s1.trans (s2.trans s3))⟩
end
end Km
/-! KmSame -/
set_option Elab.async false
set_option linter.all false
set_option maxRecDepth 100000
set_option maxHeartbeats 2000000
namespace Ns
open PySem PySem.Spec PyProof.Rows L2
/-- two values that are written alike, nested at most n deep -/
def Twin (H : Hp) : Nat → V → V → Prop
  | 0, x, y => (∃ i, x = .int i ∧ y = .int i) ∨ ∃ k, x = .str k ∧ y = .str k
  | n + 1, x, y => ((∃ i, x = .int i ∧ y = .int i) ∨ ∃ k, x = .str k ∧ y = .str k) ∨ ∃ a b xs ys, x = .ref a ∧ y = .ref b ∧ H a = some (.tup xs) ∧ H b = some (.tup ys) ∧ xs.length = ys.length ∧ xs.length ≤ 1000 ∧ ∀ (i : Nat) u v, xs[i]? = some u → ys[i]? = some v → Twin H n u v
theorem Twin.same {H H1 : Hp} (e : Same H H1) : ∀ {n : Nat} {x y : V}, Twin H n x y → Twin H1 n x y
  | 0, x, y, h => h
  | n + 1, x, y, .inl h => .inl h
  | n + 1, x, y, .inr ⟨a, b, xs, ys, h1, h2, h3, h4, h5, h7, h6⟩ => .inr ⟨a, b, xs, ys, h1, h2, e _ _ h3, e _ _ h4, h5, h7, fun i u v hu hv => Twin.same e (h6 i u v hu hv)⟩
/-- the names of built-ins that the law's own comparison and its kin read -/
structure Blt2 (mg : Str → Option Value) : Prop where
  misi : mg "isinstance" = none
  mtup : mg "tuple" = none
  mstr : mg "str" = none
  mboo : mg "bool" = none
end Ns
namespace Km
open PySem PySem.Spec PyProof.Rows L2 Ns
abbrev sSame : Stmt := top 53
def spSame (n : Nat) : Sp := fun vs H Q _ => ∃ (x y : V) (j : Nat), vs = [x, y] ∧ j + 1 = n ∧ Twin H j x y ∧ ∀ H', Same H H' → Q (.bl true) H'
theorem scSame : FnScope ["_law_actual", "_law_expected", "_law_k"] ["_law_actual", "_law_expected"] (defScope sSame) := ⟨rfl, rfl, rfl, by decide +kernel, rfl, by decide +kernel, by decide +kernel⟩
section
variable {P : Program} {w : World} {K : PySem.W.Frag} {mg : Str → Option Value} {base : Heap} {f : Addr} {fd : FuncData}
theorem ok_same {n : Nat} (T : Blt mg) (T2 : Blt2 mg) (F : Fun K "_law_same" "_law_same" sSame f fd) (b : Binds K fd ["_law_actual", "_law_expected"] []) (m : mg "_law_same" = some (.ref f))
    (G : FnOk P w K mg base CX0 n f fd ["_law_actual", "_law_expected"] (spSame n)) :
    FnOk P w K mg base CX0 (n + 1) f fd ["_law_actual", "_law_expected"] (spSame (n + 1)) := by
  refine F.ok scSame (fun vs H Q E h => ?_) (fun cdv A outer s H vs Q E hr h => ?_)
  · obtain ⟨x, y, j, rfl, _⟩ := h
    rfl
  obtain ⟨x, y, j, rfl, hj, hT, q⟩ := h
  obtain rfl : j = n := by omega
  refine ⟨_, pss_cons (ps_if (pt_val (pe_callB call_isi rfl T2.misi PyProof.Rows.boot_isinstance (pa_cons (pv 1) (pa_cons (pe_bltn (v := .ty "tuple") rfl T2.mtup PyProof.Rows.boot_tuple rfl) pa_nil))))
      (pss_cons (ps_if (PW.pt (pw_or (pt_not (pt_val (pe_callB call_isi rfl T2.misi PyProof.Rows.boot_isinstance (pa_cons (pv 0) (pa_cons (pe_bltn (v := .ty "tuple") rfl T2.mtup PyProof.Rows.boot_tuple rfl) pa_nil)))))
          (pw_or1 (pt_cmpR op_ne (pe_callB call_len_seq rfl T.mlen PySem.boot_len (pa_cons (pv 0) pa_nil)) (pe_callB call_len_seq rfl T.mlen PySem.boot_len (pa_cons (pv 1) pa_nil)) (nomark _)))))
          (pss_one (ps_ret pe_bl)) pss_nil)
        (pss_cons (ps_for PassesOwn.never rfl (pi_range1 rfl T.mran (pa_cons (pe_callB call_len_seq rfl T.mlen PySem.boot_len (pa_cons (pv 1) pa_nil)) pa_nil)) (pg_name (i := 2) scSame.nd rfl (Or.inl rfl))
          (pss_one (ps_if (pt_not (pt_val (pe_call G hr rfl m F.kp b .nil pass0 (pa_cons (pe_ix ix_tup (pv 0) (pv 2) (fun _ _ => rfl)) (pa_cons (pe_ix ix_tup (pv 1) (pv 2) (fun _ _ => rfl)) pa_nil))))) (pss_one (ps_ret pe_bl)) pss_nil)))
        (pss_one (ps_ret pe_bl)))) pss_nil)
    (pss_cons (ps_if (pt_val (pe_callB call_isi rfl T2.misi PyProof.Rows.boot_isinstance (pa_cons (pv 1) (pa_cons (pe_bltn (v := .ty "str") rfl T2.mstr PyProof.Rows.boot_str rfl) pa_nil))))
      (pss_one (ps_ret (pe_and (pe_callB call_isi rfl T2.misi PyProof.Rows.boot_isinstance (pa_cons (pv 0) (pa_cons (pe_bltn (v := .ty "str") rfl T2.mstr PyProof.Rows.boot_str rfl) pa_nil))) (pe_one (pe_cmpR op_eq (pv 0) (pv 1) (nomark _)))))) pss_nil)
    (pss_one (ps_ret (pe_and (pe_callB call_isi rfl T2.misi PyProof.Rows.boot_isinstance (pa_cons (pv 0) (pa_cons (pe_bltn (v := .ty "int") rfl T.mint PyProof.Rows.boot_int rfl) pa_nil)))
      (pe_and (pe_not (pe_callB call_isi rfl T2.misi PyProof.Rows.boot_isinstance (pa_cons (pv 0) (pa_cons (pe_bltn (v := .ty "bool") rfl T2.mboo PyProof.Rows.boot_bool rfl) pa_nil)))) (pe_one (pe_cmpR op_eq (pv 0) (pv 1) (nomark _)))))))), ?_⟩
  have scalar : ((∃ i, x = .int i ∧ y = .int i) ∨ ∃ k, x = .str k ∧ y = .str k) ∨ ∃ a a2 xs ys k, x = .ref a ∧ y = .ref a2 ∧ H a = some (.tup xs) ∧ H a2 = some (.tup ys) ∧ xs.length = ys.length ∧ xs.length ≤ 1000 ∧ k + 1 = j ∧ ∀ (i : Nat) u v, xs[i]? = some u → ys[i]? = some v → Twin H k u v := by
    cases j with
    | zero => exact .inl hT
    | succ k =>
      rcases hT with h | ⟨a, b, xs, ys, h1, h2, h3, h4, h5, h7, h6⟩
      · exact .inl h
      · exact .inr ⟨a, b, xs, ys, k, h1, h2, h3, h4, h5, h7, rfl, h6⟩
  rcases scalar with (⟨i, rfl, rfl⟩ | ⟨k, rfl, rfl⟩) | ⟨a, a2, xs, ys, k, rfl, rfl, ha, ha2, hlen, h1000, hk, hxy⟩
  · refine ⟨_, rfl, _, .ty "tuple", .type "int", .type "tuple", false, rfl, .ty _, .base (.int _), kit_ty (by decide +kernel), false, rfl, iteF ?_⟩
    refine ⟨_, rfl, _, .ty "str", .type "int", .type "str", false, rfl, .ty _, .base (.int _), kit_ty (by decide +kernel), false, rfl, iteF ?_⟩
    refine ⟨_, rfl, _, .ty "int", .type "int", .type "int", true, rfl, .ty _, .base (.int _), kit_ty (by decide +kernel), true, rfl, iteT ?_⟩
    refine ⟨_, rfl, _, .ty "bool", .type "int", .type "bool", false, rfl, .ty _, .base (.int _), kit_ty (by decide +kernel), false, rfl, true, rfl, iteT ⟨_, rfl, _, rfl, rfl, ?_⟩⟩
    rw [decide_eq_true rfl]
    exact q H (Same.refl H)
  · refine ⟨_, rfl, _, .ty "tuple", .type "str", .type "tuple", false, rfl, .ty _, .base (.str _), kit_ty (by decide +kernel), false, rfl, iteF ?_⟩
    refine ⟨_, rfl, _, .ty "str", .type "str", .type "str", true, rfl, .ty _, .base (.str _), kit_ty (by decide +kernel), true, rfl, iteT ?_⟩
    refine ⟨_, rfl, _, .ty "str", .type "str", .type "str", true, rfl, .ty _, .base (.str _), kit_ty (by decide +kernel), true, rfl, iteT ⟨_, rfl, _, rfl, rfl, ?_⟩⟩
    rw [decide_eq_true rfl]
    exact q H (Same.refl H)
  · refine ⟨_, rfl, _, .ty "tuple", .type "tuple", .type "tuple", true, rfl, .ty _, .base (.tup ha2), kit_ty (by decide +kernel), true, rfl, iteT ?_⟩
    refine ⟨_, rfl, _, .ty "tuple", .type "tuple", .type "tuple", true, rfl, .ty _, .base (.tup ha), kit_ty (by decide +kernel), true, rfl, iteF ?_⟩
    refine ⟨_, rfl, a, xs, rfl, .inr (.inl (.inl ha)), _, rfl, a2, ys, rfl, .inr (.inl (.inl ha2)), rfl, _, rfl, ?_⟩
    rw [hlen, decide_eq_true rfl]
    refine iteF ⟨_, rfl, a2, ys, rfl, .inr (.inl (.inl ha2)), (ys.length : Int), rfl, by omega, by omega, for_range (n := ys.length) (fun i σ H' => ∃ z, σ = [some (.ref a), some (.ref a2), z] ∧ Same H H')
      ⟨none, rfl, Same.refl H⟩ ?_ ?_⟩
    · rintro i σ H' hi ⟨z, rfl, sm⟩
      have ex : xs[i]? = some xs[i] := List.getElem?_eq_getElem (by omega)
      have ey : ys[i]? = some ys[i] := List.getElem?_eq_getElem hi
      refine ⟨_, rfl, _, rfl, a, xs, _, _, rfl, rfl, .inl (.inl (sm _ _ ha)), at_of (by omega : (0 : Int) + (i : Int) = (i : Int)) ex, _, rfl, _, rfl, a2, ys, _, _, rfl, rfl, .inl (.inl (sm _ _ ha2)), at_of (by omega : (0 : Int) + (i : Int) = (i : Int)) ey, ?_⟩
      refine ⟨_, _, k, rfl, hk, (hxy i _ _ ex ey).same sm, fun H2 sm2 => ?_⟩
      exact ⟨true, rfl, iteF ⟨_, rfl, sm.trans sm2⟩⟩
    · rintro σ H' ⟨z, rfl, sm⟩
      exact q H' sm
theorem same0 {ps : List Str} : FnOk P w K mg base CX0 0 f fd ps (spSame 0) := by
  have no : ∀ vs H Q E, ¬ spSame 0 vs H Q E := fun vs H Q E h => by
    obtain ⟨x, y, j, _, h1, _⟩ := h
    omega
  exact ⟨fun vs H Q E h => absurd h (no vs H Q E), fun A outer s H args us vs Q E _ _ _ _ h => absurd h (no vs H Q E)⟩
theorem all_same (T : Blt mg) (T2 : Blt2 mg) (F : Fun K "_law_same" "_law_same" sSame f fd) (b : Binds K fd ["_law_actual", "_law_expected"] []) (m : mg "_law_same" = some (.ref f)) : ∀ n : Nat, FnOk P w K mg base CX0 n f fd ["_law_actual", "_law_expected"] (spSame n)
  | 0 => same0
  | n + 1 => ok_same T T2 F b m (all_same T T2 F b m n)
end
end Km
/-! KmRefused -/
set_option Elab.async false
set_option linter.all false
set_option maxRecDepth 100000
set_option maxHeartbeats 2000000
namespace L2
open PySem PySem.Spec PyProof.Rows
/-- isinstance(e, c), e the exception that the suite holds, with a dict of its own at d -/
def rIsX (K : PySem.W.Frag) (C a : Addr) (cls : Value) (d : Option Addr) : List V → Hp → VK → Prop := fun xs H Q => ∃ (c : V) (cv : Value) (b : Bool) (dd : Addr) (l : List (Str × V)), xs = [.ref a, c] ∧ cls = .ref C ∧ d = some dd ∧ H dd = some (.xd l) ∧ (∀ u, RelV c u → u = cv) ∧ PySem.W.kitOne K (.ref C) cv = some b ∧ Q (.bl b) H
def rIsXT (K : PySem.W.Frag) (C a : Addr) (cls : Value) (d : Option Addr) : List V → Hp → VK → Prop := fun xs H Q => ∃ (tp : Addr) (cs : List V) (us : List Value) (b : Bool) (dd : Addr) (l : List (Str × V)), xs = [.ref a, .ref tp] ∧ H tp = some (.tup cs) ∧ Paired ClsV cs us ∧ cls = .ref C ∧ d = some dd ∧ H dd = some (.xd l) ∧ PySem.W.kitAny K (.ref C) us = some b ∧ Q (.bl b) H
section
variable {X : Cx} {a C : Addr} {cls : Value} {d : Option Addr} {oe : Obj} {pn : List (Addr × Obj)}
theorem kitX_of (G : ExcC X.K C) : (PySem.W.clsIn X.K C).isSome = true := by
  obtain ⟨cd, hc, _⟩ := PySem.W.any_some G.hd
  rw [hc]
  rfl
theorem call_isX (G : ExcC X.K C) (hz : Zc cls d oe) (hf : ∃ vs, oe.data = .fields vs) : CallR (X.suite a ((a, oe) :: pn)) (.builtin "isinstance") (rIsX X.K C a cls d) := by
  intro pins s σ H xs us Q I r h
  obtain ⟨c, cv, b, dd, l, rfl, ec, ed, ea, hcv, hk, q⟩ := h
  subst ec
  subst ed
  obtain ⟨ux, ut, rfl, rx, rt⟩ := vals2 r
  obtain rfl : ux = Value.ref a := rx
  obtain rfl := hcv _ rt
  obtain ⟨hget, _⟩ := I.pin (a, oe) (List.mem_append_left _ List.mem_cons_self)
  obtain ⟨vs, hd⟩ := hf
  have hx : ObjOk X.prog X.w H s.heap dd (.xd l) := I.hok dd _ ea
  obtain ⟨mA, hns, hr⟩ := hx
  obtain ⟨od, ho, hl⟩ := lookIn_ns hns
  have J : PySem.W.InstAt s.heap a oe C (some od) := ⟨hget, hz.1, by unfold PySem.W.notCls; rw [hd] <;> rfl, by rw [hz.2]; exact ho⟩
  exact PySem.W.kia_one (PySem.W.kitx_exc (kitX_of G) G.hg G.hk G.hs G.ha G.hn G.ht G.hm) I.kIn J hk (fun z => nomatch z) fun tk => ⟨.bl b, H, I.kept (t' := tk) fun _ _ z => z, rfl, q⟩
theorem call_isXT (G : ExcC X.K C) (hz : Zc cls d oe) (hf : ∃ vs, oe.data = .fields vs) : CallR (X.suite a ((a, oe) :: pn)) (.builtin "isinstance") (rIsXT X.K C a cls d) := by
  intro pins s σ H xs us Q I r h
  obtain ⟨tp, cs, ws, b, dd, l, rfl, hT, hp, ec, ed, ea, hk, q⟩ := h
  subst ec
  subst ed
  obtain ⟨ux, ut, rfl, rx, rt⟩ := vals2 r
  obtain rfl : ux = Value.ref a := rx
  obtain rfl : ut = Value.ref tp := rt
  obtain ⟨hget, _⟩ := I.pin (a, oe) (List.mem_append_left _ List.mem_cons_self)
  obtain ⟨vs, hd⟩ := hf
  have hx : ObjOk X.prog X.w H s.heap dd (.xd l) := I.hok dd _ ea
  obtain ⟨mA, hns, hr⟩ := hx
  obtain ⟨od, ho, hl⟩ := lookIn_ns hns
  have J : PySem.W.InstAt s.heap a oe C (some od) := ⟨hget, hz.1, by unfold PySem.W.notCls; rw [hd] <;> rfl, by rw [hz.2]; exact ho⟩
  obtain ⟨_, its, rv, o, h1, h2, n, h3⟩ := (show ObjOk X.prog X.w H s.heap tp (.tup cs) from I.hok tp _ hT)
  have e3 := ClsV.all hp rv
  subst e3
  obtain ⟨oc, od2, dt, sl⟩ := o
  simp only at h2 h3
  subst h2 h3
  exact PySem.W.kia_tup (PySem.W.kitx_exc (kitX_of G) G.hg G.hk G.hs G.ha G.hn G.ht G.hm) I.kIn J h1 hk (fun z => nomatch z) fun tk => ⟨.bl b, H, I.kept (t' := tk) fun _ _ z => z, rfl, q⟩
end
end L2
namespace Km
open PySem PySem.Spec PyProof.Rows L2 Ns
abbrev sRefused : Stmt := top 54
/-- the classes that the law's door names -/
structure Errs (K : PySem.W.Frag) (mg : Str → Option Value) (CP B BL BW : Addr) : Prop where
  gP : mg "BadPaper" = some (.ref CP)
  gB : mg "BookError" = some (.ref B)
  gL : mg "BadLiar" = some (.ref BL)
  gW : mg "BadWish" = some (.ref BW)
  xP : PySem.W.exmOne K (.ref CP) (.ref CP) = some true
  exc : ExcC K CP
  kB : PySem.W.kitOne K (.ref CP) (.ref B) = some true
  kLW : PySem.W.kitAny K (.ref CP) [.ref BL, .ref BW] = some false
  noP : PySem.W.findIn K (.ref CP) "place" = some none
  noK : PySem.W.findIn K (.ref CP) "kind" = some none
def spRefused (K : PySem.W.Frag) (C : Addr) : Sp := fun vs H Q _ => ∃ (b : Addr) (x : V) (n : Int) (N : List Wish) (t : LT), vs = [.ref b, x] ∧ BookAt K C H b n N ∧ LRep K H x t ∧ t.size ≤ 1000 ∧ t.high ≤ 100 ∧ Thin t ∧ (∀ r ∈ N, r.length ≤ 900) ∧
  (treeF n N t = none → ∀ H', Same H H' → Q .non H') ∧ (∀ pl k, treeF n N t = some (pl, k) → ∀ a p H', Same H H' → H' p = some (.tup (pl.map V.int)) → H' a = some (.tup [.ref p, .str k]) → Q (.ref a) H')
theorem scRefused : FnScope ["_law_book", "_law_paper", "e"] ["_law_book", "_law_paper"] (defScope sRefused) := ⟨rfl, rfl, rfl, by decide +kernel, rfl, by decide +kernel, by decide +kernel⟩
section
variable {P : Program} {w : World} {K : PySem.W.Frag} {mg : Str → Option Value} {base : Heap} {f : Addr} {fd : FuncData} {C CP B BL BW fI cc : Addr}
theorem ok_refused {fT : Addr} {fdT : FuncData} (X : KmX.XT P K mg "BadPaper" "place" "kind" CP fI cc) (R : Errs K mg CP B BL BW) (T2 : Blt2 mg) (F : Fun K "_law_refused" "_law_refused" sRefused f fd)
    (GT : FnOk P w K mg base (L2.CX P w) 101 fT fdT ["book", "paper"] (spLT K C CP)) (kT : PySem.W.keepIn K (.ref fT) = true) (bT : Binds K fdT ["book", "paper"] []) (mT : mg "lines_tree" = some (.ref fT)) :
    FnOk P w K mg base CX0 102 f fd ["_law_book", "_law_paper"] (spRefused K C) := by
  refine F.ok scRefused (fun vs H Q E h => ?_) (fun cdv A outer s H vs Q E hr h => ?_)
  · obtain ⟨b, x, n, N, t, rfl, _⟩ := h
    rfl
  obtain ⟨b, x, n, N, t, rfl, hB, hT, hsz, h100, hth, hN, qn, qs⟩ := h
  have nd := scRefused.nd
  refine ⟨_, pss_cons (ps_try_as (i := 2) (tb := fun W => tDrop (tCallS (spLT K C CP) (WE W) (tCons (tVar 0) (tCons (tVar 1) tNil)))) (Wout := fun _ _ _ _ => False) rfl rfl nd rfl rfl ⟨rfl, by decide, .inl R.gP⟩ takes0
      (fun W pn xe tk _ => pss_one (ps_expr (by exact (pe_callS GT hr rfl mT kT bT (fun σ => passAt tk σ) (by exact (pa_cons (pv 0) (pa_cons (pv 1) pa_nil)))))))
      (fun a oe cls d pn hz hf => pss_cons (ps_if (PW.pt (pw_or (pt_not (pt_val (pe_callB (r := rIsX K CP a cls d) (call_isX R.exc hz hf) rfl T2.misi PyProof.Rows.boot_isinstance (pa_cons (pv 2) (pa_cons (pe_glob (v := .ref B) rfl R.gB rfl) pa_nil)))))
            (pw_or1 (pt_val (pe_callB (r := rIsXT K CP a cls d) (call_isXT R.exc hz hf) rfl T2.misi PyProof.Rows.boot_isinstance (pa_cons (pv 2) (pa_cons (pe_tup (pa_cons (pe_glob (v := .ref BL) rfl R.gL rfl) (pa_cons (pe_glob (v := .ref BW) rfl R.gW rfl) pa_nil))) pa_nil)))))))
          (pss_one (ps_ret (pe_tup (pa_cons pe_str (pa_cons pe_int pa_nil))))) pss_nil)
        (pss_one (ps_ret (by exact (pe_tup (pa_cons (pe_byX X R.noP hz hf (pv 2)) (pa_cons (pe_byX X R.noK hz hf (pv 2)) pa_nil))))))))
    (pss_one (ps_ret pe_non)), ?_⟩
  refine ⟨_, rfl, _, rfl, b, x, n, N, t, rfl, hB, hT, hsz, h100, hth, hN, fun hn y H1 s1 => qn hn H1 s1, fun pl k hk p d H1 s1 h1 h2 => ?_⟩
  refine ⟨true, R.xP, (fun _ a ha => ?_), (fun z => nomatch z)⟩
  refine ⟨_, rfl, _, _, _, d, _, rfl, rfl, rfl, h2, fun u r => r, R.kB, _, rfl, ?_⟩
  refine iteF ⟨_, rfl, by show 2 ≤ sizeLine; decide, fun tp htp => ?_⟩
  have s2 := same_new htp (.tup [V.ref BL, V.ref BW])
  refine ⟨tp, _, _, false, d, _, rfl, upd_same, .cons (.own _) (.cons (.own _) .nil), rfl, rfl, s2 _ _ h2, R.kLW, _, rfl, iteF ?_⟩
  refine ⟨_, rfl, rfl, rfl, d, _, _, _, rfl, s2 _ _ h2, (by with_unfolding_all rfl), _, rfl, rfl, rfl, d, _, _, _, rfl, s2 _ _ h2, (by with_unfolding_all rfl), by show 2 ≤ sizeLine; decide, fun a2 ha2 => ?_⟩
  have s3 := same_new ha2 (.tup [V.ref p, V.str k])
  exact qs pl k hk a2 p _ (s1.trans (s2.trans s3)) (s3 _ _ (s2 _ _ h1)) upd_same
end
end Km
/-! KmJudged -/
set_option Elab.async false
set_option linter.all false
set_option maxRecDepth 100000
set_option maxHeartbeats 2000000
namespace Ns
open PySem PySem.Spec PyProof.Rows L2
theorem twin_fault {H : Hp} {a p a2 p2 : Addr} {pl : List Int} {k : Str} (h1 : H p = some (.tup (pl.map V.int))) (h2 : H a = some (.tup [.ref p, .str k])) (h3 : H p2 = some (.tup (pl.map V.int))) (h4 : H a2 = some (.tup [.ref p2, .str k])) (hl : pl.length ≤ 1000) : Twin H 2 (.ref a) (.ref a2) := by
  refine .inr ⟨a, a2, _, _, rfl, rfl, h2, h4, rfl, (by show 2 ≤ 1000; decide), fun i u v hu hv => ?_⟩
  match i with
  | 0 =>
    obtain rfl : V.ref p = u := Option.some.inj hu
    obtain rfl : V.ref p2 = v := Option.some.inj hv
    refine .inr ⟨p, p2, _, _, rfl, rfl, h1, h3, rfl, by rw [List.length_map]; exact hl, fun j u v hu hv => ?_⟩
    rw [hu] at hv
    obtain rfl := Option.some.inj hv
    rw [List.getElem?_map] at hu
    cases e : pl[j]? with
    | none => rw [e] at hu; cases hu
    | some z =>
      rw [e] at hu
      obtain rfl : V.int z = u := Option.some.inj hu
      exact .inl ⟨z, rfl, rfl⟩
  | 1 =>
    obtain rfl : V.str k = u := Option.some.inj hu
    obtain rfl : V.str k = v := Option.some.inj hv
    exact .inl (.inr ⟨k, rfl, rfl⟩)
  | i + 2 => simp at hu
theorem post_high : ∀ (t : LT) (pl : List Int) (z : Spot), z ∈ post pl t → z.1.length + 1 ≤ pl.length + t.high
  | .wish i, pl, z, h => by
    rw [List.mem_singleton.mp h]
    exact Nat.le_refl _
  | .frm nm line l r, pl, z, h => by
    have e : (LT.frm nm line l r).high = max l.high r.high + 1 := rfl
    have g1 := Nat.le_max_left l.high r.high
    have g2 := Nat.le_max_right l.high r.high
    rw [e]
    rcases List.mem_append.mp h with h | h
    · rcases List.mem_append.mp h with h | h
      · have := post_high l _ z h
        rw [List.length_append] at this
        simp only [List.length_singleton] at this
        omega
      · have := post_high r _ z h
        rw [List.length_append] at this
        simp only [List.length_singleton] at this
        omega
    · rw [List.mem_singleton.mp h]
      show pl.length + 1 ≤ _
      omega
theorem firstF_mem {n : Int} {N : List Wish} : ∀ {L : List Spot} {pl : List Int} {k : Str}, firstF n N L = some (pl, k) → ∃ t, (pl, t) ∈ L
  | [], pl, k, h => by cases h
  | z :: r, pl, k, h => by
    unfold firstF at h
    split at h
    · obtain rfl : z.1 = pl := congrArg Prod.fst (Option.some.inj h)
      exact ⟨z.2, List.mem_cons_self⟩
    · obtain ⟨t, ht⟩ := firstF_mem h
      exact ⟨t, List.mem_cons_of_mem _ ht⟩
theorem treeF_len {n : Int} {N : List Wish} {t : LT} {pl : List Int} {k : Str} (h : treeF n N t = some (pl, k)) (ht : t.high ≤ 100) : pl.length ≤ 1000 := by
  unfold treeF at h
  split at h
  · rename_i z e
    rw [Option.some.inj h] at e
    obtain ⟨u, hu⟩ := firstF_mem e
    have := post_high t [] _ hu
    simp only [List.length_nil] at this
    omega
  · split at h
    · cases h
    · obtain rfl : [] = pl := congrArg Prod.fst (Option.some.inj h)
      exact Nat.zero_le _
theorem leaves_size : ∀ t : LT, t.leaves ≤ t.size
  | .wish _ => Nat.le_refl _
  | .frm _ _ l r => by
    have h1 := leaves_size l
    have h2 := leaves_size r
    show l.leaves + r.leaves ≤ l.size + r.size + 1
    omega
end Ns
namespace Km
open PySem PySem.Spec PyProof.Rows L2 Ns
abbrev sJudged : Stmt := top 55
def spJudged (K : PySem.W.Frag) (C : Addr) : Sp := fun vs H Q _ => ∃ (l b : Addr) (x : V) (n : Int) (N : List Wish) (t : LT), vs = [.int n, .ref l, .ref b, x] ∧ RowsL K H l N ∧ BookAt K C H b n N ∧ LRep K H x t ∧ t.size ≤ 900 ∧ t.high ≤ 100 ∧ Thin t ∧ (∀ r ∈ N, r.length ≤ 900) ∧ ∀ H', Same H H' → Q (.bl true) H'
theorem scJudged : FnScope ["_law_names", "_law_wishes", "_law_book", "_law_paper", "_law_due_here"] ["_law_names", "_law_wishes", "_law_book", "_law_paper"] (defScope sJudged) := ⟨rfl, rfl, rfl, by decide +kernel, rfl, by decide +kernel, by decide +kernel⟩
section
variable {P : Program} {w : World} {K : PySem.W.Frag} {mg : Str → Option Value} {base : Heap} {f : Addr} {fd : FuncData} {C : Addr}
theorem ok_judged {fD fS fV fR fT fU : Addr} {fdD fdS fdV fdR fdT fdU : FuncData} (T : Blt mg) (F : Fun K "_law_judged" "_law_judged" sJudged f fd)
    (GD : FnOk P w K mg base CX0 102 fD fdD ["_law_names", "_law_wishes", "_law_paper"] (spDue K)) (kD : PySem.W.keepIn K (.ref fD) = true) (bD : Binds K fdD ["_law_names", "_law_wishes", "_law_paper"] []) (mD : mg "_law_due" = some (.ref fD))
    (GS : FnOk P w K mg base CX0 3 fS fdS ["_law_actual", "_law_expected"] (spSame 3)) (kS : PySem.W.keepIn K (.ref fS) = true) (bS : Binds K fdS ["_law_actual", "_law_expected"] []) (mS : mg "_law_same" = some (.ref fS))
    (GS1 : FnOk P w K mg base CX0 1 fS fdS ["_law_actual", "_law_expected"] (spSame 1))
    (GV : FnOk P w K mg base CX0 100 fV fdV ["paper"] (spLeaves K 100)) (kV : PySem.W.keepIn K (.ref fV) = true) (bV : Binds K fdV ["paper"] []) (mV : mg "line_tree_leaves" = some (.ref fV))
    (GR : FnOk P w K mg base CX0 100 fR fdR ["_law_paper"] (spRows K 100)) (kR : PySem.W.keepIn K (.ref fR) = true) (bR : Binds K fdR ["_law_paper"] []) (mR : mg "_law_leaf_rows" = some (.ref fR))
    (GT : FnOk P w K mg base CX0 4 fT fdT ["book", "paper"] (spTreeF K C)) (kT : PySem.W.keepIn K (.ref fT) = true) (bT : Binds K fdT ["book", "paper"] []) (mT : mg "line_tree_fault" = some (.ref fT))
    (GU : FnOk P w K mg base CX0 102 fU fdU ["_law_book", "_law_paper"] (spRefused K C)) (kU : PySem.W.keepIn K (.ref fU) = true) (bU : Binds K fdU ["_law_book", "_law_paper"] []) (mU : mg "_law_refused" = some (.ref fU)) :
    FnOk P w K mg base CX0 103 f fd ["_law_names", "_law_wishes", "_law_book", "_law_paper"] (spJudged K C) := by
  refine F.ok scJudged (fun vs H Q E h => ?_) (fun cdv A outer s H vs Q E hr h => ?_)
  · obtain ⟨l, b, x, n, N, t, rfl, _⟩ := h
    rfl
  obtain ⟨l, b, x, n, N, t, rfl, hL, hB, hT, hsz, h100, hth, hN, q⟩ := h
  have nd := scJudged.nd
  refine ⟨_, pss_cons (ps_set (i := 4) nd rfl (Or.inl rfl) (pe_call GD hr rfl mD kD bD .nil pass0 (pa_cons (pv 0) (pa_cons (pv 1) (pa_cons (pv 3) pa_nil)))))
    (pss_cons (ps_if (pt_not (pt_val (pe_call GS1 (hr.mono (by decide)) rfl mS kS bS .nil pass0 (pa_cons (pe_call GV (hr.mono (by decide)) rfl mV kV bV .nil pass0 (pa_cons (pv 3) pa_nil)) (pa_cons (pe_callB call_len_seq rfl T.mlen PySem.boot_len (pa_cons (pe_call GR (hr.mono (by decide)) rfl mR kR bR .nil pass0 (pa_cons (pv 3) pa_nil)) pa_nil)) pa_nil)))))
      (pss_one (ps_ret pe_bl)) pss_nil)
    (pss_cons (ps_if (pt_cmp (pc_isN (pv 4)))
      (pss_one (ps_ret (pe_and (pe_cmp (pc_isN (pe_call GT (hr.mono (by decide)) rfl mT kT bT .nil pass0 (pa_cons (pv 2) (pa_cons (pv 3) pa_nil))))) (pe_one (pe_cmp (pc_isN (pe_call GU hr rfl mU kU bU .nil pass0 (pa_cons (pv 2) (pa_cons (pv 3) pa_nil))))))))) pss_nil)
    (pss_one (ps_ret (pe_and (pe_call GS (hr.mono (by decide)) rfl mS kS bS .nil pass0 (pa_cons (pe_call GT (hr.mono (by decide)) rfl mT kT bT .nil pass0 (pa_cons (pv 2) (pa_cons (pv 3) pa_nil))) (pa_cons (pv 4) pa_nil)))
      (pe_one (pe_call GS (hr.mono (by decide)) rfl mS kS bS .nil pass0 (pa_cons (pe_call GU hr rfl mU kU bU .nil pass0 (pa_cons (pv 2) (pa_cons (pv 3) pa_nil))) (pa_cons (pv 4) pa_nil)))))))
    )), ?_⟩
  have lv := leaves_size t
  refine ⟨_, rfl, _, rfl, _, rfl, n, l, x, N, t, rfl, hL, hT, hsz, h100, hth, hN, fun hn H1 s1 => ?_, fun pl k hk a p H1 s1 h1 h2 => ?_⟩
  · refine ⟨_, rfl, x, t, rfl, hT.same s1, h100, _, rfl, x, gOf t, rfl, gOf_rep (hT.same s1), by rw [gOf_vals]; omega, by rw [gOf_high]; exact h100, fun o H2 s2 _ eo => ?_⟩
    refine ⟨o, _, rfl, .inl (.inl (.inl eo)), _, _, 0, rfl, rfl, .inl ⟨(t.leaves : Int), rfl, by rw [gOf_vals]⟩, fun H3 s3 => ⟨_, rfl, iteF ?_⟩⟩
    have s13 := s1.trans (s2.trans s3)
    refine ⟨_, rfl, _, rfl, iteT ?_⟩
    refine ⟨_, rfl, _, rfl, b, x, n, N, t, rfl, hB.same s13, hT.same s13, by omega, hth, hN, fun _ H4 s4 => ?_, fun pl k hk => by rw [hn] at hk; cases hk⟩
    have s14 := s13.trans s4
    refine ⟨_, rfl, iteT ⟨_, rfl, _, rfl, b, x, n, N, t, rfl, hB.same s14, hT.same s14, by omega, h100, hth, hN, fun _ H5 s5 => ?_, fun pl k hk => by rw [hn] at hk; cases hk⟩⟩
    exact q H5 (s14.trans s5)
  · have hl := treeF_len hk h100
    refine ⟨_, rfl, x, t, rfl, hT.same s1, h100, _, rfl, x, gOf t, rfl, gOf_rep (hT.same s1), by rw [gOf_vals]; omega, by rw [gOf_high]; exact h100, fun o H2 s2 _ eo => ?_⟩
    refine ⟨o, _, rfl, .inl (.inl (.inl eo)), _, _, 0, rfl, rfl, .inl ⟨(t.leaves : Int), rfl, by rw [gOf_vals]⟩, fun H3 s3 => ⟨_, rfl, iteF ?_⟩⟩
    have s23 := s2.trans s3
    have s13 := s1.trans s23
    refine ⟨_, rfl, _, rfl, iteF ?_⟩
    refine ⟨_, rfl, _, rfl, b, x, n, N, t, rfl, hB.same s13, hT.same s13, by omega, hth, hN, fun hn => (by rw [hk] at hn; cases hn), fun pl2 k2 hk2 a2 p2 H4 s4 h3 h4 => ?_⟩
    rw [hk] at hk2
    obtain ⟨rfl, rfl⟩ : pl = pl2 ∧ k = k2 := by injection hk2 with e; injection e with e1 e2; exact ⟨e1, e2⟩
    have s24 := s23.trans s4
    refine ⟨_, rfl, _, _, 2, rfl, rfl, twin_fault h3 h4 (s24 _ _ h1) (s24 _ _ h2) hl, fun H5 s5 => ?_⟩
    have s15 := s13.trans (s4.trans s5)
    refine ⟨_, rfl, iteT ⟨_, rfl, _, rfl, b, x, n, N, t, rfl, hB.same s15, hT.same s15, by omega, h100, hth, hN, fun hn => (by rw [hk] at hn; cases hn), fun pl2 k2 hk2 a3 p3 H6 s6 h5 h6 => ?_⟩⟩
    rw [hk] at hk2
    obtain ⟨rfl, rfl⟩ : pl = pl2 ∧ k = k2 := by injection hk2 with e; injection e with e1 e2; exact ⟨e1, e2⟩
    have s26 := s24.trans (s5.trans s6)
    refine ⟨_, rfl, _, _, 2, rfl, rfl, twin_fault h5 h6 (s26 _ _ h1) (s26 _ _ h2) hl, fun H7 s7 => ?_⟩
    exact q H7 (s15.trans (s6.trans s7))
end
end Km
/-! NsDp -/
set_option Elab.async false
set_option linter.all false
set_option maxRecDepth 100000
set_option maxHeartbeats 2000000
namespace Ns
open PySem PySem.Spec PySem.Calls PySem.SeqAt PySem.W PyProof.Rows L2
theorem dp_word {K : PySem.W.Frag} {H : Hp} {x : V} {p : Word} (h : WordH K H x p) : Dp K H x (dWord p) := by
  obtain ⟨a, rfl, h⟩ := h
  exact .tup (SqT.of h) (.cons (.int _) (.cons (.int _) .nil))
theorem dp_words {K : PySem.W.Frag} {H : Hp} : ∀ {xs : List V} {r : Wish}, WishH.EachV (WordH K H) xs r → DpAll K H xs (r.map dWord)
  | [], [], _ => .nil
  | [], _ :: _, z => z.elim
  | _ :: _, [], z => z.elim
  | _ :: _, _ :: _, z => .cons (dp_word z.1) (dp_words z.2)
theorem dp_wish {K : PySem.W.Frag} {H : Hp} {a : Addr} {r : Wish} (h : WishH K H a r) : Dp K H (.ref a) (dWish r) := by
  obtain ⟨xs, h1, h2⟩ := h
  exact .tup h1 (dp_words h2)
theorem dp_rows {K : PySem.W.Frag} {H : Hp} : ∀ M : List WRow, (∀ q ∈ M, WishH K H q.1 q.2) → DpAll K H (M.map fun q => V.ref q.1) ((M.map (·.2)).map dWish)
  | [], _ => .nil
  | q :: M, h => .cons (dp_wish (h q List.mem_cons_self)) (dp_rows M fun z hz => h z (List.mem_cons_of_mem _ hz))
theorem eqv_word (p q : Word) : PyData.eqv (dWord p) (dWord q) = decide (p = q) := by
  obtain ⟨a, b⟩ := p
  obtain ⟨c, d⟩ := q
  refine Bool.eq_iff_iff.mpr ?_
  simp [dWord, PyData.eqv, PyData.eqvAll]
theorem eqv_words : ∀ r q : Wish, PyData.eqvAll (r.map dWord) (q.map dWord) = decide (r = q)
  | [], [] => rfl
  | [], _ :: _ => rfl
  | _ :: _, [] => rfl
  | a :: r, b :: q => by
    show (PyData.eqv (dWord a) (dWord b) && PyData.eqvAll (r.map dWord) (q.map dWord)) = _
    rw [eqv_word, eqv_words r q]
    simp
theorem eqv_wish (r q : Wish) : PyData.eqv (dWish r) (dWish q) = decide (r = q) := eqv_words r q
theorem rows_lay : ∀ N : List Wish, PyData.canLayAll0 (N.map dWish) = true
  | [] => rfl
  | p :: r => by
    show (PyData.canLay0 (dWish p) && PyData.canLayAll0 (r.map dWish)) = true
    rw [rows_lay r, canLay_of_shaped (wish_shaped p)]
    rfl
theorem rows_depth : ∀ N : List Wish, PyData.depthAll (N.map dWish) ≤ 2
  | [] => Nat.zero_le _
  | p :: r => by
    have h := rows_depth r
    simp only [List.map_cons, PyData.depthAll]
    exact Nat.max_le.mpr ⟨data_wish p, h⟩
theorem rows_shaped (N : List Wish) : shaped (.list (N.map dWish)) = true := by
  have h1 := rows_depth N
  unfold shaped
  rw [Bool.and_eq_true, decide_eq_true_eq]
  refine ⟨rows_lay N, ?_⟩
  simp only [PyData.depth]
  omega
/-! places -/
def dPl (pl : List Int) : PyData := .tuple (pl.map .int)
/-- a new tuple of ints -/
def PlH (H : Hp) (x : V) (pl : List Int) : Prop := ∃ b, x = .ref b ∧ H b = some (.tup (pl.map V.int))
theorem PlH.same {H H1 : Hp} {x : V} {pl : List Int} (e : Same H H1) (h : PlH H x pl) : PlH H1 x pl := by
  obtain ⟨b, h1, h2⟩ := h
  exact ⟨b, h1, e _ _ h2⟩
def PlsH (H : Hp) : List V → List (List Int) → Prop
  | [], [] => True
  | x :: xs, p :: ps => PlH H x p ∧ PlsH H xs ps
  | _, _ => False
theorem PlsH.same {H H1 : Hp} (e : Same H H1) : ∀ {xs : List V} {ps : List (List Int)}, PlsH H xs ps → PlsH H1 xs ps
  | [], [], _ => trivial
  | [], _ :: _, z => z.elim
  | _ :: _, [], z => z.elim
  | _ :: _, _ :: _, z => ⟨z.1.same e, PlsH.same e z.2⟩
theorem PlsH.app {H : Hp} : ∀ {xs ys : List V} {ps qs : List (List Int)}, PlsH H xs ps → PlsH H ys qs → PlsH H (xs ++ ys) (ps ++ qs)
  | [], _, [], _, _, h => h
  | [], _, _ :: _, _, z, _ => z.elim
  | _ :: _, _, [], _, z, _ => z.elim
  | _ :: _, _, _ :: _, _, z, h => ⟨z.1, PlsH.app z.2 h⟩
theorem PlsH.len {H : Hp} : ∀ {xs : List V} {ps : List (List Int)}, PlsH H xs ps → xs.length = ps.length
  | [], [], _ => rfl
  | [], _ :: _, z => z.elim
  | _ :: _, [], z => z.elim
  | _ :: _, _ :: _, z => congrArg (· + 1) (PlsH.len z.2)
theorem PlsH.at_ {H : Hp} : ∀ {xs : List V} {ps : List (List Int)} {i : Nat} {p : List Int}, PlsH H xs ps → ps[i]? = some p → ∃ x, xs[i]? = some x ∧ PlH H x p
  | [], [], _, _, _, h => by simp at h
  | [], _ :: _, _, _, z, _ => z.elim
  | _ :: _, [], _, _, z, _ => z.elim
  | x :: xs, q :: ps, 0, p, z, h => by
    obtain rfl : q = p := Option.some.inj h
    exact ⟨x, rfl, z.1⟩
  | x :: xs, q :: ps, i + 1, p, z, h => PlsH.at_ (xs := xs) (ps := ps) z.2 h
theorem dp_ints {K : PySem.W.Frag} {H : Hp} : ∀ pl : List Int, DpAll K H (pl.map V.int) (pl.map .int)
  | [] => .nil
  | i :: r => .cons (.int i) (dp_ints r)
theorem dp_pl {K : PySem.W.Frag} {H : Hp} {x : V} {pl : List Int} (h : PlH H x pl) : Dp K H x (dPl pl) := by
  obtain ⟨b, rfl, h⟩ := h
  exact .tup (SqT.of h) (dp_ints pl)
theorem dp_pls {K : PySem.W.Frag} {H : Hp} : ∀ {xs : List V} {ps : List (List Int)}, PlsH H xs ps → DpAll K H xs (ps.map dPl)
  | [], [], _ => .nil
  | [], _ :: _, z => z.elim
  | _ :: _, [], z => z.elim
  | _ :: _, _ :: _, z => .cons (dp_pl z.1) (dp_pls z.2)
theorem eqv_ints : ∀ r q : List Int, PyData.eqvAll (r.map .int) (q.map .int) = decide (r = q)
  | [], [] => rfl
  | [], _ :: _ => rfl
  | _ :: _, [] => rfl
  | a :: r, b :: q => by
    show (PyData.eqv (.int a) (.int b) && PyData.eqvAll (r.map .int) (q.map .int)) = _
    rw [eqv_ints r q]
    refine Bool.eq_iff_iff.mpr ?_
    simp [PyData.eqv]
theorem any_pl (pl : List Int) : ∀ ps : List (List Int), ((ps.map dPl).any fun z => PyData.eqv z (dPl pl)) = decide (pl ∈ ps)
  | [] => rfl
  | q :: ps => by
    rw [List.map_cons, List.any_cons, any_pl pl ps, show PyData.eqv (dPl q) (dPl pl) = decide (q = pl) from eqv_ints q pl]
    by_cases c : q = pl
    · subst c; simp
    · have c2 : pl ≠ q := fun e => c e.symm
      simp [c, c2]
theorem ints_depth : ∀ pl : List Int, PyData.canLayAll0 (pl.map .int) = true ∧ PyData.depthAll (pl.map .int) = 0
  | [] => ⟨rfl, rfl⟩
  | i :: r => by
    have h := ints_depth r
    refine ⟨?_, ?_⟩
    · show (PyData.canLay0 (.int i) && PyData.canLayAll0 (r.map .int)) = true
      rw [h.1]; rfl
    · simp only [List.map_cons, PyData.depthAll, PyData.depth, h.2]
      rfl
theorem pl_shaped (pl : List Int) : shaped (dPl pl) = true := by
  have h := ints_depth pl
  unfold shaped
  rw [Bool.and_eq_true, decide_eq_true_eq]
  refine ⟨h.1, ?_⟩
  simp only [dPl, PyData.depth, h.2]
  omega
theorem pls_lay : ∀ ps : List (List Int), PyData.canLayAll0 (ps.map dPl) = true ∧ PyData.depthAll (ps.map dPl) ≤ 1
  | [] => ⟨rfl, Nat.zero_le _⟩
  | p :: r => by
    have h := pls_lay r
    refine ⟨?_, ?_⟩
    · show (PyData.canLay0 (dPl p) && PyData.canLayAll0 (r.map dPl)) = true
      rw [h.1, canLay_of_shaped (pl_shaped p)]; rfl
    · simp only [List.map_cons, PyData.depthAll]
      refine Nat.max_le.mpr ⟨?_, h.2⟩
      simp only [dPl, PyData.depth, (ints_depth p).2]
      omega
theorem pls_shaped (ps : List (List Int)) : shaped (.list (ps.map dPl)) = true := by
  have h := pls_lay ps
  unfold shaped
  rw [Bool.and_eq_true, decide_eq_true_eq]
  refine ⟨h.1, ?_⟩
  simp only [PyData.depth]
  omega
/-! sorted(xs), xs a list of wishes -/
/-- ascending, equal ones side by side -/
abbrev AscE (l : List Wish) : Prop := l.Pairwise fun a b => wlt b a = false
theorem mergedE {β : Type} (f : β → Wish) (l : List β) : (l.mergeSort (dataLe false fun b => dWish (f b))).Perm l ∧ AscE ((l.mergeSort (dataLe false fun b => dWish (f b))).map f) := by
  have pm := List.mergeSort_perm l (dataLe false fun b => dWish (f b))
  refine ⟨pm, ?_⟩
  have tr : ∀ a b c : β, dataLe false (fun b => dWish (f b)) a b = true → dataLe false (fun b => dWish (f b)) b c = true → dataLe false (fun b => dWish (f b)) a c = true := by
    intro a b c h1 h2
    have e1 : wlt (f b) (f a) = false := by simpa [dataLe_eq, wlt] using h1
    have e2 : wlt (f c) (f b) = false := by simpa [dataLe_eq, wlt] using h2
    have e3 : wlt (f c) (f a) = false := by
      cases e : wlt (f c) (f a) with
      | false => rfl
      | true =>
        rcases wlt_le e1 with z | z
        · rw [wlt_trans e z] at e2; cases e2
        · rw [z, e2] at e; cases e
    simpa [dataLe_eq, wlt] using e3
  have to : ∀ a b : β, (dataLe false (fun b => dWish (f b)) a b || dataLe false (fun b => dWish (f b)) b a) = true := by
    intro a b
    cases e : wlt (f b) (f a) with
    | false =>
      have z : dataLe false (fun b => dWish (f b)) a b = true := by simpa [dataLe_eq, wlt] using e
      rw [z]; rfl
    | true =>
      have z : wlt (f a) (f b) = false := by
        cases e2 : wlt (f a) (f b) with
        | false => rfl
        | true =>
          have c := wlt_trans e e2
          rw [wlt_self] at c; cases c
      have z2 : dataLe false (fun b => dWish (f b)) b a = true := by simpa [dataLe_eq, wlt] using z
      rw [z2]
      simp
  have srt := List.pairwise_mergeSort tr to l
  refine List.pairwise_map.mpr (srt.imp fun {a b} h => ?_)
  simpa [dataLe_eq, wlt] using h
section
variable {X : Cx}
def rSortRows (K : PySem.W.Frag) : List V → Hp → VK → Prop := fun vs H Q => ∃ (a : Addr) (M : List WRow), vs = [V.ref a] ∧ SqL K H a (M.map fun q => V.ref q.1) ∧ (∀ p ∈ M, WishH K H p.1 p.2) ∧ M.length ≤ 1000 ∧
  ∀ (N : List WRow) (p : Addr), N.Perm M → AscE (N.map (·.2)) → H p = none → Q (.ref p) (upd H p (.lst (N.map fun q => V.ref q.1)))
theorem cr_sortRows (hc : X.calm = true) (hu : X.A.units + 64 < cLine) : CallR X (.builtin "sorted") (rSortRows X.K) := by
  intro pins s σ H vs us Q I r h
  obtain ⟨a, M, rfl, ha, hk, h1000, q⟩ := h
  rw [Vals.ref1 r]
  obtain ⟨its, rv, pl, hz⟩ := I.list ha
  have e1 : its = M.map fun p => Value.ref p.1 := refs_v (fun p : WRow => p.1) rv
  subst e1
  have reads : EachIs (fun v (b : WRow) => ∃ as, Reads s.heap v (dWish b.2) as) (M.map fun q => Value.ref q.1) M := each_self _ _ fun p hp => (wish_at I (hk p hp)).data
  have alike_all : AllAlike (M.map fun b => dWish b.2) := AllAlike.of fun a b => alike_wish a.2 b.2
  refine sorted_rows (R := fun v (b : WRow) => v = Value.ref b.1) (enc := fun b : WRow => dWish b.2) pl.isList (each_self _ _ fun p _ => rfl) reads alike_all (fun d hd => ?_) (by rw [sizeLine_eq]; omega) (fun b _ => ?_) fun out hlen eo => ?_
  · obtain ⟨b, _, rfl⟩ := List.mem_map.mp hd
    exact ⟨_, rfl⟩
  · have q := data_wish b.2
    omega
  · have e2 := each_refs _ eo
    obtain ⟨pm, asc⟩ := mergedE (fun b : WRow => b.2) M
    generalize M.mergeSort (dataLe false fun b => dWish b.2) = N at e2 pm asc
    subst e2
    obtain ⟨c, hc2⟩ := sortedAll_at s.heap (M.map fun q => Value.ref q.1) (N.map fun q => Value.ref q.1).toArray
    have hln : (N.map fun q => V.ref q.1).length ≤ sizeLine := by rw [List.length_map, pm.length_eq, sizeLine_eq]; omega
    exact ⟨.ref (s.heap.objs.size + 1), upd H _ (.lst (N.map fun q => V.ref q.1)), I.laid (t' := s.toks) (fun b o e => sortedAll_old e) (Nat.le_succ _) ⟨hln, _, c, v_refs (fun q : WRow => q.1) N, hc2⟩, rfl, q N _ pm asc (I.hok.fresh (Nat.le_succ _))⟩
end
end Ns
/-! KmPlaces -/
set_option Elab.async false
set_option linter.all false
set_option maxRecDepth 100000
set_option maxHeartbeats 2000000
namespace Ns
open PySem L2
/-- the places of a tree: left, right, root -/
def plsOf : List Int → LT → List (List Int)
  | pl, .wish _ => [pl]
  | pl, .frm _ _ l r => plsOf (pl ++ [0]) l ++ plsOf (pl ++ [1]) r ++ [pl]
theorem plsOf_len : ∀ (t : LT) (pl : List Int), (plsOf pl t).length = t.size
  | .wish _, _ => rfl
  | .frm nm line l r, pl => by
    show (plsOf (pl ++ [0]) l ++ plsOf (pl ++ [1]) r ++ [pl]).length = l.size + r.size + 1
    rw [List.length_append, List.length_append, plsOf_len l, plsOf_len r]
    rfl
/-- a place of the tree leads to a node -/
theorem pls_sub : ∀ (t : LT) (p q : List Int), q ∈ plsOf p t → ∃ s u, q = p ++ s ∧ t.sub s = some u ∧ s.length + 1 ≤ t.high
  | .wish i, p, q, h => ⟨[], _, by rw [List.mem_singleton.mp h, List.append_nil], rfl, Nat.le_refl _⟩
  | .frm nm line l r, p, q, h => by
    have e : (LT.frm nm line l r).high = max l.high r.high + 1 := rfl
    have g1 := Nat.le_max_left l.high r.high
    have g2 := Nat.le_max_right l.high r.high
    rcases List.mem_append.mp h with h | h
    · rcases List.mem_append.mp h with h | h
      · obtain ⟨s, u, e1, e2, e3⟩ := pls_sub l _ _ h
        refine ⟨0 :: s, u, by rw [e1, List.append_assoc]; rfl, ?_, by rw [List.length_cons, e]; omega⟩
        show (if (0 : Int) = 0 then l.sub s else if (0 : Int) = 1 then r.sub s else none) = some u
        rw [if_pos rfl, e2]
      · obtain ⟨s, u, e1, e2, e3⟩ := pls_sub r _ _ h
        refine ⟨1 :: s, u, by rw [e1, List.append_assoc]; rfl, ?_, by rw [List.length_cons, e]; omega⟩
        show (if (1 : Int) = 0 then l.sub s else if (1 : Int) = 1 then r.sub s else none) = some u
        rw [if_neg (by decide), if_pos rfl, e2]
    · refine ⟨[], _, by rw [List.mem_singleton.mp h, List.append_nil], rfl, ?_⟩
      rw [e]
      show 0 + 1 ≤ _
      omega
end Ns
namespace Km
open PySem PySem.Spec PyProof.Rows L2 Ns
abbrev sPlaces : Stmt := top 44
def spPlaces (K : PySem.W.Frag) (m : Nat) : Sp := fun vs H Q _ => ∃ (x : V) (a : Addr) (t : LT) (pl : List Int), vs = [x, .ref a] ∧ LRep K H x t ∧ H a = some (.tup (pl.map V.int)) ∧ pl.length + t.high ≤ 1000 ∧ t.size ≤ 100000 ∧ t.high ≤ m ∧ ∀ o xs H', Same H H' → H o = none → H' o = some (.lst xs) → PlsH H' xs (plsOf pl t) → Q (.ref o) H'
theorem scPlaces : FnScope ["_law_paper", "_law_place"] ["_law_paper", "_law_place"] (defScope sPlaces) := ⟨rfl, rfl, rfl, by decide +kernel, rfl, by decide +kernel, by decide +kernel⟩
section
variable {P : Program} {w : World} {K : PySem.W.Frag} {mg : Str → Option Value} {base : Heap} {f : Addr} {fd : FuncData}
theorem ok_places {m : Nat} (F : Fun K "_law_places" "_law_places" sPlaces f fd) (b0 : Binds K fd ["_law_paper", "_law_place"] []) (m0 : mg "_law_places" = some (.ref f))
    (G : FnOk P w K mg base CX0 m f fd ["_law_paper", "_law_place"] (spPlaces K m)) : FnOk P w K mg base CX0 (m + 1) f fd ["_law_paper", "_law_place"] (spPlaces K (m + 1)) := by
  refine F.ok scPlaces (fun vs H Q E h => ?_) (fun cdv A outer s H vs Q E hr h => ?_)
  · obtain ⟨x, a, t, pl, rfl, _⟩ := h
    rfl
  obtain ⟨x, a, t, pl, rfl, hT, ha, h1000, hsz, hm, q⟩ := h
  have nd := scPlaces.nd
  refine ⟨_, pss_cons (ps_if (pt_cmpR op_eq (pe_ix ix_tup (pv 0) pe_int (fun _ _ => rfl)) pe_str (nomark _)) (pss_one (ps_ret (pe_lst (pa_cons (pv 1) pa_nil)))) pss_nil)
    (pss_one (ps_ret (pe_op op_cat (pe_op op_cat
      (pe_call G hr rfl m0 F.kp b0 .nil pass0 (pa_cons (pe_ix ix_tup (pv 0) pe_int (fun _ _ => rfl)) (pa_cons (pe_op op_catA (pv 1) (pe_tup (pa_cons pe_int pa_nil))) pa_nil)))
      (pe_call G hr rfl m0 F.kp b0 .nil pass0 (pa_cons (pe_ix ix_tup (pv 0) pe_int (fun _ _ => rfl)) (pa_cons (pe_op op_catA (pv 1) (pe_tup (pa_cons pe_int pa_nil))) pa_nil))))
      (pe_lst (pa_cons (pv 1) pa_nil))))), ?_⟩
  cases t with
  | wish i =>
    obtain ⟨b, rfl, hb⟩ := hT
    refine ⟨_, rfl, b, _, 0, _, rfl, rfl, SqT.of hb, atI_nat (j := 0) rfl, rfl, _, rfl, iteD rfl ?_⟩
    refine ⟨_, rfl, by show 1 ≤ sizeLine; decide, fun o ho => ?_⟩
    have s1 := same_new ho (.lst [V.ref a])
    exact q o _ _ s1 ho upd_same ⟨⟨a, rfl, s1 _ _ ha⟩, trivial⟩
  | frm nm line l r =>
    obtain ⟨b, c, vl, vr, rfl, hb, hW, hL, hR⟩ := hT
    have g1 : max l.high r.high + 1 ≤ m + 1 := hm
    have g2 := Nat.le_max_left l.high r.high
    have g3 := Nat.le_max_right l.high r.high
    have g4 : pl.length + (max l.high r.high + 1) ≤ 1000 := h1000
    have g5 : l.size + r.size + 1 ≤ 100000 := hsz
    have cat : ∀ {H1 : Hp} {t : Addr} {v : Int} {Q1 : VK}, Same H H1 → H1 t = some (.tup [.int v]) → (∀ p H2, Same H1 H2 → H2 p = some (.tup ((pl ++ [v]).map V.int)) → Q1 (.ref p) H2) → rCatA K (.ref a) (.ref t) H1 Q1 := by
      intro H1 t v Q1 s1 ht hq
      refine ⟨a, t, _, _, rfl, rfl, SqT.of (s1 _ _ ha), SqT.of ht, Nat.le_trans (show (pl.map V.int).length + 1 ≤ 2000 by rw [List.length_map]; omega) (by decide), fun e => ?_, fun _ e => (by cases e), fun _ _ p hp => ?_⟩
      · have e2 : pl = [] := by
          cases pl with
          | nil => rfl
          | cons z r => cases e
        subst e2
        exact hq t H1 (Same.refl H1) ht
      · refine hq p _ (same_new hp _) ?_
        rw [upd_same, List.map_append]
        rfl
    refine ⟨_, rfl, b, _, 0, _, rfl, rfl, SqT.of hb, atI_nat (j := 0) rfl, rfl, _, rfl, iteND wf_ne ?_⟩
    refine ⟨_, rfl, b, _, 3, _, rfl, rfl, SqT.of hb, atI_nat (j := 3) rfl, _, rfl, by show 1 ≤ sizeLine; decide, fun t1 ht1 => ?_⟩
    have s1 := same_new ht1 (.tup [V.int 0])
    refine cat s1 upd_same fun p1 H2 s2 hp1 => ?_
    have s12 := s1.trans s2
    refine ⟨vl, p1, l, pl ++ [0], rfl, hL.same s12, hp1, by rw [List.length_append]; show _ + 1 + _ ≤ _; omega, by omega, by omega, fun o1 xs1 H3 s3 n1 e1 hx1 => ?_⟩
    have s13 := s12.trans s3
    refine ⟨_, rfl, b, _, 4, _, rfl, rfl, SqT.of (s13 _ _ hb), atI_nat (j := 4) rfl, _, rfl, by show 1 ≤ sizeLine; decide, fun t2 ht2 => ?_⟩
    have s4 := same_new ht2 (.tup [V.int 1])
    refine cat (s13.trans s4) upd_same fun p2 H5 s5 hp2 => ?_
    have s35 := s4.trans s5
    have s15 := s13.trans s35
    refine ⟨vr, p2, r, pl ++ [1], rfl, hR.same s15, hp2, by rw [List.length_append]; show _ + 1 + _ ≤ _; omega, by omega, by omega, fun o2 xs2 H6 s6 n2 e2 hx2 => ?_⟩
    have s36 := s35.trans s6
    have lx1 := hx1.len
    have lx2 := hx2.len
    rw [plsOf_len] at lx1 lx2
    refine ⟨o1, o2, xs1, xs2, rfl, rfl, s36 _ _ e1, e2, Nat.le_trans (show xs1.length + xs2.length ≤ 100000 by omega) (by decide), fun o3 ho3 => ?_⟩
    have s7 := same_new ho3 (.lst (xs1 ++ xs2))
    refine ⟨_, rfl, by show 1 ≤ sizeLine; decide, fun o4 ho4 => ?_⟩
    have s8 := same_new ho4 (.lst [V.ref a])
    refine ⟨o3, o4, _, _, rfl, rfl, s8 _ _ upd_same, upd_same, Nat.le_trans (show (xs1 ++ xs2).length + 1 ≤ 100000 by rw [List.length_append]; omega) (by decide), fun o5 ho5 => ?_⟩
    have s9 := same_new ho5 (.lst (xs1 ++ xs2 ++ [V.ref a]))
    have sA := s6.trans (s7.trans (s8.trans s9))
    have sAll := s15.trans sA
    refine q o5 _ _ sAll ?_ upd_same ?_
    · cases e : H o5 with
      | none => rfl
      | some u => have z := (s15.trans (s6.trans (s7.trans s8))) o5 u e; rw [ho5] at z; cases z
    · exact PlsH.app (PlsH.app (hx1.same (s35.trans sA)) (hx2.same (s7.trans (s8.trans s9)))) ⟨⟨a, rfl, sAll _ _ ha⟩, trivial⟩
theorem places0 {ps : List Str} : FnOk P w K mg base CX0 0 f fd ps (spPlaces K 0) := by
  have no : ∀ vs H Q E, ¬ spPlaces K 0 vs H Q E := fun vs H Q E h => by
    obtain ⟨x, a, t, pl, _, _, _, _, _, h1, _⟩ := h
    cases t <;> simp [Ns.LT.high] at h1
  exact ⟨fun vs H Q E h => absurd h (no vs H Q E), fun A outer s H args us vs Q E _ _ _ _ h => absurd h (no vs H Q E)⟩
theorem all_places (F : Fun K "_law_places" "_law_places" sPlaces f fd) (b : Binds K fd ["_law_paper", "_law_place"] []) (m : mg "_law_places" = some (.ref f)) : ∀ n : Nat, FnOk P w K mg base CX0 n f fd ["_law_paper", "_law_place"] (spPlaces K n)
  | 0 => places0
  | n + 1 => ok_places F b m (all_places F b m n)
end
end Km
/-! KmIndexed -/
set_option Elab.async false
set_option linter.all false
set_option maxRecDepth 100000
set_option maxHeartbeats 2000000
namespace Ns
open PySem PySem.Spec PyProof.Rows L2
/-- a line tree whose leaves hold wishes -/
inductive WT where
  | leaf (r : Wish)
  | node (nm : Int) (line : Wish) (l r : WT)
def WRep (K : PySem.W.Frag) (H : Hp) : V → WT → Prop
  | x, .leaf r => ∃ a c, x = .ref a ∧ H a = some (.tup [.str "wish", .ref c]) ∧ WishH K H c r
  | x, .node nm line l r => ∃ a b vl vr, x = .ref a ∧ H a = some (.tup [.str "from", .int nm, .ref b, vl, vr]) ∧ WishH K H b line ∧ WRep K H vl l ∧ WRep K H vr r
theorem WRep.same {K : PySem.W.Frag} {H H1 : Hp} (e : Same H H1) : ∀ {t : WT} {x : V}, WRep K H x t → WRep K H1 x t
  | .leaf r, x, ⟨a, c, h1, h2, h3⟩ => ⟨a, c, h1, e _ _ h2, h3.same e⟩
  | .node nm line l r, x, ⟨a, b, vl, vr, h1, h2, h3, h4, h5⟩ => ⟨a, b, vl, vr, h1, e _ _ h2, h3.same e, h4.same e, h5.same e⟩
def WT.rows : WT → List Wish
  | .leaf r => [r]
  | .node _ _ l r => l.rows ++ r.rows
def WT.high : WT → Nat
  | .leaf _ => 1
  | .node _ _ l r => max l.high r.high + 1
/-- as the tree of values -/
theorem wt_gt {K : PySem.W.Frag} {H : Hp} : ∀ {t : WT} {x : V}, WRep K H x t → ∃ (g : GT) (M : List WRow), GRep K H x g ∧ g.high = t.high ∧ g.vals = M.map (fun q => V.ref q.1) ∧ M.map (·.2) = t.rows ∧ ∀ q ∈ M, WishH K H q.1 q.2
  | .leaf r, x, ⟨a, c, h1, h2, h3⟩ => ⟨.leaf (.ref c), [(c, r)], ⟨a, h1, h2⟩, rfl, rfl, rfl, fun q hq => by rw [List.mem_singleton.mp hq]; exact h3⟩
  | .node nm line l r, x, ⟨a, b, vl, vr, h1, h2, h3, h4, h5⟩ => by
    obtain ⟨g1, M1, a1, a2, a3, a4, a5⟩ := wt_gt h4
    obtain ⟨g2, M2, b1, b2, b3, b4, b5⟩ := wt_gt h5
    refine ⟨.node nm line g1 g2, M1 ++ M2, ⟨a, b, vl, vr, h1, h2, h3, a1, b1⟩, ?_, ?_, ?_, fun q hq => ?_⟩
    · show max g1.high g2.high + 1 = max l.high r.high + 1
      rw [a2, b2]
    · show g1.vals ++ g2.vals = _
      rw [a3, b3, List.map_append]
    · rw [List.map_append, a4, b4]
      rfl
    · rcases List.mem_append.mp hq with e | e
      · exact a5 q e
      · exact b5 q e
/-- the leaves by their place among the wishes -/
def WT.idx (N : List Wish) : WT → LT
  | .leaf r => .wish ((N.idxOf r : Nat) : Int)
  | .node nm line l r => .frm nm line (l.idx N) (r.idx N)
theorem idx_high (N : List Wish) : ∀ t : WT, (t.idx N).high = t.high
  | .leaf _ => rfl
  | .node nm line l r => by
    show max (l.idx N).high (r.idx N).high + 1 = max l.high r.high + 1
    rw [idx_high N l, idx_high N r]
theorem idx_ne {k : Wish} : ∀ {ks : List Wish} {j : Nat}, j < ks.idxOf k → ∀ (h2 : j < ks.length), ks[j] ≠ k
  | n :: r, 0, h, _ => by
    intro e
    have e' : n = k := e
    rw [List.idxOf_cons, e'] at h
    simp at h
  | n :: r, j + 1, h, h2 => by
    rw [List.idxOf_cons] at h
    by_cases c : n = k
    · subst c
      simp at h
    · have c2 : (n == k) = false := beq_eq_false_iff_ne.mpr c
      rw [c2] at h
      simp only [Bool.cond_false, cond_false] at h
      exact idx_ne (ks := r) (by omega) (by simpa using h2)
theorem idx_at {N : List Wish} {r : Wish} (h : r ∈ N) : (N.map dWish)[N.idxOf r]? = some (dWish r) ∧ ∀ (m : Nat) (z : PyData), m < N.idxOf r → (N.map dWish)[m]? = some z → PyData.eqv z (dWish r) = false := by
  have hlt : N.idxOf r < N.length := List.idxOf_lt_length_iff.mpr h
  refine ⟨?_, fun m z hm hz => ?_⟩
  · rw [List.getElem?_map, List.getElem?_eq_getElem hlt, List.getElem_idxOf hlt]
    rfl
  · have hml : m < N.length := by omega
    rw [List.getElem?_map, List.getElem?_eq_getElem hml] at hz
    obtain rfl := Option.some.inj hz
    rw [eqv_wish]
    exact decide_eq_false (idx_ne hm hml)
end Ns
namespace Km
open PySem PySem.Spec PyProof.Rows L2 Ns
abbrev sIndexed : Stmt := top 43
def spIndexed (K : PySem.W.Frag) (m : Nat) : Sp := fun vs H Q _ => ∃ (x : V) (l : Addr) (t : WT) (N : List Wish), vs = [x, .ref l] ∧ WRep K H x t ∧ RowsL K H l N ∧ (∀ r ∈ t.rows, r ∈ N) ∧ t.high ≤ m ∧ ∀ y H', Same H H' → LRep K H' y (t.idx N) → Q y H'
theorem scIndexed : FnScope ["_law_paper", "_law_wishes"] ["_law_paper", "_law_wishes"] (defScope sIndexed) := ⟨rfl, rfl, rfl, by decide +kernel, rfl, by decide +kernel, by decide +kernel⟩
section
variable {P : Program} {w : World} {K : PySem.W.Frag} {mg : Str → Option Value} {base : Heap} {f : Addr} {fd : FuncData}
theorem ok_indexed {m : Nat} (F : Fun K "_law_indexed" "_law_indexed" sIndexed f fd) (b0 : Binds K fd ["_law_paper", "_law_wishes"] []) (m0 : mg "_law_indexed" = some (.ref f))
    (G : FnOk P w K mg base CX0 m f fd ["_law_paper", "_law_wishes"] (spIndexed K m)) : FnOk P w K mg base CX0 (m + 1) f fd ["_law_paper", "_law_wishes"] (spIndexed K (m + 1)) := by
  refine F.ok scIndexed (fun vs H Q E h => ?_) (fun cdv A outer s H vs Q E hr h => ?_)
  · obtain ⟨x, l, t, N, rfl, _⟩ := h
    rfl
  obtain ⟨x, l, t, N, rfl, hT, hL, hN, hm, q⟩ := h
  have nd := scIndexed.nd
  have hu : (A.deeper (envOfC "_law_indexed" (defScope sIndexed) s.heap.objs.size f cdv)).units + 65 < cLine := by have := hr.un; omega
  refine ⟨_, pss_cons (ps_if (pt_cmpR op_eq (pe_ix ix_tup (pv 0) pe_int (fun _ _ => rfl)) pe_str (nomark _))
      (pss_one (ps_ret (pe_tup (pa_cons pe_str (pa_cons (pe_bm PySem.F.plainAttrs_list PySem.F.slot_list_index PySem.F.type_list_index (mt_indexD hu) (pv 1) (pa_cons (pe_ix ix_tup (pv 0) pe_int (fun _ _ => rfl)) pa_nil)) pa_nil))))) pss_nil)
    (pss_one (ps_ret (pe_tup (pa_cons pe_str (pa_cons (pe_ix ix_tup (pv 0) pe_int (fun _ _ => rfl)) (pa_cons (pe_ix ix_tup (pv 0) pe_int (fun _ _ => rfl))
      (pa_cons (pe_call G hr rfl m0 F.kp b0 .nil pass0 (pa_cons (pe_ix ix_tup (pv 0) pe_int (fun _ _ => rfl)) (pa_cons (pv 1) pa_nil)))
      (pa_cons (pe_call G hr rfl m0 F.kp b0 .nil pass0 (pa_cons (pe_ix ix_tup (pv 0) pe_int (fun _ _ => rfl)) (pa_cons (pv 1) pa_nil))) pa_nil)))))))), ?_⟩
  cases t with
  | leaf r =>
    obtain ⟨b, c, rfl, hb, hW⟩ := hT
    obtain ⟨M, hM, hS, hE⟩ := hL
    have hr : r ∈ N := hN r (List.mem_singleton.mpr rfl)
    obtain ⟨i1, i2⟩ := idx_at hr
    refine ⟨_, rfl, b, _, 0, _, rfl, rfl, SqT.of hb, atI_nat (j := 0) rfl, rfl, _, rfl, iteD rfl ?_⟩
    refine ⟨_, rfl, .inl ⟨rfl, _, hS⟩, _, rfl, b, _, 1, _, rfl, rfl, SqT.of hb, atI_nat (j := 1) rfl, ?_⟩
    refine ⟨l, _, dWish r, N.map dWish, N.idxOf r, dWish r, rfl, rfl, .lst hS (by rw [← hM]; exact dp_rows M hE), dp_wish hW, rows_shaped N, wish_shaped r, i1, by rw [eqv_wish]; exact decide_eq_true rfl, i2, ?_⟩
    refine ⟨by show 2 ≤ sizeLine; decide, fun p hp => q _ _ (same_new hp _) ⟨p, rfl, upd_same⟩⟩
  | node nm line lt rt =>
    obtain ⟨b, c, vl, vr, rfl, hb, hW, hl, hr2⟩ := hT
    have g1 : max lt.high rt.high + 1 ≤ m + 1 := hm
    have g2 := Nat.le_max_left lt.high rt.high
    have g3 := Nat.le_max_right lt.high rt.high
    refine ⟨_, rfl, b, _, 0, _, rfl, rfl, SqT.of hb, atI_nat (j := 0) rfl, rfl, _, rfl, iteND wf_ne ?_⟩
    refine ⟨_, rfl, b, _, 1, _, rfl, rfl, SqT.of hb, atI_nat (j := 1) rfl, _, rfl, b, _, 2, _, rfl, rfl, SqT.of hb, atI_nat (j := 2) rfl, ?_⟩
    refine ⟨_, rfl, b, _, 3, _, rfl, rfl, SqT.of hb, atI_nat (j := 3) rfl, _, rfl, vl, l, lt, N, rfl, hl, hL, fun r hr => hN r (List.mem_append_left _ hr), by omega, fun y1 H1 s1 h1 => ?_⟩
    refine ⟨_, rfl, b, _, 4, _, rfl, rfl, SqT.of (s1 _ _ hb), atI_nat (j := 4) rfl, _, rfl, vr, l, rt, N, rfl, hr2.same s1, hL.same s1, fun r hr => hN r (List.mem_append_right _ hr), by omega, fun y2 H2 s2 h2 => ?_⟩
    refine ⟨by show 5 ≤ sizeLine; decide, fun p hp => ?_⟩
    have s3 := same_new hp (.tup [.str "from", .int nm, .ref c, y1, y2])
    have s13 := s1.trans (s2.trans s3)
    exact q _ _ s13 ⟨p, c, y1, y2, rfl, upd_same, hW.same s13, h1.same (s2.trans s3), h2.same s3⟩
theorem indexed0 {ps : List Str} : FnOk P w K mg base CX0 0 f fd ps (spIndexed K 0) := by
  have no : ∀ vs H Q E, ¬ spIndexed K 0 vs H Q E := fun vs H Q E h => by
    obtain ⟨x, l, t, N, _, _, _, _, h1, _⟩ := h
    cases t <;> simp [Ns.WT.high] at h1
  exact ⟨fun vs H Q E h => absurd h (no vs H Q E), fun A outer s H args us vs Q E _ _ _ _ h => absurd h (no vs H Q E)⟩
theorem all_indexed (F : Fun K "_law_indexed" "_law_indexed" sIndexed f fd) (b : Binds K fd ["_law_paper", "_law_wishes"] []) (m : mg "_law_indexed" = some (.ref f)) : ∀ n : Nat, FnOk P w K mg base CX0 n f fd ["_law_paper", "_law_wishes"] (spIndexed K n)
  | 0 => indexed0
  | n + 1 => ok_indexed F b m (all_indexed F b m n)
end
end Km
/-! KmSpLine -/
set_option Elab.async false
set_option linter.all false
set_option maxRecDepth 100000
set_option maxHeartbeats 2000000
namespace Ns
open PySem PySem.Spec PyProof.Rows L2
theorem eachV_drop {R : V → Word → Prop} : ∀ (i : Nat) {xs : List V} {r : Wish}, WishH.EachV R xs r → WishH.EachV R (xs.drop i) (r.drop i)
  | 0, _, _, h => h
  | i + 1, [], [], _ => trivial
  | i + 1, [], _ :: _, z => z.elim
  | i + 1, _ :: _, [], z => z.elim
  | i + 1, _ :: xs, _ :: r, z => eachV_drop i (xs := xs) (r := r) z.2
theorem eachV_take {R : V → Word → Prop} : ∀ (i : Nat) {xs : List V} {r : Wish}, WishH.EachV R xs r → WishH.EachV R (xs.take i) (r.take i)
  | 0, _, _, _ => trivial
  | i + 1, [], [], _ => trivial
  | i + 1, [], _ :: _, z => z.elim
  | i + 1, _ :: _, [], z => z.elim
  | i + 1, _ :: xs, _ :: r, z => ⟨z.1, eachV_take i (xs := xs) (r := r) z.2⟩
theorem eachV_app {R : V → Word → Prop} : ∀ {xs ys : List V} {r q : Wish}, WishH.EachV R xs r → WishH.EachV R ys q → WishH.EachV R (xs ++ ys) (r ++ q)
  | [], _, [], _, _, h => h
  | [], _, _ :: _, _, z, _ => z.elim
  | _ :: _, _, [], _, z, _ => z.elim
  | _ :: _, _, _ :: _, _, z, h => ⟨z.1, eachV_app z.2 h⟩
theorem sl_wish {K : PySem.W.Frag} {H : Hp} {c : Addr} {r : Wish} {lo hi : Option Int} {Q : VK} (hW : WishH K H c r) (q : ∀ p H' r', Same H H' → WishH K H' p r' → r'.length ≤ r.length → Q (.ref p) H') : rSlA K (.ref c) lo hi H Q := by
  obtain ⟨xs, hS, hE⟩ := hW
  have lx := eachV_len hE
  refine ⟨c, xs, rfl, hS, fun _ => q c H r (Same.refl H) ⟨xs, hS, hE⟩ (Nat.le_refl _), fun _ p hp => ?_⟩
  have s1 := same_new hp (.tup (cutV xs lo hi))
  refine q p _ ((r.drop (HT.sIx xs.length 0 lo)).take (HT.sIx xs.length xs.length hi - HT.sIx xs.length 0 lo)) s1 ⟨_, SqT.of upd_same, ?_⟩ ?_
  · exact eachV_mono (fun x p => WordH.same s1) (eachV_take _ (eachV_drop _ hE))
  · rw [List.length_take, List.length_drop]
    omega
theorem cat_wish {K : PySem.W.Frag} {H : Hp} {c d : Addr} {r r2 : Wish} {Q : VK} (hW : WishH K H c r) (hW2 : WishH K H d r2) (hl : r.length + r2.length ≤ 5000) (q : ∀ p H', Same H H' → WishH K H' p (r ++ r2) → Q (.ref p) H') : rCatA K (.ref c) (.ref d) H Q := by
  obtain ⟨xs, hS, hE⟩ := hW
  obtain ⟨ys, hS2, hE2⟩ := hW2
  have lx := eachV_len hE
  have ly := eachV_len hE2
  refine ⟨c, d, xs, ys, rfl, rfl, hS, hS2, Nat.le_trans (show xs.length + ys.length ≤ 5000 by omega) (by decide), fun e => ?_, fun _ e => ?_, fun _ _ p hp => ?_⟩
  · subst e
    have e2 : r = [] := List.eq_nil_of_length_eq_zero lx.symm
    subst e2
    exact q d H (Same.refl H) ⟨ys, hS2, hE2⟩
  · subst e
    have e2 : r2 = [] := List.eq_nil_of_length_eq_zero ly.symm
    subst e2
    exact q c H (Same.refl H) ⟨xs, hS, by rw [List.append_nil]; exact hE⟩
  · have s1 := same_new hp (.tup (xs ++ ys))
    exact q p _ s1 ⟨_, SqT.of upd_same, eachV_mono (fun x p => WordH.same s1) (eachV_app hE hE2)⟩
theorem word_pair {K : PySem.W.Frag} {H : Hp} {x : V} {p : Word} (h : WordH K H x p) : pairAt H x = p ∧ ∃ t, x = .ref t ∧ H t = some (.tup [.int p.1, .int p.2]) := by
  obtain ⟨a, rfl, h⟩ := h
  exact ⟨pairAt_of h, a, rfl, h⟩
/-- all words of a row are pairs of ints that stand in the heap -/
theorem eachV_pairs {K : PySem.W.Frag} {H : Hp} : ∀ {xs : List V} {r : Wish}, WishH.EachV (WordH K H) xs r → r = xs.map (pairAt H) ∧ ∀ x ∈ xs, ∃ t, x = V.ref t ∧ H t = some (.tup [.int (pairAt H x).1, .int (pairAt H x).2])
  | [], [], _ => ⟨rfl, fun x hx => nomatch hx⟩
  | [], _ :: _, z => z.elim
  | _ :: _, [], z => z.elim
  | x :: xs, p :: r, z => by
    obtain ⟨e1, e2⟩ := eachV_pairs z.2
    obtain ⟨h1, t, h2, h3⟩ := word_pair z.1
    refine ⟨by rw [List.map_cons, h1, ← e1], fun y hy => ?_⟩
    rcases List.mem_cons.mp hy with e | e
    · rw [e, h1]
      exact ⟨t, h2, h3⟩
    · exact e2 y e
theorem pairs_eachV {K : PySem.W.Frag} {H : Hp} : ∀ {xs : List V}, (∀ x ∈ xs, ∃ t, x = V.ref t ∧ H t = some (.tup [.int (pairAt H x).1, .int (pairAt H x).2])) → WishH.EachV (WordH K H) xs (xs.map (pairAt H))
  | [], _ => trivial
  | x :: xs, h => ⟨by obtain ⟨t, e, e2⟩ := h x List.mem_cons_self; exact ⟨t, e, e2⟩, pairs_eachV fun y hy => h y (List.mem_cons_of_mem _ hy)⟩
/-- sorted(row + [word]) -/
theorem sort_words {K : PySem.W.Frag} {H : Hp} {l : Addr} {xs : List V} {r : Wish} {Q : VK} (hL : SqL K H l xs) (hE : WishH.EachV (WordH K H) xs r)
    (q : ∀ p ys r' H', Same H H' → H p = none → H' p = some (.lst ys) → WishH.EachV (WordH K H') ys r' → r'.Perm r → (∀ (i j : Nat) (a b : Word), i < j → r'[i]? = some a → r'[j]? = some b → SrtO.lexB b a = false) → Q (.ref p) H') : rSortedPO K [V.ref l] H Q := by
  obtain ⟨e1, e2⟩ := eachV_pairs hE
  refine ⟨l, xs, pairAt H, rfl, hL, e2, fun ys p hs hb hp => ?_⟩
  have s1 := same_new hp (.lst ys)
  have pm := hb.perm
  have e3 : ∀ x ∈ ys, ∃ t, x = V.ref t ∧ H t = some (.tup [.int (pairAt H x).1, .int (pairAt H x).2]) := fun x hx => e2 x (pm.mem_iff.mp hx)
  refine q p ys (ys.map (pairAt H)) _ s1 hp upd_same (eachV_mono (fun x p => WordH.same s1) (pairs_eachV e3)) (by rw [e1]; exact pm.map _) fun i j a b hij ha hb2 => ?_
  rw [List.getElem?_map] at ha hb2
  cases hi : ys[i]? with
  | none => rw [hi] at ha; cases ha
  | some x =>
    cases hj : ys[j]? with
    | none => rw [hj] at hb2; cases hb2
    | some y =>
      rw [hi] at ha
      rw [hj] at hb2
      obtain rfl := Option.some.inj ha
      obtain rfl := Option.some.inj hb2
      obtain ⟨hi2, rfl⟩ := List.getElem?_eq_some_iff.mp hi
      obtain ⟨hj2, rfl⟩ := List.getElem?_eq_some_iff.mp hj
      exact List.pairwise_iff_getElem.mp hs i j hi2 hj2 hij
end Ns
namespace Km
open PySem PySem.Spec PyProof.Rows L2 Ns
abbrev sSpLine : Stmt := top 47
/-- more names of built-ins -/
structure Blt3 (mg : Str → Option Value) : Prop where
  msor : mg "sorted" = none
  mrev : mg "reversed" = none
  mlis : mg "list" = none
def spSpLine (K : PySem.W.Frag) : Sp := fun vs H Q _ => ∃ (n d o : Int) (c : Addr) (r : Wish), vs = [.int n, .ref c, .int d, .int o] ∧ 1 ≤ n ∧ WishH K H c r ∧ r.length ≤ 200 ∧ ∀ t H' r', Same H H' → WishH K H' t r' → r'.length ≤ 3 * r.length + 1 → Q (.ref t) H'
abbrev nSpLine : List Str := ["_law_names", "_law_line_here", "_law_draw", "_law_other", "_law_at", "_law_name", "_law_way", "_law_bad", "_law_word"]
theorem scSpLine : FnScope nSpLine ["_law_names", "_law_line_here", "_law_draw", "_law_other"] (defScope sSpLine) := ⟨rfl, rfl, rfl, by decide +kernel, rfl, by decide +kernel, by decide +kernel⟩
section
variable {P : Program} {w : World} {K : PySem.W.Frag} {mg : Str → Option Value} {base : Heap} {f : Addr} {fd : FuncData}
theorem ok_spLine {k : Nat} (T : Blt mg) (T2 : Blt2 mg) (T3 : Blt3 mg) (F : Fun K "_law_spoilt_line" "_law_spoilt_line" sSpLine f fd) : FnOk P w K mg base CX0 (k + 1) f fd ["_law_names", "_law_line_here", "_law_draw", "_law_other"] (spSpLine K) := by
  refine F.ok scSpLine (fun vs H Q E h => ?_) (fun cdv A outer s H vs Q E hr h => ?_)
  · obtain ⟨n, d, o, c, r, rfl, _⟩ := h
    rfl
  obtain ⟨n, d, o, c, r, rfl, hn, hW, h200, q⟩ := h
  have nd := scSpLine.nd
  have hu : (A.deeper (envOfC "_law_spoilt_line" (defScope sSpLine) s.heap.objs.size f cdv)).units + 64 < cLine := hr.units
  refine ⟨_, (pss_cons (ps_set (i := 4) nd rfl (Or.inr rfl) (pe_op op_mod (pe_callTy call_int1 rfl T.mint PyProof.Rows.boot_int (pa_cons (pv 3) pa_nil)) (pe_op op_add (pe_callB call_len_seq rfl T.mlen PySem.boot_len (pa_cons (pv 1) pa_nil)) pe_int)))
    (pss_cons (ps_set (i := 5) nd rfl (Or.inl rfl) (pe_op op_add pe_int (pe_op op_mod (pe_callTy call_int1 rfl T.mint PyProof.Rows.boot_int (pa_cons (pv 3) pa_nil)) (pv 0))))
    (pss_cons (ps_set (i := 6) nd rfl (Or.inl rfl) (pe_op op_mod (pe_op op_fdiv (pv 2) pe_int) pe_int))
    (pss_cons (ps_if (pt_cmpR op_eq (pv 6) pe_int (nomark _)) (pss_one (ps_ret (pe_op op_catA (pe_slice sl_tupA (pv 1) po_none (po_some (pv 4))) (pe_slice sl_tupA (pv 1) (po_some (pe_op op_add (pv 4) pe_int)) po_none)))) pss_nil)
    (pss_cons (ps_if (pt_cmpR op_eq (pv 6) pe_int (nomark _)) (pss_one (ps_ret (pe_tupleOf rfl T2.mtup (pe_callB (r := rSortedPO K) cr_sortedPO rfl T3.msor (by decide +kernel) (pa_cons (pe_op op_cat (pe_lc (own := [("_law_word", 8)]) (g := gName 8) (tt := tYes) rfl nd (pi_tup (pv 1)) (blkOk_by (N := nSpLine) (sc := defScope sSpLine) (by decide +kernel)) (fun _ _ _ _ _ => pg_name (i := 8) nd rfl (Or.inl rfl)) (fun _ _ _ _ _ => pts_nil) (fun _ _ _ _ _ => pv 8)) (pe_lst (pa_cons (pe_tup (pa_cons (pv 5) (pa_cons (pe_op op_mod (pe_op op_fdiv (pv 3) pe_int) pe_int) pa_nil))) pa_nil))) pa_nil))))) pss_nil)
    (pss_cons (ps_if (pt_cmpR op_eq (pv 6) pe_int (nomark _)) (pss_one (ps_ret (pe_tupleOf rfl T2.mtup (pe_lc (own := [("_law_word", 8)]) (g := gName 8) (tt := tYes) rfl nd (pi_reversed rfl T3.mrev (pa_cons (pe_callTy call_list_of rfl T3.mlis PyProof.Rows.boot_list (pa_cons (pv 1) pa_nil)) pa_nil)) (blkOk_by (N := nSpLine) (sc := defScope sSpLine) (by decide +kernel)) (fun _ _ _ _ _ => pg_name (i := 8) nd rfl (Or.inl rfl)) (fun _ _ _ _ _ => pts_nil) (fun _ _ _ _ _ => pv 8))))) pss_nil)
    (pss_cons (ps_if (pt_cmpR op_eq (pv 6) pe_int (nomark _)) (pss_one (ps_ret (pe_op op_catA (pe_op op_catA (pe_slice sl_tupA (pv 1) po_none (po_some (pv 4))) (pe_slice sl_tupA (pe_slice sl_tupA (pv 1) po_none (po_some (pv 4))) (po_some (pe_op op_sub (pe_callB call_len_seq rfl T.mlen PySem.boot_len (pa_cons (pe_slice sl_tupA (pv 1) po_none (po_some (pv 4))) pa_nil)) pe_int)) po_none)) (pe_slice sl_tupA (pv 1) (po_some (pv 4)) po_none)))) pss_nil)
    (pss_cons (ps_if (pt_cmpR op_eq (pv 6) pe_int (nomark _)) (pss_cons (ps_set (i := 7) nd rfl (Or.inl rfl) (pe_ix ix_list (pe_lst (pa_cons (pe_tup (pa_cons pe_int (pa_cons pe_int pa_nil))) (pa_cons (pe_tup (pa_cons (pe_op op_add (pv 0) pe_int) (pa_cons pe_int pa_nil))) (pa_cons (pe_tup (pa_cons (pv 5) (pa_cons pe_int pa_nil))) (pa_cons (pe_tup (pa_cons (pv 5) (pa_cons (pe_op op_sub pe_int pe_int) pa_nil))) (pa_cons (pe_tup (pa_cons (pe_op op_add (pe_op op_add (pv 0) pe_int) (pv 3)) (pa_cons pe_int pa_nil))) pa_nil)))))) (pe_op op_mod (pe_callTy call_int1 rfl T.mint PyProof.Rows.boot_int (pa_cons (pv 3) pa_nil)) pe_int) (fun _ _ => rfl)))
    (pss_one (ps_ret (pe_op op_catA (pe_op op_catA (pe_slice sl_tupA (pv 1) po_none (po_some (pv 4))) (pe_tup (pa_cons (pv 7) pa_nil))) (pe_slice sl_tupA (pv 1) (po_some (pv 4)) po_none))))) pss_nil)
    (pss_one (ps_ret (pe_tupleOf rfl T2.mtup (pe_lc (own := [("_law_word", 8)]) (g := gName 8) (tt := tYes) rfl nd (pi_tup (pv 1)) (blkOk_by (N := nSpLine) (sc := defScope sSpLine) (by decide +kernel)) (fun _ _ _ _ _ => pg_name (i := 8) nd rfl (Or.inl rfl)) (fun _ _ _ _ _ => pts_nil) (fun _ _ _ _ _ => pe_ifExp (pt_cmpR (r := rInW K) (op_inW hu) (pv 8) (pe_slice (r := rSlA K) sl_tupA (pv 1) (po_some (pv 4)) (po_some (pe_op op_add (pv 4) pe_int))) (by with_unfolding_all rfl)) (pe_tup (pa_cons (pe_ix (r := rIxT K) ix_tup (pv 8) pe_int (fun _ _ => rfl)) (pa_cons (pe_op op_sub pe_int (pe_ix (r := rIxT K) ix_tup (pv 8) pe_int (fun _ _ => rfl))) pa_nil))) (pv 8)))))))))))))), ?_⟩
  have hW0 := hW
  obtain ⟨xs, hS, hE⟩ := hW
  have lx := eachV_len hE
  refine ⟨_, rfl, .inl ⟨_, rfl, _, rfl, c, _, rfl, .inr hS, _, _, rfl, rfl, _, _, rfl, rfl, (by show (0 : Int) < (xs.length : Int) + 1; omega), ?_⟩⟩
  refine ⟨_, rfl, .inl ⟨_, rfl, _, rfl, _, _, rfl, rfl, (by show 0 < n; omega), _, _, rfl, rfl, ?_⟩⟩
  refine ⟨_, rfl, _, _, rfl, rfl, ⟨by decide, by decide⟩, _, _, rfl, rfl, (by show (0 : Int) < 6; decide), ?_⟩
  refine ⟨_, rfl, rfl, _, rfl, ite2 (fun c0 => ?_) (fun c0 => ?_)⟩
  · refine ⟨_, rfl, _, rfl, _, rfl, sl_wish hW0 fun p1 H1 r1 s1 h1 l1 => ?_⟩
    refine ⟨_, rfl, _, rfl, _, _, rfl, rfl, _, rfl, ?_⟩
    dsimp only [tNoPart]
    refine sl_wish (hW0.same s1) fun p2 H2 r2 s2 h2 l2 => ?_
    exact cat_wish (h1.same s2) h2 (by omega) fun p3 H3 s3 h3 => q p3 H3 _ (s1.trans (s2.trans s3)) h3 (by rw [List.length_append]; omega)
  refine ⟨_, rfl, rfl, _, rfl, ite2 (fun c1 => ?_) (fun c1 => ?_)⟩
  · refine ⟨_, rfl, c, rfl, ⟨xs, hS⟩, fun D hD => ?_⟩
    refine lc_tup (K := K) (xs := xs) (fun i H1 => H1 D = some (.lst (xs.take i)) ∧ Same H H1) ⟨upd_same, same_new hD _⟩ (fun i H1 _ ⟨_, sm⟩ => sqT_same sm hS) ?_ ?_
    · rintro i x H1 hi ⟨eD, sm⟩
      refine ⟨rfl, _, rfl, xs.take i, eD, Nat.lt_of_le_of_lt (show (xs.take i).length ≤ 1000 by rw [List.length_take]; omega) (by decide), ?_, fun b1 u e => ?_⟩
      · rw [upd_same, List.take_succ, hi]
        rfl
      · rw [upd_ne (ne_of_none e hD)]
        exact sm _ _ e
    · rintro H1 ⟨eD, sm⟩
      rw [List.take_length] at eD
      refine ⟨_, rfl, _, rfl, _, _, rfl, rfl, ⟨by decide, by decide⟩, _, _, rfl, rfl, (by show (0 : Int) < 2; decide), by show 2 ≤ sizeLine; decide, fun t ht => ⟨by show 1 ≤ sizeLine; decide, fun l hl => ?_⟩⟩
      have s1 := same_new ht (.tup [.int (1 + o % n), .int (o / 5 % 2)])
      have s2 := same_new hl (.lst [V.ref t])
      refine ⟨D, l, _, _, rfl, rfl, s2 _ _ (s1 _ _ eD), upd_same, Nat.le_trans (show xs.length + 1 ≤ 2000 by omega) (by decide), fun m hm => ?_⟩
      have s3 := same_new hm (.lst (xs ++ [V.ref t]))
      have s13 := s1.trans (s2.trans s3)
      have hE3 : WishH.EachV (WordH K (upd (upd (upd H1 t (.tup [.int (1 + o % n), .int (o / 5 % 2)])) l (.lst [V.ref t])) m (.lst (xs ++ [V.ref t])))) (xs ++ [V.ref t]) (r ++ [(1 + o % n, o / 5 % 2)]) :=
        eachV_snoc (eachV_mono (fun x p => WordH.same (sm.trans s13)) hE) ⟨t, rfl, s3 _ _ (s2 _ _ upd_same)⟩
      dsimp only [tNil]
      refine sort_words (.inl (.inl upd_same)) hE3 fun p ys r' H' s4 hp ep hys pm _ => ?_
      refine .inl ⟨p, ys, rfl, .inl (.inl ep), fun t2 ht2 => ?_⟩
      have s5 := same_new ht2 (.tup ys)
      have lp := pm.length_eq
      rw [List.length_append, List.length_singleton] at lp
      exact q t2 _ r' (sm.trans (s13.trans (s4.trans s5))) ⟨ys, SqT.of upd_same, eachV_mono (fun x p => WordH.same s5) hys⟩ (by omega)
  refine ⟨_, rfl, rfl, _, rfl, ite2 (fun c2 => ?_) (fun c2 => ?_)⟩
  · refine ⟨_, rfl, c, xs, rfl, .inr hS, fun l hl => ⟨l, xs, rfl, .inl (.inl upd_same), fun D hD => ?_⟩⟩
    have s0 := same_new hl (.lst xs)
    refine lc_it (walk_rev (K := K) (a := l) (xs := xs)) (fun i H1 => ∃ (acc : List V) (r' : Wish), H1 D = some (.lst acc) ∧ Same (upd H l (.lst xs)) H1 ∧ WishH.EachV (WordH K H1) acc r' ∧ r'.length = i)
      ⟨[], [], upd_same, same_new hD _, trivial, rfl⟩ (fun i H1 _ ⟨_, _, _, sm, _⟩ => .inl (.inl (sm _ _ upd_same))) ?_ ?_
    · rintro i x H1 H2 hi ⟨acc, r', eD, sm, hA, hl2⟩ ⟨rfl, hx⟩
      obtain ⟨p, hp, hw⟩ := eachV_at hE hx
      have la := eachV_len hA
      have hw1 := hw.same (s0.trans sm)
      refine ⟨rfl, _, rfl, acc, eD, Nat.lt_of_le_of_lt (show acc.length ≤ 1000 by omega) (by decide), acc ++ [x], r' ++ [p], upd_same, fun b1 u e => ?_, ?_, by rw [List.length_append, hl2]; rfl⟩
      · rw [upd_ne (ne_of_none e hD)]
        exact sm _ _ e
      · have wO : ∀ x p, WordH K H2 x p → WordH K (upd H2 D (.lst (acc ++ [x]))) x p := fun x p ⟨b, e1, e2⟩ => ⟨b, e1, sqT_offL (K := K) eD e2⟩
        refine eachV_snoc (eachV_mono (fun y p ⟨b, e1, e2⟩ => ⟨b, e1, sqT_offL (K := K) eD e2⟩) hA) ?_
        obtain ⟨b, e1, e2⟩ := hw1
        exact ⟨b, e1, sqT_offL (K := K) eD e2⟩
    · rintro H1 ⟨acc, r', eD, sm, hA, hl2⟩
      refine .inl ⟨D, acc, rfl, .inl (.inl eD), fun t ht => ?_⟩
      have s3 := same_new ht (.tup acc)
      exact q t _ r' (s0.trans (sm.trans s3)) ⟨acc, SqT.of upd_same, eachV_mono (fun x p => WordH.same s3) hA⟩ (by omega)
  refine ⟨_, rfl, rfl, _, rfl, ite2 (fun c3 => ?_) (fun c3 => ?_)⟩
  · refine ⟨_, rfl, _, rfl, _, rfl, sl_wish hW0 fun p1 H1 r1 s1 h1 l1 => ?_⟩
    refine ⟨_, rfl, _, rfl, _, rfl, sl_wish (hW0.same s1) fun p2 H2 r2 s2 h2 l2 => ?_⟩
    refine ⟨_, rfl, _, rfl, _, rfl, sl_wish (hW0.same (s1.trans s2)) fun p3 H3 r3 s3 h3 l3 => ?_⟩
    obtain ⟨ys3, hS3, _⟩ := h3
    refine ⟨p3, ys3, rfl, .inr hS3, _, _, rfl, rfl, _, rfl, ?_⟩
    dsimp only [tNoPart]
    refine sl_wish (h2.same s3) fun p4 H4 r4 s4 h4 l4 => ?_
    have s14 := s1.trans (s2.trans (s3.trans s4))
    refine cat_wish (h1.same (s2.trans (s3.trans s4))) h4 (by omega) fun p5 H5 s5 h5 => ?_
    refine ⟨_, rfl, _, rfl, _, rfl, ?_⟩
    dsimp only [tNoPart]
    refine sl_wish (hW0.same (s14.trans s5)) fun p6 H6 r6 s6 h6 l6 => ?_
    exact cat_wish (h5.same s6) h6 (by rw [List.length_append]; omega) fun p7 H7 s7 h7 => q p7 H7 _ (s14.trans (s5.trans (s6.trans s7))) h7 (by rw [List.length_append, List.length_append]; omega)
  refine ⟨_, rfl, rfl, _, rfl, ite2 (fun c4 => ?_) (fun c4 => ?_)⟩
  · refine ⟨by show 2 ≤ sizeLine; decide, fun t0 ht0 => ⟨_, rfl, _, _, rfl, rfl, by show 2 ≤ sizeLine; decide, fun t1 ht1 => ⟨_, rfl, by show 2 ≤ sizeLine; decide, fun t2 ht2 => ⟨_, rfl, _, _, rfl, rfl, by show 2 ≤ sizeLine; decide, fun t3 ht3 => ⟨_, rfl, _, _, rfl, rfl, _, rfl, _, _, rfl, rfl, by show 2 ≤ sizeLine; decide, fun t4 ht4 => ⟨by show 5 ≤ sizeLine; decide, fun l hl => ?_⟩⟩⟩⟩⟩⟩
    have s0 := same_new ht0 (.tup [.int 0, .int 1])
    have s1 := same_new ht1 (.tup [.int (n + 1), .int 0])
    have s2 := same_new ht2 (.tup [.int (1 + o % n), .int 2])
    have s3 := same_new ht3 (.tup [.int (1 + o % n), .int (0 - 1)])
    have s4 := same_new ht4 (.tup [.int (n + 1 + o), .int 1])
    have s5 := same_new hl (.lst [V.ref t0, V.ref t1, V.ref t2, V.ref t3, V.ref t4])
    obtain ⟨j, hj, hj5⟩ : ∃ j : Nat, o % 5 = (j : Int) ∧ j < 5 := ⟨(o % 5).toNat, by omega, by omega⟩
    have pick : ∃ (x : V) (p : Word), [V.ref t0, V.ref t1, V.ref t2, V.ref t3, V.ref t4][j]? = some x ∧ WordH K (upd (upd (upd (upd (upd (upd H t0 (.tup [.int 0, .int 1])) t1 (.tup [.int (n + 1), .int 0])) t2 (.tup [.int (1 + o % n), .int 2])) t3 (.tup [.int (1 + o % n), .int (0 - 1)])) t4 (.tup [.int (n + 1 + o), .int 1])) l (.lst [V.ref t0, V.ref t1, V.ref t2, V.ref t3, V.ref t4])) x p := by
      have : j = 0 ∨ j = 1 ∨ j = 2 ∨ j = 3 ∨ j = 4 := by omega
      rcases this with rfl | rfl | rfl | rfl | rfl
      · exact ⟨_, (0, 1), rfl, t0, rfl, s5 _ _ (s4 _ _ (s3 _ _ (s2 _ _ (s1 _ _ upd_same))))⟩
      · exact ⟨_, (n + 1, 0), rfl, t1, rfl, s5 _ _ (s4 _ _ (s3 _ _ (s2 _ _ upd_same)))⟩
      · exact ⟨_, (1 + o % n, 2), rfl, t2, rfl, s5 _ _ (s4 _ _ (s3 _ _ upd_same))⟩
      · exact ⟨_, (1 + o % n, 0 - 1), rfl, t3, rfl, s5 _ _ (s4 _ _ upd_same)⟩
      · exact ⟨_, (n + 1 + o, 1), rfl, t4, rfl, s5 _ _ upd_same⟩
    obtain ⟨x, pw, hx, hxw⟩ := pick
    have s05 := s0.trans (s1.trans (s2.trans (s3.trans (s4.trans s5))))
    refine ⟨_, rfl, .inl ⟨_, rfl, _, _, rfl, rfl, (by show (0 : Int) < 5; decide), l, _, _, x, rfl, rfl, .inl (.inl upd_same), atI_of hj hx, ?_⟩⟩
    have HH : True := trivial
    generalize upd (upd (upd (upd (upd (upd H t0 (.tup [.int 0, .int 1])) t1 (.tup [.int (n + 1), .int 0])) t2 (.tup [.int (1 + o % n), .int 2])) t3 (.tup [.int (1 + o % n), .int (0 - 1)])) t4 (.tup [.int (n + 1 + o), .int 1])) l (.lst [V.ref t0, V.ref t1, V.ref t2, V.ref t3, V.ref t4]) = H0 at hxw s05
    refine ⟨_, rfl, _, rfl, _, rfl, sl_wish (hW0.same s05) fun p1 H1 r1 s6 h1 l1 => ?_⟩
    refine ⟨_, rfl, by show 1 ≤ sizeLine; decide, fun tb htb => ?_⟩
    have s7 := same_new htb (.tup [x])
    refine cat_wish (h1.same s7) (r2 := [pw]) ⟨[x], SqT.of upd_same, hxw.same (s6.trans s7), trivial⟩ (by show r1.length + 1 ≤ 5000; omega) fun p2 H2 s8 h2 => ?_
    have s08 := s05.trans (s6.trans (s7.trans s8))
    refine ⟨_, rfl, _, rfl, _, rfl, ?_⟩
    dsimp only [tNoPart]
    refine sl_wish (hW0.same s08) fun p3 H3 r3 s9 h3 l3 => ?_
    exact cat_wish (h2.same s9) h3 (by rw [List.length_append]; show r1.length + 1 + r3.length ≤ 5000; omega) fun p4 H4 s10 h4 => q p4 H4 _ (s08.trans (s9.trans s10)) h4 (by rw [List.length_append, List.length_append]; show r1.length + 1 + r3.length ≤ _; omega)
  · refine ⟨_, rfl, c, rfl, ⟨xs, hS⟩, fun D hD => ?_⟩
    refine lc_tup (K := K) (xs := xs) (fun i H1 => ∃ (acc : List V) (r' : Wish), H1 D = some (.lst acc) ∧ Same H H1 ∧ WishH.EachV (WordH K H1) acc r' ∧ r'.length = i) ⟨[], [], upd_same, same_new hD _, trivial, rfl⟩ (fun i H1 _ ⟨_, _, _, sm, _⟩ => sqT_same sm hS) ?_ ?_
    · rintro i x H1 hi ⟨acc, r', eD, sm, hA, hl2⟩
      obtain ⟨p, hp, hw⟩ := eachV_at hE hi
      have la := eachV_len hA
      have hlt : i < xs.length := (List.getElem?_eq_some_iff.mp hi).1
      have add : ∀ {H2 : Hp} {y : V} {p2 : Word}, Same H1 H2 → WordH K H2 y p2 → ∃ (acc2 : List V) (r2 : Wish), (upd H2 D (.lst (acc ++ [y]))) D = some (.lst acc2) ∧ Same H (upd H2 D (.lst (acc ++ [y]))) ∧ WishH.EachV (WordH K (upd H2 D (.lst (acc ++ [y])))) acc2 r2 ∧ r2.length = i + 1 := by
        intro H2 y p2 s2 hw2
        have eD2 := s2 _ _ eD
        refine ⟨_, r' ++ [p2], upd_same, fun b1 u e => ?_, ?_, by rw [List.length_append, hl2]; rfl⟩
        · rw [upd_ne (ne_of_none e hD)]
          exact s2 _ _ (sm _ _ e)
        · refine eachV_snoc (eachV_mono (fun y p ⟨b, e1, e2⟩ => ⟨b, e1, sqT_offL (K := K) eD2 (s2 _ _ e2)⟩) hA) ?_
          obtain ⟨b, e1, e2⟩ := hw2
          exact ⟨b, e1, sqT_offL (K := K) eD2 e2⟩
      have big : acc.length < sizeLine := Nat.lt_of_le_of_lt (show acc.length ≤ 1000 by omega) (by decide)
      refine ⟨rfl, _, rfl, _, rfl, _, rfl, _, rfl, _, rfl, _, _, rfl, rfl, _, rfl, sl_wish (hW0.same sm) fun p1 H2 r1 s2 h1 l1 => ?_⟩
      refine ⟨p, r1, p1, hw.same (sm.trans s2), rfl, h1, _, rfl, ite2 (fun c6 => ?_) (fun c6 => ?_)⟩
      · obtain ⟨b, rfl, hb⟩ := hw
        have hb2 := (sm.trans s2) _ _ hb
        refine ⟨_, rfl, b, _, 0, _, rfl, rfl, SqT.of hb2, atI_nat (j := 0) rfl, _, rfl, b, _, 1, _, rfl, rfl, SqT.of hb2, atI_nat (j := 1) rfl, _, _, rfl, rfl, by show 2 ≤ sizeLine; decide, fun t ht => ?_⟩
        have s3 := same_new ht (.tup [.int p.1, .int (1 - p.2)])
        exact ⟨acc, (s2.trans s3) _ _ eD, big, add (p2 := (p.1, 1 - p.2)) (s2.trans s3) ⟨t, rfl, upd_same⟩⟩
      · exact ⟨_, rfl, acc, s2 _ _ eD, big, add s2 (hw.same (sm.trans s2))⟩
    · rintro H1 ⟨acc, r', eD, sm, hA, hl2⟩
      refine .inl ⟨D, acc, rfl, .inl (.inl eD), fun t ht => ?_⟩
      have s3 := same_new ht (.tup acc)
      exact q t _ r' (sm.trans s3) ⟨acc, SqT.of upd_same, eachV_mono (fun x p => WordH.same s3) hA⟩ (by omega)
end
end Km
/-! KmSpoilt -/
set_option Elab.async false
set_option linter.all false
set_option maxRecDepth 100000
set_option maxHeartbeats 2000000
namespace Ns
open PySem L2
/-- no line of the tree has more than b words -/
def Fit (b : Nat) : LT → Prop
  | .wish _ => True
  | .frm _ line l r => line.length ≤ b ∧ Fit b l ∧ Fit b r
theorem Fit.mono {b c : Nat} (h : b ≤ c) : ∀ {t : LT}, Fit b t → Fit c t
  | .wish _, _ => trivial
  | .frm _ line l r, z => ⟨Nat.le_trans z.1 h, z.2.1.mono h, z.2.2.mono h⟩
theorem Fit.thin : ∀ {t : LT}, Fit 900 t → Thin t
  | .wish _, _ => trivial
  | .frm _ line l r, z => ⟨z.1, z.2.1.thin, z.2.2.thin⟩
/-- a leaf, or a tree over some names -/
def Named (n : Int) : LT → Prop
  | .wish _ => True
  | .frm .. => 1 ≤ n
end Ns
namespace Km
open PySem PySem.Spec PyProof.Rows L2 Ns
abbrev sSpoilt : Stmt := top 48
def spSpoilt (K : PySem.W.Frag) : Sp := fun vs H Q _ => ∃ (n m d o : Int) (x : V) (t : LT) (b : Nat), vs = [.int n, .int m, x, .int d, .int o] ∧ 1 ≤ m ∧ LRep K H x t ∧ Named n t ∧ Fit b t ∧ b ≤ 200 ∧
  ∀ y t' H', Same H H' → LRep K H' y t' → t'.size ≤ t.size → t'.high ≤ t.high → Fit (3 * b + 1) t' → Named n t' → Q y H'
theorem scSpoilt : FnScope ["_law_names", "_law_many", "_law_node_here", "_law_draw", "_law_other", "_law_way"] ["_law_names", "_law_many", "_law_node_here", "_law_draw", "_law_other"] (defScope sSpoilt) := ⟨rfl, rfl, rfl, by decide +kernel, rfl, by decide +kernel, by decide +kernel⟩
section
variable {P : Program} {w : World} {K : PySem.W.Frag} {mg : Str → Option Value} {base : Heap} {f : Addr} {fd : FuncData}
theorem ok_spoilt {fS : Addr} {fdS : FuncData} (T : Blt mg) (F : Fun K "_law_spoilt" "_law_spoilt" sSpoilt f fd)
    (GS : FnOk P w K mg base CX0 1 fS fdS ["_law_names", "_law_line_here", "_law_draw", "_law_other"] (spSpLine K)) (kS : PySem.W.keepIn K (.ref fS) = true) (bS : Binds K fdS ["_law_names", "_law_line_here", "_law_draw", "_law_other"] []) (mS : mg "_law_spoilt_line" = some (.ref fS)) :
    FnOk P w K mg base CX0 2 f fd ["_law_names", "_law_many", "_law_node_here", "_law_draw", "_law_other"] (spSpoilt K) := by
  refine F.ok scSpoilt (fun vs H Q E h => ?_) (fun cdv A outer s H vs Q E hr h => ?_)
  · obtain ⟨n, m, d, o, x, t, b, rfl, _⟩ := h
    rfl
  obtain ⟨n, m, d, o, x, t, b, rfl, hm, hT, hn, hF, hb200, q⟩ := h
  have nd := scSpoilt.nd
  refine ⟨_, (pss_cons (ps_if (pt_cmpR op_eq (pe_ix ix_tup (pv 2) pe_int (fun _ _ => rfl)) pe_str (nomark _)) (pss_one (ps_ret (pe_tup (pa_cons pe_str (pa_cons (pe_ix ix_list (pe_lst (pa_cons (pe_op op_add (pv 1) (pv 4)) (pa_cons (pe_op op_sub (pe_op op_sub pe_int pe_int) (pv 4)) (pa_cons (pe_op op_mod (pe_callTy call_int1 rfl T.mint PyProof.Rows.boot_int (pa_cons (pv 4) pa_nil)) (pv 1)) (pa_cons (pv 1) (pa_cons (pe_op op_mod (pe_callTy call_int1 rfl T.mint PyProof.Rows.boot_int (pa_cons (pe_op op_add (pv 4) pe_int) pa_nil)) (pv 1)) pa_nil)))))) (pe_op op_mod (pv 3) pe_int) (fun _ _ => rfl)) pa_nil))))) pss_nil)
    (pss_cons (ps_set (i := 5) nd rfl (Or.inl rfl) (pe_op op_mod (pv 3) pe_int))
    (pss_cons (ps_if (pt_cmpR op_eq (pv 5) pe_int (nomark _)) (pss_one (ps_ret (pe_tup (pa_cons pe_str (pa_cons (pe_ix ix_list (pe_lst (pa_cons pe_int (pa_cons (pe_op op_sub (pe_op op_sub pe_int pe_int) (pv 4)) (pa_cons (pe_op op_add (pv 0) pe_int) (pa_cons (pe_op op_add (pe_op op_add (pv 0) pe_int) (pv 4)) pa_nil))))) (pe_op op_mod (pe_op op_fdiv (pv 3) pe_int) pe_int) (fun _ _ => rfl)) (pa_cons (pe_ix ix_tup (pv 2) pe_int (fun _ _ => rfl)) (pa_cons (pe_ix ix_tup (pv 2) pe_int (fun _ _ => rfl)) (pa_cons (pe_ix ix_tup (pv 2) pe_int (fun _ _ => rfl)) pa_nil)))))))) pss_nil)
    (pss_cons (ps_if (pt_cmpR op_lt (pv 5) pe_int (nomark _)) (pss_one (ps_ret (pe_tup (pa_cons pe_str (pa_cons (pe_op op_add pe_int (pe_op op_mod (pe_callTy call_int1 rfl T.mint PyProof.Rows.boot_int (pa_cons (pv 4) pa_nil)) (pv 0))) (pa_cons (pe_ix ix_tup (pv 2) pe_int (fun _ _ => rfl)) (pa_cons (pe_ix ix_tup (pv 2) pe_int (fun _ _ => rfl)) (pa_cons (pe_ix ix_tup (pv 2) pe_int (fun _ _ => rfl)) pa_nil)))))))) pss_nil)
    (pss_cons (ps_if (pt_cmpR op_eq (pv 5) pe_int (nomark _)) (pss_one (ps_ret (pe_tup (pa_cons pe_str (pa_cons (pe_ix ix_tup (pv 2) pe_int (fun _ _ => rfl)) (pa_cons (pe_ix ix_tup (pv 2) pe_int (fun _ _ => rfl)) (pa_cons (pe_ix ix_tup (pv 2) pe_int (fun _ _ => rfl)) (pa_cons (pe_ix ix_tup (pv 2) pe_int (fun _ _ => rfl)) pa_nil)))))))) pss_nil)
    (pss_cons (ps_if (pt_cmpR op_eq (pv 5) pe_int (nomark _)) (pss_one (ps_ret (pe_ix ix_tup (pv 2) (pe_op op_add pe_int (pe_op op_mod (pv 4) pe_int)) (fun _ _ => rfl)))) pss_nil)
    (pss_one (ps_ret (pe_tup (pa_cons pe_str (pa_cons (pe_ix ix_tup (pv 2) pe_int (fun _ _ => rfl)) (pa_cons (pe_call GS hr rfl mS kS bS .nil pass0 (pa_cons (pv 0) (pa_cons (pe_ix ix_tup (pv 2) pe_int (fun _ _ => rfl)) (pa_cons (pv 3) (pa_cons (pv 4) pa_nil))))) (pa_cons (pe_ix ix_tup (pv 2) pe_int (fun _ _ => rfl)) (pa_cons (pe_ix ix_tup (pv 2) pe_int (fun _ _ => rfl)) pa_nil)))))))))))))), ?_⟩
  cases t with
  | wish i =>
    obtain ⟨a, rfl, ha⟩ := hT
    refine ⟨_, rfl, a, _, 0, _, rfl, rfl, SqT.of ha, atI_nat (j := 0) rfl, rfl, _, rfl, iteD rfl ?_⟩
    refine ⟨_, rfl, _, rfl, _, _, rfl, rfl, _, _, rfl, rfl, _, rfl, _, _, rfl, rfl, _, rfl, .inl ⟨_, rfl, _, rfl, _, _, rfl, rfl, (by show 0 < m; omega), _, rfl, _, rfl, _, _, rfl, rfl, .inl ⟨_, rfl, _, rfl, _, _, rfl, rfl, (by show 0 < m; omega), by show 5 ≤ sizeLine; decide, fun l hl => ?_⟩⟩⟩
    obtain ⟨j, hj, hj5⟩ : ∃ j : Nat, d % 5 = (j : Int) ∧ j < 5 := ⟨(d % 5).toNat, by omega, by omega⟩
    have s1 := same_new hl (.lst [V.int (m + o), V.int (0 - 1 - o), V.int (o % m), V.int m, V.int ((o + 1) % m)])
    have pick : ∃ z : Int, [V.int (m + o), V.int (0 - 1 - o), V.int (o % m), V.int m, V.int ((o + 1) % m)][j]? = some (V.int z) := by
      have : j = 0 ∨ j = 1 ∨ j = 2 ∨ j = 3 ∨ j = 4 := by omega
      rcases this with rfl | rfl | rfl | rfl | rfl <;> exact ⟨_, rfl⟩
    obtain ⟨z, hz⟩ := pick
    refine ⟨_, rfl, _, _, rfl, rfl, (by show (0 : Int) < 5; decide), l, _, _, V.int z, rfl, rfl, .inl (.inl upd_same), atI_of hj hz, by show 2 ≤ sizeLine; decide, fun p hp => ?_⟩
    have s2 := same_new hp (.tup [.str "wish", .int z])
    exact q _ (.wish z) _ (s1.trans s2) ⟨p, rfl, upd_same⟩ (Nat.le_refl _) (Nat.le_refl _) trivial trivial
  | frm nm line l r =>
    have hT0 := hT
    obtain ⟨a, c, vl, vr, rfl, ha, hW, hL, hR⟩ := hT
    have hn1 : 1 ≤ n := hn
    obtain ⟨f1, f2, f3⟩ := hF
    have g1 : b ≤ 3 * b + 1 := by omega
    have g2 := f2.mono g1
    have g3 := f3.mono g1
    have at0 : ∀ {H1 : Hp}, Same H H1 → SqT K H1 a [.str "from", .int nm, .ref c, vl, vr] := fun s => SqT.of (s _ _ ha)
    have mk : ∀ {H1 : Hp} {p : Addr} {z : Int} {u1 u2 : V} {t1 t2 : LT} {e : Addr} {ln : Wish}, Same H H1 → H1 p = none → LRep K H1 u1 t1 → LRep K H1 u2 t2 → WishH K H1 e ln → LRep K (upd H1 p (.tup [.str "from", .int z, .ref e, u1, u2])) (.ref p) (.frm z ln t1 t2) := by
      intro H1 p z u1 u2 t1 t2 e ln s1 hp h1 h2 h3
      have s2 := same_new hp (.tup [.str "from", .int z, .ref e, u1, u2])
      exact ⟨p, e, u1, u2, rfl, upd_same, h3.same s2, h1.same s2, h2.same s2⟩
    refine ⟨_, rfl, a, _, 0, _, rfl, rfl, SqT.of ha, atI_nat (j := 0) rfl, rfl, _, rfl, iteND wf_ne ?_⟩
    refine ⟨_, rfl, _, _, rfl, rfl, (by show (0 : Int) < 10; decide), ?_⟩
    refine ⟨_, rfl, rfl, _, rfl, ite2 (fun c0 => ?_) (fun c0 => ?_)⟩
    · refine ⟨_, _, rfl, rfl, _, rfl, _, _, rfl, rfl, _, rfl, _, _, rfl, rfl, _, rfl, _, _, rfl, rfl, _, rfl, _, _, rfl, rfl, by show 4 ≤ sizeLine; decide, fun lo hlo => ?_⟩
      have s1 := same_new hlo (.lst [V.int 0, V.int (0 - 1 - o), V.int (n + 1), V.int (n + 1 + o)])
      obtain ⟨j, hj, hj4⟩ : ∃ j : Nat, d / 10 % 4 = (j : Int) ∧ j < 4 := ⟨(d / 10 % 4).toNat, by omega, by omega⟩
      have pick : ∃ z : Int, [V.int 0, V.int (0 - 1 - o), V.int (n + 1), V.int (n + 1 + o)][j]? = some (V.int z) := by
        have : j = 0 ∨ j = 1 ∨ j = 2 ∨ j = 3 := by omega
        rcases this with rfl | rfl | rfl | rfl <;> exact ⟨_, rfl⟩
      obtain ⟨z, hz⟩ := pick
      refine ⟨_, rfl, _, _, rfl, rfl, ⟨by decide, by decide⟩, _, _, rfl, rfl, (by show (0 : Int) < 4; decide), lo, _, _, V.int z, rfl, rfl, .inl (.inl upd_same), atI_of hj hz, ?_⟩
      refine ⟨_, rfl, a, _, 2, _, rfl, rfl, at0 s1, atI_nat (j := 2) rfl, _, rfl, a, _, 3, _, rfl, rfl, at0 s1, atI_nat (j := 3) rfl, _, rfl, a, _, 4, _, rfl, rfl, at0 s1, atI_nat (j := 4) rfl, by show 5 ≤ sizeLine; decide, fun p hp => ?_⟩
      exact q _ (.frm z line l r) _ (s1.trans (same_new hp _)) (mk s1 hp (hL.same s1) (hR.same s1) (hW.same s1)) (Nat.le_refl _) (Nat.le_refl _) ⟨by omega, g2, g3⟩ hn1
    refine ⟨_, rfl, _, _, rfl, rfl, _, rfl, ite2 (fun c1 => ?_) (fun c1 => ?_)⟩
    · refine ⟨_, rfl, .inl ⟨_, rfl, _, rfl, _, _, rfl, rfl, (by show 0 < n; omega), _, _, rfl, rfl, ?_⟩⟩
      refine ⟨_, rfl, a, _, 2, _, rfl, rfl, SqT.of ha, atI_nat (j := 2) rfl, _, rfl, a, _, 3, _, rfl, rfl, SqT.of ha, atI_nat (j := 3) rfl, _, rfl, a, _, 4, _, rfl, rfl, SqT.of ha, atI_nat (j := 4) rfl, by show 5 ≤ sizeLine; decide, fun p hp => ?_⟩
      exact q _ (.frm (1 + o % n) line l r) _ (same_new hp _) (mk (Same.refl H) hp hL hR hW) (Nat.le_refl _) (Nat.le_refl _) ⟨by omega, g2, g3⟩ hn1
    refine ⟨_, rfl, rfl, _, rfl, ite2 (fun c2 => ?_) (fun c2 => ?_)⟩
    · refine ⟨_, rfl, a, _, 1, _, rfl, rfl, SqT.of ha, atI_nat (j := 1) rfl, _, rfl, a, _, 2, _, rfl, rfl, SqT.of ha, atI_nat (j := 2) rfl, _, rfl, a, _, 4, _, rfl, rfl, SqT.of ha, atI_nat (j := 4) rfl, _, rfl, a, _, 3, _, rfl, rfl, SqT.of ha, atI_nat (j := 3) rfl, by show 5 ≤ sizeLine; decide, fun p hp => ?_⟩
      refine q _ (.frm nm line r l) _ (same_new hp _) (mk (Same.refl H) hp hR hL hW) ?_ ?_ ⟨by omega, g3, g2⟩ hn1
      · show r.size + l.size + 1 ≤ l.size + r.size + 1
        omega
      · show max r.high l.high + 1 ≤ max l.high r.high + 1
        rw [Nat.max_comm]
        exact Nat.le_refl _
    refine ⟨_, rfl, rfl, _, rfl, ite2 (fun c3 => ?_) (fun c3 => ?_)⟩
    · have hh1 := Nat.le_max_left l.high r.high
      have hh2 := Nat.le_max_right l.high r.high
      have sub : ∃ (j : Nat) (y : V) (t' : LT), o % 2 = (j : Int) ∧ [V.str "from", V.int nm, V.ref c, vl, vr][3 + j]? = some y ∧ LRep K H y t' ∧ t'.size ≤ l.size + r.size + 1 ∧ t'.high ≤ max l.high r.high + 1 ∧ Fit (3 * b + 1) t' := by
        by_cases e : o % 2 = 0
        · exact ⟨0, vl, l, e, rfl, hL, by omega, by omega, g2⟩
        · exact ⟨1, vr, r, by omega, rfl, hR, by omega, by omega, g3⟩
      obtain ⟨j, y, t', hj, hy, hT', z1, z2, z3⟩ := sub
      refine ⟨_, rfl, _, rfl, _, _, rfl, rfl, (by show (0 : Int) < 2; decide), _, _, rfl, rfl, a, _, _, y, rfl, rfl, SqT.of ha, atI_of (i := 3 + j) (by show 3 + o % 2 = _; omega) hy, ?_⟩
      exact q y t' H (Same.refl H) hT' z1 z2 z3 (by cases t' with | wish i => trivial | frm _ _ _ _ => exact hn1)
    · refine ⟨_, rfl, a, _, 1, _, rfl, rfl, SqT.of ha, atI_nat (j := 1) rfl, ?_⟩
      refine ⟨_, rfl, _, rfl, a, _, 2, _, rfl, rfl, SqT.of ha, atI_nat (j := 2) rfl, _, rfl, _, rfl, n, d, o, c, line, rfl, hn1, hW, by omega, fun t1 H1 r1 s1 h1 l1 => ?_⟩
      refine ⟨_, rfl, a, _, 3, _, rfl, rfl, at0 s1, atI_nat (j := 3) rfl, _, rfl, a, _, 4, _, rfl, rfl, at0 s1, atI_nat (j := 4) rfl, by show 5 ≤ sizeLine; decide, fun p hp => ?_⟩
      exact q _ (.frm nm r1 l r) _ (s1.trans (same_new hp _)) (mk s1 hp (hL.same s1) (hR.same s1) h1) (Nat.le_refl _) (Nat.le_refl _) ⟨by omega, g2, g3⟩ hn1
end
end Km
/-! KmGrow -/
set_option Elab.async false
set_option linter.all false
set_option maxRecDepth 100000
set_option maxHeartbeats 2000000
namespace Ns
open PySem PySem.Spec PyProof.Rows L2
/-- a grown tree: each line has words of what is allowed -/
def GoodT (n : Int) : Wish → WT → Prop
  | al, .leaf r => (∀ p ∈ r, p ∈ al) ∧ Up r ∧ isR n 0 r = true
  | al, .node nm line l r => (∀ p ∈ line, p ∈ al) ∧ Up line ∧ isR n 0 line = true ∧ 1 ≤ nm ∧ nm ≤ n ∧ nm ∉ line.map (·.1) ∧ GoodT n (line ++ [(nm, 1)]) l ∧ GoodT n (line ++ [(nm, 0)]) r
theorem GoodT.of {n : Int} {al al2 : Wish} (h : ∀ p, p ∈ al → p ∈ al2) : ∀ {t : WT}, GoodT n al t → GoodT n al2 t
  | .leaf r, z => ⟨fun p hp => h p (z.1 p hp), z.2⟩
  | .node nm line l r, z => ⟨fun p hp => h p (z.1 p hp), z.2⟩
theorem isR_len {n : Int} : ∀ (r : Wish) (last : Int), isR n last r = true → (r.length : Int) + last ≤ max n last
  | [], last, _ => by
    show (0 : Int) + last ≤ _
    omega
  | q :: r, last, h => by
    have h2 : (if q.1 ≤ last ∨ q.1 > n ∨ ¬ (q.2 = 0 ∨ q.2 = 1) then false else isR n q.1 r) = true := h
    by_cases c : q.1 ≤ last ∨ q.1 > n ∨ ¬ (q.2 = 0 ∨ q.2 = 1)
    · rw [if_pos c] at h2; cases h2
    · rw [if_neg c] at h2
      have h3 := isR_len r _ h2
      have c1 : ¬ q.1 ≤ last := fun z => c (.inl z)
      have c2 : ¬ q.1 > n := fun z => c (.inr (.inl z))
      rw [List.length_cons]
      omega
theorem isR_mem {n : Int} : ∀ (r : Wish) (last : Int), isR n last r = true → ∀ p ∈ r, last < p.1 ∧ p.1 ≤ n ∧ (p.2 = 0 ∨ p.2 = 1)
  | [], _, _, p, hp => nomatch hp
  | q :: r, last, h, p, hp => by
    have h2 : (if q.1 ≤ last ∨ q.1 > n ∨ ¬ (q.2 = 0 ∨ q.2 = 1) then false else isR n q.1 r) = true := h
    by_cases c : q.1 ≤ last ∨ q.1 > n ∨ ¬ (q.2 = 0 ∨ q.2 = 1)
    · rw [if_pos c] at h2; cases h2
    · rw [if_neg c] at h2
      have c1 : ¬ q.1 ≤ last := fun z => c (.inl z)
      have c2 : ¬ q.1 > n := fun z => c (.inr (.inl z))
      have c3 : q.2 = 0 ∨ q.2 = 1 := Classical.byContradiction fun z => c (.inr (.inr z))
      rcases List.mem_cons.mp hp with e | e
      · subst e
        exact ⟨by omega, by omega, c3⟩
      · have := isR_mem r _ h2 p e
        exact ⟨by omega, this.2⟩
/-- sorted words with different names go up -/
theorem up_of {r q : Wish} (pm : r.Perm q) (nd : (q.map (·.1)).Nodup) (hs : ∀ (i j : Nat) (a b : Word), i < j → r[i]? = some a → r[j]? = some b → SrtO.lexB b a = false) : Up r := by
  have nd2 : (r.map (·.1)).Nodup := (pm.map (·.1)).nodup_iff.mpr nd
  refine List.pairwise_iff_getElem.mpr fun i j hi hj hij => ?_
  have h1 := hs i j _ _ hij (List.getElem?_eq_getElem hi) (List.getElem?_eq_getElem hj)
  have h2 := SrtO.lexB_no.mp h1
  have h3 : r[i].1 ≠ r[j].1 := fun e => by
    have z := List.pairwise_iff_getElem.mp nd2 i j (by rw [List.length_map]; exact hi) (by rw [List.length_map]; exact hj) hij
    exact z (by simpa using e)
  omega
/-- how many leaves a grown tree has at most -/
def leafB (nar : Bool) (dp : Nat) : Nat := if nar then dp + 1 else 2 ^ dp
theorem leafB_pos (nar : Bool) (dp : Nat) : 1 ≤ leafB nar dp := by
  cases nar
  · exact Nat.one_le_two_pow
  · show 1 ≤ dp + 1
    omega
theorem leafB_sum {nar : Bool} {dp : Nat} {d : Int} (h : 0 < dp) : leafB nar (if nar = true ∧ d % 2 = 1 then 0 else dp - 1) + leafB nar (if nar = true ∧ d % 2 = 0 then 0 else dp - 1) ≤ leafB nar dp := by
  cases nar
  · rw [if_neg (fun z => Bool.noConfusion z.1), if_neg (fun z => Bool.noConfusion z.1)]
    show 2 ^ (dp - 1) + 2 ^ (dp - 1) ≤ 2 ^ dp
    obtain ⟨k, rfl⟩ : ∃ k, dp = k + 1 := ⟨dp - 1, by omega⟩
    rw [Nat.add_sub_cancel, Nat.pow_succ]
    omega
  · by_cases c : d % 2 = 1
    · rw [if_pos ⟨rfl, c⟩, if_neg (fun z => by omega)]
      show 0 + 1 + (dp - 1 + 1) ≤ dp + 1
      omega
    · rw [if_neg (fun z => c z.2), if_pos ⟨rfl, by omega⟩]
      show dp - 1 + 1 + (0 + 1) ≤ dp + 1
      omega
end Ns
namespace Km
open PySem PySem.Spec PyProof.Rows L2 Ns
abbrev sGrow : Stmt := top 41
def growSc : Scope := { kind := .function, names := [(".0", .local), ("_law_name", .local), ("_law_line_here", .cell)], isGenerator := false, isCoroutine := false }
abbrev nGrow : List Str := ["_law_draws_here", "_law_names", "_law_allowed", "_law_deep", "_law_narrow", "_law_at", "_law_draw", "_law_other", "_law_line_here", "_law_name", "_law_free", "_law_less", "_law_more", "_law_left", "_law_right", "_law_word"]
abbrev pGrow : List Str := ["_law_draws_here", "_law_names", "_law_allowed", "_law_deep", "_law_narrow", "_law_at"]
theorem scGrow : FnScope nGrow pGrow (defScope sGrow) := ⟨rfl, rfl, rfl, by decide +kernel, rfl, by decide +kernel, by decide +kernel⟩
def spGrow (K : PySem.W.Frag) (m : Nat) : Sp := fun vs H Q _ => ∃ (o c : Addr) (ds : List Int) (n : Int) (al : Wish) (dp at0 : Nat) (nar : Bool), vs = [.ref o, .int n, .ref c, .int dp, .bl nar, .int at0] ∧ H o = some (.lst (ds.map V.int)) ∧ ds.length = 64 ∧ (∀ d ∈ ds, 0 ≤ d ∧ d < 60) ∧
  0 ≤ n ∧ n ≤ 40 ∧ WishH K H c al ∧ Up al ∧ isR n 0 al = true ∧ dp + 1 ≤ m ∧ ∀ p x t (at1 : Nat) H', Same H H' → H' p = some (.tup [x, .int at1]) → WRep K H' x t → GoodT n al t → t.high ≤ dp + 1 → t.rows.length ≤ leafB nar dp → Q (.ref p) H'
theorem pe_weak {X : Cx} {e : Expr} {t t' : TE} (h : PE X e t) (w : ∀ σ H Q, t' σ H Q → t σ H Q) : PE X e t' := ⟨fun pins s σ H Q I q => h.run pins s σ H Q I (w σ H Q q)⟩
theorem pt_weak {X : Cx} {e : Expr} {t t' : TT} (h : PT X e t) (w : ∀ σ H Q, t' σ H Q → t σ H Q) : PT X e t' := ⟨fun pins s σ H Q I q => h.run pins s σ H Q I (w σ H Q q)⟩
/-- the line: all that is allowed, or a part of it -/
def tLineD (K : PySem.W.Frag) : TE := fun σ H Q => ∃ (d2 d1 : Int) (c : Addr) (al : Wish), σ[7]? = some (some (.int d2)) ∧ σ[6]? = some (some (.int d1)) ∧ σ[2]? = some (some (.ref c)) ∧ WishH K H c al ∧ al.length ≤ 900 ∧ ∀ t H' r', Same H H' → WishH K H' t r' → r'.Sublist al → Q (.ref t) H'
theorem w_line {K : PySem.W.Frag} : ∀ σ H Q, tLineD K σ H Q → tIf (tTest (tOp (rI0 fun i j => .bl (decide (j < i))) (tOp (rI (fun _ j => 0 < j) fun i j => .int (i % j)) (tVar 7) (tC (.int 3))) (tC (.int 0)))) (tVar 2) (tCall (spPart K) [] E0 (tCons (tVar 6) (tCons (tVar 2) tNil))) σ H Q := by
  rintro σ H Q ⟨d2, d1, c, al, e7, e6, e2, hW, hl, q⟩
  refine ⟨_, e7, _, _, rfl, rfl, (by show (0 : Int) < 3; decide), _, _, rfl, rfl, _, rfl, ite2 (fun _ => ?_) (fun _ => ?_)⟩
  · exact ⟨_, e2, q c H al (Same.refl H) hW (List.Sublist.refl al)⟩
  · exact ⟨_, e6, _, e2, d1, c, al, rfl, hW, hl, fun t H' r' s1 h1 h2 => q t H' r' s1 h1 h2⟩
/-- tuple(sorted(line + [(name, v)])) -/
def tSrt (K : PySem.W.Frag) (v : Int) : TE := fun σ H Q => ∃ (y0 y1 y2 y3 y4 y5 y6 y7 y10 y11 y12 y13 y14 y15 : Option V) (c : Addr) (line : Wish) (nm : Int), σ = [y0, y1, y2, y3, y4, y5, y6, y7, some (.ref c), some (.int nm), y10, y11, y12, y13, y14, y15] ∧ WishH K H c line ∧ line.length ≤ 900 ∧ Up line ∧ nm ∉ line.map (·.1) ∧
  ∀ t H' r', Same H H' → WishH K H' t r' → r'.Perm (line ++ [(nm, v)]) → Up r' → Q (.ref t) H'
theorem w_srt {K : PySem.W.Frag} {v : Int} : ∀ σ H Q, tSrt K v σ H Q → tThen (tCB (rSortedPO K) (tCons (tOp rCat (tLc (iTup K (tVar 8)) (gName 15) tYes (tVar 15) [15]) (tLst (tCons (tTup (tCons (tVar 9) (tCons (tC (.int v)) tNil))) tNil))) tNil)) (kTup K) σ H Q := by
  rintro σ H Q ⟨y0, y1, y2, y3, y4, y5, y6, y7, y10, y11, y12, y13, y14, y15, c, line, nm, rfl, hW, h900, up, hnm, q⟩
  obtain ⟨xs, hS, hE⟩ := hW
  have lx := eachV_len hE
  refine ⟨_, rfl, c, rfl, ⟨xs, hS⟩, fun D hD => ?_⟩
  refine lc_tup (K := K) (xs := xs) (fun i H1 => H1 D = some (.lst (xs.take i)) ∧ Same H H1) ⟨upd_same, same_new hD _⟩ (fun i H1 _ ⟨_, sm⟩ => sqT_same sm hS) ?_ ?_
  · rintro i x H1 hi ⟨eD, sm⟩
    refine ⟨rfl, _, rfl, xs.take i, eD, Nat.lt_of_le_of_lt (show (xs.take i).length ≤ 1000 by rw [List.length_take]; omega) (by decide), ?_, fun b1 u e => ?_⟩
    · rw [upd_same, List.take_succ, hi]
      rfl
    · rw [upd_ne (ne_of_none e hD)]
      exact sm _ _ e
  · rintro H1 ⟨eD, sm⟩
    rw [List.take_length] at eD
    refine ⟨_, rfl, by show 2 ≤ sizeLine; decide, fun t ht => ⟨by show 1 ≤ sizeLine; decide, fun l hl => ?_⟩⟩
    have s1 := same_new ht (.tup [.int nm, .int v])
    have s2 := same_new hl (.lst [V.ref t])
    refine ⟨D, l, _, _, rfl, rfl, s2 _ _ (s1 _ _ eD), upd_same, Nat.le_trans (show xs.length + 1 ≤ 2000 by omega) (by decide), fun m hm => ?_⟩
    have s3 := same_new hm (.lst (xs ++ [V.ref t]))
    have s13 := s1.trans (s2.trans s3)
    have hE3 : WishH.EachV (WordH K (upd (upd (upd H1 t (.tup [.int nm, .int v])) l (.lst [V.ref t])) m (.lst (xs ++ [V.ref t])))) (xs ++ [V.ref t]) (line ++ [(nm, v)]) :=
      eachV_snoc (eachV_mono (fun x p => WordH.same (sm.trans s13)) hE) ⟨t, rfl, s3 _ _ (s2 _ _ upd_same)⟩
    dsimp only [tNil]
    refine sort_words (.inl (.inl upd_same)) hE3 fun p ys r' H' s4 hp ep hys pm hsrt => ?_
    refine .inl ⟨p, ys, rfl, .inl (.inl ep), fun t2 ht2 => ?_⟩
    have s5 := same_new ht2 (.tup ys)
    refine q t2 _ r' (sm.trans (s13.trans (s4.trans s5))) ⟨ys, SqT.of upd_same, eachV_mono (fun x p => WordH.same s5) hys⟩ pm (up_of pm ?_ hsrt)
    rw [List.map_append]
    refine List.nodup_append.mpr ⟨(List.pairwise_map.mpr (up.imp fun {a b} h => Int.ne_of_lt h)), by simp, fun a ha b hb e => ?_⟩
    have e2 : b = nm := by simpa using hb
    subst e2
    exact hnm (e ▸ ha)
/-- is it a leaf -/
def tLeafT (K : PySem.W.Frag) : TT := fun σ H Q => ∃ (dp d1 : Int) (D c : Addr) (fs xs : List V), σ[3]? = some (some (.int dp)) ∧ σ[6]? = some (some (.int d1)) ∧ σ[10]? = some (some (.ref D)) ∧ σ[2]? = some (some (.ref c)) ∧ SqL K H D fs ∧ SqT K H c xs ∧ ∀ b, (b = false → 0 < dp ∧ 0 < fs.length) → Q b H
abbrev tLen (K : PySem.W.Frag) (t : TE) : TE := tCB (fun xs H Q => ∃ p ys, xs = [V.ref p] ∧ (SqL K H p ys ∨ SqT K H p ys) ∧ Q (.int (ys.length : Int)) H) (tCons t tNil)
theorem w_leaf {K : PySem.W.Frag} : ∀ σ H Q, tLeafT K σ H Q → tOr (tTest (tOp (rI0 fun i j => .bl (decide (i < j))) (tVar 3) (tC (.int 1)))) (tOr (tTest (tOp rEq (tLen K (tVar 10)) (tC (.int 0)))) (tAnd (tTest (tOp (rI0 fun i j => .bl (decide (j < i))) (tLen K (tVar 2)) (tC (.int 0)))) (tTest (tOp rEq (tOp (rI (fun _ j => 0 < j) fun i j => .int (i % j)) (tVar 6) (tC (.int 5))) (tC (.int 4)))))) σ H Q := by
  rintro σ H Q ⟨dp, d1, D, c, fs, xs, e3, e6, eD, ec, hD, hc, q⟩
  refine ⟨_, e3, _, _, rfl, rfl, _, rfl, ?_⟩
  by_cases c0 : dp < 1
  · exact iteD c0 (q true fun z => nomatch z)
  refine iteND c0 ⟨_, eD, D, fs, rfl, .inl hD, rfl, _, rfl, ?_⟩
  by_cases c1 : (fs.length : Int) = 0
  · exact iteD (congrArg V.int c1) (q true fun z => nomatch z)
  have big : 0 < dp ∧ 0 < fs.length := ⟨by omega, by omega⟩
  refine iteND (fun z => c1 (V.int.inj z)) ⟨_, ec, c, xs, rfl, .inr hc, _, _, rfl, rfl, _, rfl, ite2 (fun _ => ?_) (fun _ => q false fun _ => big)⟩
  exact ⟨_, e6, _, _, rfl, rfl, (by show (0 : Int) < 5; decide), rfl, _, rfl, q _ fun _ => big⟩
/-- the depth that is left for a side -/
def tDeepD (k : Int) : TE := fun σ H Q => ∃ (nar : Bool) (d2 dp : Int), σ[4]? = some (some (.bl nar)) ∧ σ[7]? = some (some (.int d2)) ∧ σ[3]? = some (some (.int dp)) ∧ Q (.int (if nar = true ∧ d2 % 2 = k then 0 else dp - 1)) H
theorem w_deep {k : Int} : ∀ σ H Q, tDeepD k σ H Q → tIf (tAnd (tB (tVar 4)) (tTest (tOp rEq (tOp (rI (fun _ j => 0 < j) fun i j => .int (i % j)) (tVar 7) (tC (.int 2))) (tC (.int k))))) (tC (.int 0)) (tOp (rI0 fun i j => .int (i - j)) (tVar 3) (tC (.int 1))) σ H Q := by
  rintro σ H Q ⟨nar, d2, dp, e4, e7, e3, q⟩
  cases nar with
  | false =>
    rw [if_neg (fun z => Bool.noConfusion z.1)] at q
    exact ⟨_, e4, _, rfl, iteF (iteF ⟨_, e3, _, _, rfl, rfl, q⟩)⟩
  | true =>
    refine ⟨_, e4, _, rfl, iteT ⟨_, e7, _, _, rfl, rfl, (by show (0 : Int) < 2; decide), rfl, _, rfl, ?_⟩⟩
    by_cases c : d2 % 2 = k
    · rw [if_pos ⟨rfl, c⟩] at q
      exact iteD (congrArg V.int c) q
    · rw [if_neg (fun z => c z.2)] at q
      exact iteND (fun z => c (V.int.inj z)) ⟨_, e3, _, _, rfl, rfl, q⟩
section
variable {P : Program} {w : World} {K : PySem.W.Frag} {mg : Str → Option Value} {base : Heap} {f : Addr} {fd : FuncData}
theorem ok_grow {m : Nat} {fP : Addr} {fdP : FuncData} (T : Blt mg) (T2 : Blt2 mg) (T3 : Blt3 mg) (F : Fun K "_law_grow" "_law_grow" sGrow f fd) (b0 : Binds K fd pGrow []) (m0 : mg "_law_grow" = some (.ref f))
    (G : FnOk P w K mg base CX0 (m + 1) f fd pGrow (spGrow K m))
    (GP : FnOk P w K mg base CX0 1 fP fdP ["_law_draw", "_law_row"] (spPart K)) (kP : PySem.W.keepIn K (.ref fP) = true) (bP : Binds K fdP ["_law_draw", "_law_row"] []) (mP : mg "_law_part" = some (.ref fP)) :
    FnOk P w K mg base CX0 (m + 2) f fd pGrow (spGrow K (m + 1)) := by
  refine F.ok scGrow (fun vs H Q E h => ?_) (fun cdv A outer s H vs Q E hr h => ?_)
  · obtain ⟨o, c, ds, n, al, dp, at0, nar, rfl, _⟩ := h
    rfl
  obtain ⟨o, c, ds, n, al, dp, at0, nar, rfl, hO, h64, hds, hn0, hn40, hW, up, hR, hdp, q⟩ := h
  have nd := scGrow.nd
  refine ⟨_, (pss_cons (ps_set (i := 6) nd rfl (Or.inl rfl) (pe_ix ix_list (pv 0) (pe_op op_mod (pv 5) (pe_callB call_len_seq rfl T.mlen PySem.boot_len (pa_cons (pv 0) pa_nil))) (fun _ _ => rfl)))
    (pss_cons (ps_set (i := 7) nd rfl (Or.inl rfl) (pe_ix ix_list (pv 0) (pe_op op_mod (pe_op op_add (pe_op op_mul (pv 5) pe_int) pe_int) (pe_callB call_len_seq rfl T.mlen PySem.boot_len (pa_cons (pv 0) pa_nil))) (fun _ _ => rfl)))
    (pss_cons (ps_set (i := 8) nd rfl (Or.inr rfl) (pe_weak (pe_ifExp (pt_cmpR op_gt (pe_op op_mod (pv 7) pe_int) pe_int (nomark _)) (pv 2) (pe_call GP (hr.mono (by omega)) rfl mP kP bP .nil pass0 (pa_cons (pv 6) (pa_cons (pv 2) pa_nil)))) w_line))
    (pss_cons (ps_setLc (i := 10) (own := [("_law_name", 9)]) (g := gName 9) (tt := tTest (tOp (rIn K true) (tVar 9) (tLc (iTup K (tVar 8)) (gName 15) tYes (tOp (rIxT K) (tVar 15) (tC (.int 0))) [15]))) rfl nd rfl rfl (sw_true rfl rfl rfl (by decide +kernel)) (pi_range2 rfl T.mran (pa_cons pe_int (pa_cons (pe_op op_add (pv 1) pe_int) pa_nil))) (blkOk_by (N := nGrow) (sc := defScope sGrow) (by decide +kernel)) (fun _ _ _ _ _ => pg_name (i := 9) nd rfl (Or.inl rfl)) (fun _ _ _ _ _ => pts_one (pt_cmpR (r := rIn K true) op_notIn_seq (pv 9) (pe_lc (own := [("_law_word", 15)]) (g := gName 15) (tt := tYes) (te := tOp (rIxT K) (tVar 15) (tC (.int 0))) rfl nd (pi_tup (pv 8)) (blkOk_by (N := nGrow) (sc := growSc) (by decide +kernel)) (fun _ _ _ _ _ => pg_name (i := 15) nd rfl (Or.inl rfl)) (fun _ _ _ _ _ => pts_nil) (fun _ _ _ _ _ => pe_ix (r := rIxT K) ix_tup (pv 15) pe_int (fun _ _ => rfl))) (by with_unfolding_all rfl))) (fun _ _ _ _ _ => pv 9))
    (pss_cons (ps_if (pt_weak (PW.pt (pw_or (pt_cmpR op_lt (pv 3) pe_int (nomark _)) (pw_or (pt_cmpR op_eq (pe_callB call_len_seq rfl T.mlen PySem.boot_len (pa_cons (pv 10) pa_nil)) pe_int (nomark _)) (pw_or1 (PW.pt (pw_and (pt_cmpR op_gt (pe_callB call_len_seq rfl T.mlen PySem.boot_len (pa_cons (pv 2) pa_nil)) pe_int (nomark _)) (pw_and1 (pt_cmpR op_eq (pe_op op_mod (pv 6) pe_int) pe_int (nomark _))))))))) w_leaf) (pss_one (ps_ret (pe_tup (pa_cons (pe_tup (pa_cons pe_str (pa_cons (pe_ifExp (pt_cmpR op_gt (pe_callB call_len_seq rfl T.mlen PySem.boot_len (pa_cons (pv 8) pa_nil)) pe_int (nomark _)) (pv 8) (pv 2)) pa_nil))) (pa_cons (pe_op op_add (pv 5) pe_int) pa_nil))))) pss_nil)
    (pss_cons (ps_set (i := 9) nd rfl (Or.inl rfl) (pe_ix ix_list (pv 10) (pe_op op_mod (pe_op op_add (pv 6) (pv 7)) (pe_callB call_len_seq rfl T.mlen PySem.boot_len (pa_cons (pv 10) pa_nil))) (fun _ _ => rfl)))
    (pss_cons (ps_set (i := 11) nd rfl (Or.inl rfl) (pe_weak (pe_tupleOf rfl T2.mtup (pe_callB (r := rSortedPO K) cr_sortedPO rfl T3.msor (by decide +kernel) (pa_cons (pe_op op_cat (pe_lc (own := [("_law_word", 15)]) (g := gName 15) (tt := tYes) rfl nd (pi_tup (pv 8)) (blkOk_by (N := nGrow) (sc := defScope sGrow) (by decide +kernel)) (fun _ _ _ _ _ => pg_name (i := 15) nd rfl (Or.inl rfl)) (fun _ _ _ _ _ => pts_nil) (fun _ _ _ _ _ => pv 15)) (pe_lst (pa_cons (pe_tup (pa_cons (pv 9) (pa_cons pe_int pa_nil))) pa_nil))) pa_nil))) w_srt))
    (pss_cons (ps_set (i := 12) nd rfl (Or.inl rfl) (pe_weak (pe_tupleOf rfl T2.mtup (pe_callB (r := rSortedPO K) cr_sortedPO rfl T3.msor (by decide +kernel) (pa_cons (pe_op op_cat (pe_lc (own := [("_law_word", 15)]) (g := gName 15) (tt := tYes) rfl nd (pi_tup (pv 8)) (blkOk_by (N := nGrow) (sc := defScope sGrow) (by decide +kernel)) (fun _ _ _ _ _ => pg_name (i := 15) nd rfl (Or.inl rfl)) (fun _ _ _ _ _ => pts_nil) (fun _ _ _ _ _ => pv 15)) (pe_lst (pa_cons (pe_tup (pa_cons (pv 9) (pa_cons pe_int pa_nil))) pa_nil))) pa_nil))) w_srt))
    (pss_cons (ps_set (i := 13) nd rfl (Or.inl rfl) (pe_call G hr rfl m0 F.kp b0 .nil pass0 (pa_cons (pv 0) (pa_cons (pv 1) (pa_cons (pv 11) (pa_cons (pe_weak (pe_ifExp (PW.pt (pw_and (pt_val (pv 4)) (pw_and1 (pt_cmpR op_eq (pe_op op_mod (pv 7) pe_int) pe_int (nomark _))))) pe_int (pe_op op_sub (pv 3) pe_int)) w_deep) (pa_cons (pv 4) (pa_cons (pe_op op_add (pv 5) pe_int) pa_nil))))))))
    (pss_cons (ps_set (i := 14) nd rfl (Or.inl rfl) (pe_call G hr rfl m0 F.kp b0 .nil pass0 (pa_cons (pv 0) (pa_cons (pv 1) (pa_cons (pv 12) (pa_cons (pe_weak (pe_ifExp (PW.pt (pw_and (pt_val (pv 4)) (pw_and1 (pt_cmpR op_eq (pe_op op_mod (pv 7) pe_int) pe_int (nomark _))))) pe_int (pe_op op_sub (pv 3) pe_int)) w_deep) (pa_cons (pv 4) (pa_cons (pe_ix ix_tup (pv 13) pe_int (fun _ _ => rfl)) pa_nil))))))))
    (pss_one (ps_ret (pe_tup (pa_cons (pe_tup (pa_cons pe_str (pa_cons (pv 9) (pa_cons (pv 8) (pa_cons (pe_ix ix_tup (pv 13) pe_int (fun _ _ => rfl)) (pa_cons (pe_ix ix_tup (pv 14) pe_int (fun _ _ => rfl)) pa_nil)))))) (pa_cons (pe_ix ix_tup (pv 14) pe_int (fun _ _ => rfl)) pa_nil))))))))))))))), ?_⟩
  have hW0 := hW
  obtain ⟨xs, hS, hE⟩ := hW
  have lal := isR_len al 0 hR
  have l64 : (ds.map V.int).length = 64 := by rw [List.length_map, h64]
  have pick : ∀ z : Int, ∃ (j : Nat) (d : Int), z % (((ds.map V.int).length : Nat) : Int) = (j : Int) ∧ (ds.map V.int)[j]? = some (.int d) := by
    intro z
    rw [l64]
    have hj : (z % ((64 : Nat) : Int)).toNat < ds.length := by omega
    exact ⟨(z % ((64 : Nat) : Int)).toNat, ds[(z % ((64 : Nat) : Int)).toNat], by omega, by rw [List.getElem?_map, List.getElem?_eq_getElem hj]; rfl⟩
  obtain ⟨j1, d1, hj1, hd1⟩ := pick (at0 : Int)
  obtain ⟨j2, d2, hj2, hd2⟩ := pick ((at0 : Int) * 7 + 3)
  have pos64 : (0 : Int) < (((ds.map V.int).length : Nat) : Int) := by rw [l64]; decide
  have hOL : SqL K H o (ds.map V.int) := .inl (.inl hO)
  refine ⟨_, rfl, _, rfl, _, rfl, o, _, rfl, .inl hOL, _, _, rfl, rfl, pos64, o, _, _, .int d1, rfl, rfl, hOL, atI_of hj1 hd1, ?_⟩
  refine ⟨_, rfl, _, rfl, _, _, rfl, rfl, .inr ⟨by decide, by decide⟩, _, _, rfl, rfl, _, rfl, o, _, rfl, .inl hOL, _, _, rfl, rfl, pos64, o, _, _, .int d2, rfl, rfl, hOL, atI_of hj2 hd2, ?_⟩
  refine ⟨d2, d1, c, al, rfl, rfl, rfl, hW0, by omega, fun c8 H1 line s1 hL hsub => ?_⟩
  have hL0 := hL
  obtain ⟨xs8, hS8, hE8⟩ := hL
  have lx8 := eachV_len hE8
  have upL : Up line := up.sublist hsub
  have memL : ∀ p ∈ line, p ∈ al := fun p hp => hsub.subset hp
  have hRL : isR n 0 line = true := isR_of line 0 upL fun p hp => isR_mem al 0 hR p (memL p hp)
  have lli := hsub.length_le
  refine ⟨_, rfl, _, _, rfl, rfl, 1, n + 1, rfl, ⟨by decide, by decide, by omega, by omega⟩, fun D hD => ?_⟩
  refine lc_range (n := (n + 1 - 1).toNat) (fun i H2 => ∃ fs : List Int, H2 D = some (.lst (fs.map V.int)) ∧ Same H1 H2 ∧ (∀ v ∈ fs, 1 ≤ v ∧ v ≤ n ∧ v ∉ line.map (·.1)) ∧ fs.length ≤ i) ⟨[], upd_same, same_new hD _, (fun v hv => nomatch hv), Nat.le_refl _⟩ ?_ ?_
  · rintro i H2 hi ⟨fs, eD, s2, hf, hl⟩
    refine ⟨rfl, _, rfl, _, rfl, c8, rfl, ⟨xs8, sqT_same s2 hS8⟩, fun D2 hD2 => ?_⟩
    refine lc_tup (K := K) (xs := xs8) (fun k H3 => H3 D2 = some (.lst ((line.take k).map fun p => V.int p.1)) ∧ Same H2 H3) ⟨upd_same, same_new hD2 _⟩ (fun k H3 _ ⟨_, sm⟩ => sqT_same (s2.trans sm) hS8) ?_ ?_
    · rintro k x H3 hk ⟨e2, sm⟩
      obtain ⟨p, hp, b, rfl, hb⟩ := eachV_at hE8 hk
      refine ⟨rfl, _, rfl, b, _, 0, _, rfl, rfl, SqT.of ((s2.trans sm) _ _ hb), atI_nat (j := 0) rfl, _, e2, Nat.lt_of_le_of_lt (show ((line.take k).map fun p => V.int p.1).length ≤ 1000 by rw [List.length_map, List.length_take]; omega) (by decide), ?_, fun b1 u e => ?_⟩
      · rw [upd_same, List.take_succ, hp, List.map_append]
        rfl
      · rw [upd_ne (ne_of_none e hD2)]
        exact sm _ _ e
    · rintro H3 ⟨e2, sm⟩
      rw [lx8, List.take_length] at e2
      have flat : (line.map fun p => V.int p.1).all flatV = true := by
        rw [List.all_map]
        exact List.all_eq_true.mpr fun _ _ => rfl
      refine ⟨D2, _, rfl, .inl (.inl (.inl e2)), rfl, flat, _, rfl, ?_⟩
      show if (!inV (.int (1 + (i : Int))) (line.map fun p => V.int p.1)) = true then _ else _
      rw [inV_names]
      by_cases cm : (1 + (i : Int)) ∈ line.map (·.1)
      · rw [decide_eq_true cm]
        exact iteF ⟨fs, sm _ _ eD, s2.trans sm, hf, by omega⟩
      · rw [decide_eq_false cm]
        refine iteT ⟨_, rfl, fs.map V.int, sm _ _ eD, Nat.lt_of_le_of_lt (show (fs.map V.int).length ≤ 1000 by rw [List.length_map]; omega) (by decide), fs ++ [1 + (i : Int)], ?_, fun b1 u e => ?_, fun v hv => ?_, by rw [List.length_append]; show _ + 1 ≤ _; omega⟩
        · rw [upd_same, List.map_append]
          rfl
        · rw [upd_ne (ne_of_none e hD)]
          exact sm _ _ (s2 _ _ e)
        · rcases List.mem_append.mp hv with e | e
          · exact hf v e
          · rw [List.mem_singleton.mp e]
            exact ⟨by omega, by omega, cm⟩
  rintro H2 ⟨fs, eD, s2, hf, _⟩
  have s12 := s1.trans s2
  refine ⟨dp, d1, D, c, _, xs, rfl, rfl, rfl, rfl, .inl (.inl eD), sqT_same s12 hS, fun bb hbb => ?_⟩
  cases bb with
  | true =>
    refine iteT ⟨_, rfl, c8, _, rfl, .inr (sqT_same s2 hS8), _, _, rfl, rfl, _, rfl, ite2 (fun cc => ?_) (fun cc => ?_)⟩
    · refine ⟨_, rfl, by show 2 ≤ sizeLine; decide, fun t1 ht1 => ⟨_, rfl, _, _, rfl, rfl, by show 2 ≤ sizeLine; decide, fun p hp => ?_⟩⟩
      have s3 := same_new ht1 (.tup [.str "wish", .ref c8])
      have s4 := same_new hp (.tup [.ref t1, .int ((at0 : Int) + 1)])
      exact q p (.ref t1) (.leaf line) (at0 + 1) _ (s12.trans (s3.trans s4)) upd_same ⟨t1, c8, rfl, s4 _ _ upd_same, hL0.same (s2.trans (s3.trans s4))⟩ ⟨memL, upL, hRL⟩ (by show 1 ≤ dp + 1; omega) (leafB_pos nar dp)
    · refine ⟨_, rfl, by show 2 ≤ sizeLine; decide, fun t1 ht1 => ⟨_, rfl, _, _, rfl, rfl, by show 2 ≤ sizeLine; decide, fun p hp => ?_⟩⟩
      have s3 := same_new ht1 (.tup [.str "wish", .ref c])
      have s4 := same_new hp (.tup [.ref t1, .int ((at0 : Int) + 1)])
      exact q p (.ref t1) (.leaf al) (at0 + 1) _ (s12.trans (s3.trans s4)) upd_same ⟨t1, c, rfl, s4 _ _ upd_same, hW0.same (s12.trans (s3.trans s4))⟩ ⟨fun p hp => hp, up, hR⟩ (by show 1 ≤ dp + 1; omega) (leafB_pos nar dp)
  | false =>
    obtain ⟨hdp0, hfl⟩ := hbb rfl
    have hdp1 : 0 < dp := by omega
    rw [List.length_map] at hfl
    have lfs : (fs.map V.int).length = fs.length := List.length_map _
    obtain ⟨j3, hj3, hj3l⟩ : ∃ j : Nat, (d1 + d2) % (((fs.map V.int).length : Nat) : Int) = (j : Int) ∧ j < fs.length := by
      rw [lfs]
      have h1 := Int.emod_nonneg (d1 + d2) (show ((fs.length : Nat) : Int) ≠ 0 by omega)
      have h2 := Int.emod_lt_of_pos (d1 + d2) (show (0 : Int) < ((fs.length : Nat) : Int) by omega)
      exact ⟨((d1 + d2) % ((fs.length : Nat) : Int)).toNat, by omega, by omega⟩
    have posF : (0 : Int) < (((fs.map V.int).length : Nat) : Int) := by rw [lfs]; omega
    have hnm : (fs.map V.int)[j3]? = some (.int fs[j3]) := by rw [List.getElem?_map, List.getElem?_eq_getElem hj3l]; rfl
    obtain ⟨v1, v2, v3⟩ := hf fs[j3] (List.getElem_mem hj3l)
    generalize fs[j3] = nm at hnm v1 v2 v3
    refine iteF ⟨_, rfl, _, rfl, _, rfl, _, _, rfl, rfl, _, rfl, D, _, rfl, .inl (.inl (.inl eD)), _, _, rfl, rfl, posF, D, _, _, .int nm, rfl, rfl, .inl (.inl eD), atI_of hj3 hnm, ?_⟩
    refine ⟨_, _, _, _, _, _, _, _, _, _, _, _, _, _, c8, line, nm, rfl, hL0.same s2, by omega, upL, v3, fun t1 H3 r1 s3 h1 pm1 up1 => ?_⟩
    refine ⟨_, _, _, _, _, _, _, _, _, _, _, _, _, _, c8, line, nm, rfl, hL0.same (s2.trans s3), by omega, upL, v3, fun t2 H4 r2 s4 h2 pm2 up2 => ?_⟩
    have memR : ∀ {v : Int} {r : Wish}, (v = 0 ∨ v = 1) → r.Perm (line ++ [(nm, v)]) → ∀ p ∈ r, 0 < p.1 ∧ p.1 ≤ n ∧ (p.2 = 0 ∨ p.2 = 1) := by
      intro v r hv pm p hp
      rcases List.mem_append.mp (pm.mem_iff.mp hp) with e | e
      · exact isR_mem line 0 hRL p e
      · rw [List.mem_singleton.mp e]
        exact ⟨by show 0 < nm; omega, v2, hv⟩
    have hR1 : isR n 0 r1 = true := isR_of r1 0 up1 (memR (.inr rfl) pm1)
    have hR2 : isR n 0 r2 = true := isR_of r2 0 up2 (memR (.inl rfl) pm2)
    have s14 := s12.trans (s3.trans s4)
    have edl : (if nar = true ∧ d2 % 2 = 1 then (0 : Int) else (dp : Int) - 1) = (((if nar = true ∧ d2 % 2 = 1 then 0 else dp - 1 : Nat)) : Int) := by split <;> omega
    have edr : (if nar = true ∧ d2 % 2 = 0 then (0 : Int) else (dp : Int) - 1) = (((if nar = true ∧ d2 % 2 = 0 then 0 else dp - 1 : Nat)) : Int) := by split <;> omega
    have bl : (if nar = true ∧ d2 % 2 = 1 then 0 else dp - 1 : Nat) ≤ dp - 1 := by split <;> omega
    have br : (if nar = true ∧ d2 % 2 = 0 then 0 else dp - 1 : Nat) ≤ dp - 1 := by split <;> omega
    have sum := leafB_sum (nar := nar) (d := d2) hdp1
    refine ⟨_, rfl, _, rfl, _, rfl, nar, d2, dp, rfl, rfl, rfl, _, rfl, _, rfl, _, _, rfl, rfl, ?_⟩
    refine ⟨o, t1, ds, n, r1, (if nar = true ∧ d2 % 2 = 1 then 0 else dp - 1 : Nat), at0 + 1, nar, (by show [V.ref o, V.int n, V.ref t1, V.int (if nar = true ∧ d2 % 2 = 1 then (0 : Int) else (dp : Int) - 1), V.bl nar, V.int ((at0 : Int) + 1)] = _; rw [edl]; rfl), s14 _ _ hO, h64, hds, hn0, hn40, h1.same s4, up1, hR1, by omega, fun p1 x1 tl at1 H5 s5 e5 w5 g5 hi5 lf5 => ?_⟩
    have s15 := s14.trans s5
    refine ⟨_, rfl, _, rfl, _, rfl, nar, d2, dp, rfl, rfl, rfl, _, rfl, _, rfl, p1, _, 1, _, rfl, rfl, SqT.of e5, atI_nat (j := 1) rfl, ?_⟩
    refine ⟨o, t2, ds, n, r2, (if nar = true ∧ d2 % 2 = 0 then 0 else dp - 1 : Nat), at1, nar, (by show [V.ref o, V.int n, V.ref t2, V.int (if nar = true ∧ d2 % 2 = 0 then (0 : Int) else (dp : Int) - 1), V.bl nar, V.int (at1 : Int)] = _; rw [edr]), s15 _ _ hO, h64, hds, hn0, hn40, h2.same s5, up2, hR2, by omega, fun p2 x2 tr at2 H6 s6 e6 w6 g6 hi6 lf6 => ?_⟩
    have s16 := s15.trans s6
    have e5' := s6 _ _ e5
    refine ⟨_, rfl, _, rfl, _, rfl, p1, _, 0, _, rfl, rfl, SqT.of e5', atI_nat (j := 0) rfl, _, rfl, p2, _, 0, _, rfl, rfl, SqT.of e6, atI_nat (j := 0) rfl, by show 5 ≤ sizeLine; decide, fun t ht => ?_⟩
    have s7 := same_new ht (.tup [.str "from", .int nm, .ref c8, x1, x2])
    refine ⟨_, rfl, p2, _, 1, _, rfl, rfl, SqT.of (s7 _ _ e6), atI_nat (j := 1) rfl, by show 2 ≤ sizeLine; decide, fun pp hpp => ?_⟩
    have s8 := same_new hpp (.tup [.ref t, .int (at2 : Int)])
    have s78 := s7.trans s8
    refine q pp (.ref t) (.node nm line tl tr) at2 _ (s16.trans s78) upd_same ⟨t, c8, x1, x2, rfl, s8 _ _ upd_same, hL0.same (s2.trans (s3.trans (s4.trans (s5.trans (s6.trans s78))))), w5.same (s6.trans s78), w6.same s78⟩ ⟨memL, upL, hRL, v1, v2, v3, GoodT.of (fun p hp => pm1.mem_iff.mp hp) g5, GoodT.of (fun p hp => pm2.mem_iff.mp hp) g6⟩ ?_ ?_
    · show max tl.high tr.high + 1 ≤ dp + 1
      omega
    · show (tl.rows ++ tr.rows).length ≤ _
      rw [List.length_append]
      omega
theorem grow0 {ps : List Str} {k : Nat} : FnOk P w K mg base CX0 k f fd ps (spGrow K 0) := by
  have no : ∀ vs H Q E, ¬ spGrow K 0 vs H Q E := fun vs H Q E h => by
    obtain ⟨o, c, ds, n, al, dp, at0, nar, _, _, _, _, _, _, _, _, _, h1, _⟩ := h
    omega
  exact ⟨fun vs H Q E h => absurd h (no vs H Q E), fun A outer s H args us vs Q E _ _ _ _ h => absurd h (no vs H Q E)⟩
theorem all_grow {fP : Addr} {fdP : FuncData} (T : Blt mg) (T2 : Blt2 mg) (T3 : Blt3 mg) (F : Fun K "_law_grow" "_law_grow" sGrow f fd) (b : Binds K fd pGrow []) (m : mg "_law_grow" = some (.ref f))
    (GP : FnOk P w K mg base CX0 1 fP fdP ["_law_draw", "_law_row"] (spPart K)) (kP : PySem.W.keepIn K (.ref fP) = true) (bP : Binds K fdP ["_law_draw", "_law_row"] []) (mP : mg "_law_part" = some (.ref fP)) : ∀ n : Nat, FnOk P w K mg base CX0 (n + 1) f fd pGrow (spGrow K n)
  | 0 => grow0
  | n + 1 => ok_grow T T2 T3 F b m (all_grow T T2 T3 F b m GP kP bP mP n) GP kP bP mP
end
end Km
/-! KmMath -/
set_option Elab.async false
set_option linter.all false
set_option maxRecDepth 100000
set_option maxHeartbeats 2000000
namespace Ns
open PySem L2
theorem sub_bounds {b : Nat} {n : Int} : ∀ (pl : List Int) (t t' : LT), t.sub pl = some t' → (Fit b t → Fit b t') ∧ t'.size ≤ t.size ∧ t'.high ≤ t.high ∧ (Named n t → Named n t')
  | [], t, t', h => by
    have e : t = t' := by cases t <;> exact Option.some.inj h
    subst e
    exact ⟨fun z => z, Nat.le_refl _, Nat.le_refl _, fun z => z⟩
  | v :: pl, .wish i, t', h => by cases h
  | v :: pl, .frm nm line l r, t', h => by
    have h2 : (if v = 0 then l.sub pl else if v = 1 then r.sub pl else none) = some t' := h
    have e1 : (LT.frm nm line l r).size = l.size + r.size + 1 := rfl
    have e2 : (LT.frm nm line l r).high = max l.high r.high + 1 := rfl
    have g1 := Nat.le_max_left l.high r.high
    have g2 := Nat.le_max_right l.high r.high
    have nn : Named n (.frm nm line l r) → Named n t' := fun z => by cases t' with | wish i => trivial | frm _ _ _ _ => exact z
    by_cases c : v = 0
    · rw [if_pos c] at h2
      obtain ⟨a1, a2, a3, a4⟩ := sub_bounds (b := b) (n := n) pl l t' h2
      exact ⟨fun z => a1 z.2.1, by omega, by omega, nn⟩
    · rw [if_neg c] at h2
      by_cases c1 : v = 1
      · rw [if_pos c1] at h2
        obtain ⟨a1, a2, a3, a4⟩ := sub_bounds (b := b) (n := n) pl r t' h2
        exact ⟨fun z => a1 z.2.2, by omega, by omega, nn⟩
      · rw [if_neg c1] at h2
        cases h2
theorem put_bounds {b : Nat} {n : Int} {u : LT} : ∀ (pl : List Int) (t t' : LT), t.sub pl = some t' → u.size ≤ t'.size → u.high ≤ t'.high →
    (Fit b t → Fit b u → Fit b (LT.put u t pl)) ∧ (LT.put u t pl).size ≤ t.size ∧ (LT.put u t pl).high ≤ t.high ∧ (Named n t → Named n u → Named n (LT.put u t pl))
  | [], t, t', h, hs, hh => by
    have e : t = t' := by cases t <;> exact Option.some.inj h
    subst e
    have e2 : LT.put u t [] = u := by cases t <;> rfl
    rw [e2]
    exact ⟨fun _ z => z, hs, hh, fun _ z => z⟩
  | v :: pl, .wish i, t', h, _, _ => by cases h
  | v :: pl, .frm nm line l r, t', h, hs, hh => by
    have h2 : (if v = 0 then l.sub pl else if v = 1 then r.sub pl else none) = some t' := h
    by_cases c : v = 0
    · rw [if_pos c] at h2
      obtain ⟨a1, a2, a3, a4⟩ := put_bounds (b := b) (n := n) pl l t' h2 hs hh
      have e : LT.put u (.frm nm line l r) (v :: pl) = .frm nm line (LT.put u l pl) r := if_pos c
      rw [e]
      refine ⟨fun z1 z2 => ⟨z1.1, a1 z1.2.1 z2, z1.2.2⟩, ?_, ?_, fun z _ => z⟩
      · show (LT.put u l pl).size + r.size + 1 ≤ l.size + r.size + 1
        omega
      · show max (LT.put u l pl).high r.high + 1 ≤ max l.high r.high + 1
        omega
    · rw [if_neg c] at h2
      by_cases c1 : v = 1
      · rw [if_pos c1] at h2
        obtain ⟨a1, a2, a3, a4⟩ := put_bounds (b := b) (n := n) pl r t' h2 hs hh
        have e : LT.put u (.frm nm line l r) (v :: pl) = .frm nm line l (LT.put u r pl) := if_neg c
        rw [e]
        refine ⟨fun z1 z2 => ⟨z1.1, z1.2.1, a1 z1.2.2 z2⟩, ?_, ?_, fun z _ => z⟩
        · show l.size + (LT.put u r pl).size + 1 ≤ l.size + r.size + 1
          omega
        · show max l.high (LT.put u r pl).high + 1 ≤ max l.high r.high + 1
          omega
      · rw [if_neg c1] at h2
        cases h2
/-! the grown tree is right -/
theorem idx_size (N : List Wish) : ∀ t : WT, (t.idx N).size + 1 = 2 * t.rows.length
  | .leaf r => rfl
  | .node nm line l r => by
    have h1 := idx_size N l
    have h2 := idx_size N r
    show (l.idx N).size + (r.idx N).size + 1 + 1 = 2 * (l.rows ++ r.rows).length
    rw [List.length_append]
    omega
theorem wt_pos : ∀ t : WT, 0 < t.rows.length
  | .leaf r => Nat.one_pos
  | .node nm line l r => by
    show 0 < (l.rows ++ r.rows).length
    rw [List.length_append]
    have := wt_pos l
    omega
theorem good_fit {n : Int} (hn : n ≤ 40) (h0 : 0 ≤ n) {N : List Wish} : ∀ {t : WT} {al : Wish}, GoodT n al t → Fit 40 (t.idx N) ∧ Named n (t.idx N)
  | .leaf r, al, _ => ⟨trivial, trivial⟩
  | .node nm line l r, al, ⟨_, _, h3, h4, h5, _, h7, h8⟩ => by
    have := isR_len line 0 h3
    exact ⟨⟨by omega, (good_fit hn h0 h7).1, (good_fit hn h0 h8).1⟩, by show 1 ≤ n; omega⟩
theorem good_rows {n : Int} : ∀ {t : WT} {al : Wish}, GoodT n al t → ∀ r ∈ t.rows, Up r ∧ isR n 0 r = true
  | .leaf r, al, h, q, hq => by
    rw [List.mem_singleton.mp hq]
    exact h.2
  | .node nm line l r, al, ⟨_, _, _, _, _, _, h7, h8⟩, q, hq => by
    rcases List.mem_append.mp hq with e | e
    · exact good_rows h7 q e
    · exact good_rows h8 q e
theorem idx_line {N : List Wish} {r : Wish} (h : r ∈ N) : lineOf N (.wish ((N.idxOf r : Nat) : Int)) = some r ∧ 0 ≤ ((N.idxOf r : Nat) : Int) ∧ ((N.idxOf r : Nat) : Int) < (N.length : Int) := by
  have hlt : N.idxOf r < N.length := List.idxOf_lt_length_iff.mpr h
  refine ⟨?_, by omega, by omega⟩
  have h0 : (0 : Int) ≤ ((N.idxOf r : Nat) : Int) := by omega
  show (if (0 : Int) ≤ ((N.idxOf r : Nat) : Int) then N[((N.idxOf r : Nat) : Int).toNat]? else none) = some r
  rw [if_pos h0, Int.toNat_natCast, List.getElem?_eq_getElem hlt, List.getElem_idxOf hlt]
theorem good_line {n : Int} {N : List Wish} : ∀ {t : WT} {al : Wish}, GoodT n al t → (∀ r ∈ t.rows, r ∈ N) → ∃ q, lineOf N (t.idx N) = some q ∧ ∀ p ∈ q, p ∈ al
  | .leaf r, al, h, hN => ⟨r, (idx_line (hN r (List.mem_singleton.mpr rfl))).1, h.1⟩
  | .node nm line l r, al, h, hN => ⟨line, rfl, h.1⟩
theorem good_none {n : Int} {N : List Wish} : ∀ {t : WT} {al : Wish}, GoodT n al t → (∀ r ∈ t.rows, r ∈ N) → ∀ pl, ∀ z ∈ post pl (t.idx N), nodeF n N z.2 = none
  | .leaf r, al, h, hN, pl, z, hz => by
    rw [List.mem_singleton.mp hz]
    obtain ⟨_, h1, h2⟩ := idx_line (hN r (List.mem_singleton.mpr rfl))
    exact if_pos ⟨h1, h2⟩
  | .node nm line l r, al, ⟨h1, h2, h3, h4, h5, h6, h7, h8⟩, hN, pl, z, hz => by
    have hl : ∀ q ∈ l.rows, q ∈ N := fun q hq => hN q (List.mem_append_left _ hq)
    have hr : ∀ q ∈ r.rows, q ∈ N := fun q hq => hN q (List.mem_append_right _ hq)
    rcases List.mem_append.mp hz with e | e
    · rcases List.mem_append.mp e with e | e
      · exact good_none h7 hl _ z e
      · exact good_none h8 hr _ z e
    · rw [List.mem_singleton.mp e]
      show nodeF n N (.frm nm line (l.idx N) (r.idx N)) = none
      obtain ⟨ql, e1, m1⟩ := good_line h7 hl
      obtain ⟨qr, e2, m2⟩ := good_line h8 hr
      have ha : askF n line nm = none := by
        unfold askF
        rw [if_neg (by rw [h3]; exact Bool.noConfusion), if_neg (by omega), if_neg]
        rintro (c | c) <;> exact h6 (List.mem_map.mpr ⟨_, c, rfl⟩)
      rw [nodeF_sides ha e1 e2]
      unfold sidesF
      have a1 : (ql.all fun p => decide (p ∈ line ++ [(nm, 1)])) = true := List.all_eq_true.mpr fun p hp => decide_eq_true (m1 p hp)
      have a2 : (qr.all fun p => decide (p ∈ line ++ [(nm, 0)])) = true := List.all_eq_true.mpr fun p hp => decide_eq_true (m2 p hp)
      rw [if_neg (by rw [a1]; exact Bool.noConfusion), if_neg (by rw [a2]; exact Bool.noConfusion)]
theorem firstF_nil {n : Int} {N : List Wish} : ∀ {L : List Spot}, (∀ z ∈ L, nodeF n N z.2 = none) → firstF n N L = none
  | [], _ => rfl
  | z :: r, h => by
    unfold firstF
    rw [h z List.mem_cons_self]
    exact firstF_nil fun y hy => h y (List.mem_cons_of_mem _ hy)
theorem good_treeF {n : Int} {N : List Wish} {t : WT} (h : GoodT n [] t) (hN : ∀ r ∈ t.rows, r ∈ N) : treeF n N (t.idx N) = none := by
  unfold treeF
  rw [firstF_nil (good_none h hN [])]
  obtain ⟨q, e1, m1⟩ := good_line h hN
  have : q = [] := List.eq_nil_iff_forall_not_mem.mpr fun p hp => by
    have := m1 p hp
    cases this
  rw [e1, this]
  exact if_pos rfl
/-! wishes, each once, ascending -/
theorem asc_uniq : ∀ {l m : List Wish}, Asc l → Asc m → (∀ r, r ∈ l ↔ r ∈ m) → l = m
  | [], [], _, _, _ => rfl
  | [], b :: m, _, _, h => absurd ((h b).mpr List.mem_cons_self) (by simp)
  | a :: l, [], _, _, h => absurd ((h a).mp List.mem_cons_self) (by simp)
  | a :: l, b :: m, h1, h2, h => by
    obtain ⟨p1, p2⟩ := List.pairwise_cons.mp h1
    obtain ⟨q1, q2⟩ := List.pairwise_cons.mp h2
    have hab : a = b := by
      rcases List.mem_cons.mp ((h a).mp List.mem_cons_self) with e | e
      · exact e
      · rcases List.mem_cons.mp ((h b).mpr List.mem_cons_self) with e2 | e2
        · exact e2.symm
        · have z := wlt_trans (q1 a e) (p1 b e2)
          rw [wlt_self] at z
          cases z
    subst hab
    have : l = m := asc_uniq p2 q2 fun r => by
      constructor
      · intro hr
        rcases List.mem_cons.mp ((h r).mp (List.mem_cons_of_mem _ hr)) with e | e
        · subst e
          have z := p1 r hr
          rw [wlt_self] at z
          cases z
        · exact e
      · intro hr
        rcases List.mem_cons.mp ((h r).mpr (List.mem_cons_of_mem _ hr)) with e | e
        · subst e
          have z := q1 r hr
          rw [wlt_self] at z
          cases z
        · exact e
    rw [this]
/-- one more row of an ascending list, left out if it is the last one again -/
theorem asc_snoc {W : List Wish} {r : Wish} (hW : Asc W) (hle : ∀ w ∈ W, wlt r w = false) (hne : ∀ w, W.getLast? = some w → w ≠ r) : Asc (W ++ [r]) := by
  refine List.pairwise_append.mpr ⟨hW, List.pairwise_singleton _ _, fun w hw q hq => ?_⟩
  rw [List.mem_singleton.mp hq]
  rcases List.eq_nil_or_concat W with rfl | ⟨W0, l, e⟩
  · cases hw
  · rw [List.concat_eq_append] at e
    subst e
    have hl : l ≠ r := hne l (by simp)
    have l1 : wlt l r = true := by
      rcases wlt_le (hle l (List.mem_append_right _ (List.mem_singleton.mpr rfl))) with z | z
      · exact z
      · exact absurd z hl
    rcases List.mem_append.mp hw with e2 | e2
    · have := (List.pairwise_append.mp hW).2.2 w e2 l (List.mem_singleton.mpr rfl)
      exact wlt_trans this l1
    · rw [List.mem_singleton.mp e2]
      exact l1
theorem isR_mono {n m : Int} (h : n ≤ m) : ∀ (r : Wish) (last : Int), isR n last r = true → isR m last r = true
  | [], _, _ => rfl
  | q :: r, last, h1 => by
    have h2 : (if q.1 ≤ last ∨ q.1 > n ∨ ¬ (q.2 = 0 ∨ q.2 = 1) then false else isR n q.1 r) = true := h1
    by_cases c : q.1 ≤ last ∨ q.1 > n ∨ ¬ (q.2 = 0 ∨ q.2 = 1)
    · rw [if_pos c] at h2; cases h2
    · rw [if_neg c] at h2
      have e : isR m last (q :: r) = isR m q.1 r := if_neg fun z => c (by
        rcases z with z | z | z
        · exact .inl z
        · exact .inr (.inl (by omega))
        · exact .inr (.inr z))
      rw [e]
      exact isR_mono h r _ h2
end Ns
/-! KmLaw -/
set_option Elab.async false
set_option linter.all false
set_option maxRecDepth 100000
set_option maxHeartbeats 4000000
namespace Km
open PySem PySem.Spec PyProof.Rows L2 Ns
abbrev sLaw : Stmt := top 56
abbrev rMin2 : List V → Hp → VK → Prop := fun xs H Q => ∃ i j, xs = [.int i, .int j] ∧ Q (.int (if j < i then j else i)) H
abbrev rListOf (K : PySem.W.Frag) : List V → Hp → VK → Prop := fun xs H Q => ∃ p ys, xs = [.ref p] ∧ (SqL K H p ys ∨ SqT K H p ys) ∧ ∀ l, H l = none → Q (.ref l) (upd H l (.lst ys))
structure Blt4 (mg : Str → Option Value) : Prop where
  mmin : mg "min" = none
def spLaw (K : PySem.W.Frag) : Sp := fun vs H Q _ => ∃ (a : Addr) (ns : List Int), vs = [.ref a] ∧ SqL K H a (ns.map V.int) ∧ ns.length ≤ 63 ∧ ∀ H', Q (.bl true) H'
abbrev nLaw : List Str := ["_law_script", "_law_first", "_law_names", "_law_draws_here", "_law_narrow", "_law_deep", "_law_grown", "_law_rows", "_law_wishes", "_law_row", "_law_book", "_law_right", "_law_places_here", "_law_more", "_law_k", "_law_paper", "_law_j", "_law_place", "_law_node_here", "_law_cell_here", "_law_wish_here"]
theorem scLaw : FnScope nLaw ["_law_script"] (defScope sLaw) := ⟨rfl, rfl, rfl, by decide +kernel, rfl, by decide +kernel, by decide +kernel⟩
theorem ps_weak {X : Cx} {st : Stmt} {t t' : TS} (h : PS X st t) (w : ∀ D σ H, t' D σ H → t D σ H) : PS X st t' := ⟨fun pins s σ H D I q => h.run pins s σ H D I (w D σ H q)⟩
theorem set_self {σ : L2.St} {i : Nat} {x : Option V} (h : σ[i]? = some x) : σ.set i x = σ := by
  refine List.ext_getElem? fun j => ?_
  rw [List.getElem?_set]
  by_cases c : i = j
  · subst c
    obtain ⟨hl, e⟩ := List.getElem?_eq_some_iff.mp h
    rw [if_pos rfl, if_pos hl, h]
  · rw [if_neg c]
abbrev oMod : R2 := rI (fun _ j => 0 < j) fun i j => .int (i % j)
abbrev oDiv : R2 := rI CDiv fun i j => .int (i / j)
def tN2 : TE := fun σ H Q => ∃ f : Int, σ[1]? = some (some (.int f)) ∧ ∀ n, 0 ≤ n → n ≤ 4 → Q (.int n) H
theorem w_n2 : ∀ σ H Q, tN2 σ H Q → tOp oMod (tVar 1) (tC (.int 5)) σ H Q := by
  rintro σ H Q ⟨f, e1, q⟩
  exact ⟨_, e1, _, _, rfl, rfl, (by show (0 : Int) < 5; decide), q _ (Int.emod_nonneg _ (by decide)) (by have := Int.emod_lt_of_pos f (show (0 : Int) < 5 by decide); omega)⟩
def tN3 : TS := fun D σ H => ∃ f n : Int, σ[1]? = some (some (.int f)) ∧ σ[2]? = some (some (.int n)) ∧ 0 ≤ n ∧ n ≤ 40 ∧ ∀ m, 0 ≤ m → m ≤ 40 → D.nx (σ.set 2 (some (.int m))) H
theorem w_n3 : ∀ D σ H, tN3 D σ H → tIfS (tTest (tOp rEq (tOp oMod (tOp oDiv (tVar 1) (tC (.int 5))) (tC (.int 9))) (tC (.int 1)))) (tAsg (tC (.int 40)) (gName 2)) tNext D σ H := by
  rintro D σ H ⟨f, n, e1, e2, h0, h40, q⟩
  refine ⟨_, e1, _, _, rfl, rfl, ⟨by decide, by decide⟩, _, _, rfl, rfl, (by show (0 : Int) < 9; decide), rfl, _, rfl, ite2 (fun _ => ?_) (fun _ => ?_)⟩
  · exact q 40 (by decide) (by decide)
  · have := q n h0 h40
    rw [set_self e2] at this
    exact this
def tN5 : TE := fun σ H Q => ∃ f : Int, σ[1]? = some (some (.int f)) ∧ ∀ b, Q (.bl b) H
theorem w_n5 : ∀ σ H Q, tN5 σ H Q → tOp rEq (tOp oMod (tOp oDiv (tVar 1) (tC (.int 45))) (tC (.int 3))) (tC (.int 1)) σ H Q := by
  rintro σ H Q ⟨f, e1, q⟩
  exact ⟨_, e1, _, _, rfl, rfl, ⟨by decide, by decide⟩, _, _, rfl, rfl, (by show (0 : Int) < 3; decide), rfl, q _⟩
def tN6 : TE := fun σ H Q => ∃ f : Int, σ[1]? = some (some (.int f)) ∧ ∀ d, 3 ≤ d → d ≤ 5 → Q (.int d) H
theorem w_n6 : ∀ σ H Q, tN6 σ H Q → tOp (rI0 fun i j => .int (i + j)) (tC (.int 3)) (tOp oMod (tOp oDiv (tVar 1) (tC (.int 135))) (tC (.int 3))) σ H Q := by
  rintro σ H Q ⟨f, e1, q⟩
  have h1 := Int.emod_nonneg (f / 135) (show (3 : Int) ≠ 0 by decide)
  have h2 := Int.emod_lt_of_pos (f / 135) (show (0 : Int) < 3 by decide)
  exact ⟨_, e1, _, _, rfl, rfl, ⟨by decide, by decide⟩, _, _, rfl, rfl, (by show (0 : Int) < 3; decide), _, _, rfl, rfl, q _ (by omega) (by omega)⟩
def tN7 : TS := fun D σ H => ∃ (nar : Bool) (f d : Int), σ[4]? = some (some (.bl nar)) ∧ σ[1]? = some (some (.int f)) ∧ σ[5]? = some (some (.int d)) ∧ 3 ≤ d ∧ d ≤ 5 ∧ ∀ k, 0 ≤ k → (nar = true → k ≤ 24) → (nar = false → k ≤ 5) → D.nx (σ.set 5 (some (.int k))) H
theorem w_n7 : ∀ D σ H, tN7 D σ H → tIfS (tB (tVar 4)) (tAsg (tOp oMod (tOp oDiv (tVar 1) (tC (.int 135))) (tC (.int 25))) (gName 5)) tNext D σ H := by
  rintro D σ H ⟨nar, f, d, e4, e1, e5, h3, h5, q⟩
  cases nar with
  | true =>
    have h1 := Int.emod_nonneg (f / 135) (show (25 : Int) ≠ 0 by decide)
    have h2 := Int.emod_lt_of_pos (f / 135) (show (0 : Int) < 25 by decide)
    exact ⟨_, e4, _, rfl, iteT ⟨_, e1, _, _, rfl, rfl, ⟨by decide, by decide⟩, _, _, rfl, rfl, (by show (0 : Int) < 25; decide), q _ h1 (fun _ => by omega) (fun z => nomatch z)⟩⟩
  | false =>
    refine ⟨_, e4, _, rfl, iteF ?_⟩
    have := q d (by omega) (fun z => nomatch z) (fun _ => h5)
    rw [set_self e5] at this
    exact this
/-- the place of the second spoiling -/
def tNP (K : PySem.W.Frag) : TS := fun D σ H => ∃ (j : Int) (b : Addr) (pl : List Int) (v : V) (u : LT), σ[16]? = some (some (.int j)) ∧ σ[17]? = some (some (.ref b)) ∧ H b = some (.tup (pl.map V.int)) ∧ σ[15]? = some (some v) ∧ LRep K H v u ∧ u.high ≤ 100 ∧ u.size ≤ 100000 ∧
  (j ≠ 1 → ∃ t', u.sub pl = some t' ∧ pl.length ≤ 100) ∧ ∀ b' pl' t' H', Same H H' → H' b' = some (.tup (pl'.map V.int)) → u.sub pl' = some t' → pl'.length ≤ 100 → D.nx (σ.set 17 (some (.ref b'))) H'
theorem w_np {K : PySem.W.Frag} : ∀ D σ H, tNP K D σ H → tIfS (tAnd (tTest (tOp rEq (tVar 16) (tC (.int 1)))) (tTest (tOp (rNotInD K) (tVar 17) (tCall (spPlaces K 100) [] E0 (tCons (tVar 15) (tCons (tTup tNil) tNil)))))) (tAsg (tTup tNil) (gName 17)) tNext D σ H := by
  rintro D σ H ⟨j, b, pl, v, u, e16, e17, hb, e15, hv, hh, hs, hj, q⟩
  refine ⟨_, e16, rfl, _, rfl, ?_⟩
  by_cases c : j = 1
  · refine iteD (congrArg V.int c) ⟨_, e17, _, e15, Nat.zero_le _, fun e he => ?_⟩
    have s1 := same_new he (.tup [])
    refine ⟨v, e, u, [], rfl, hv.same s1, upd_same, (by show 0 + u.high ≤ 1000; omega), hs, hh, fun o xs H2 s2 no eo hx => ?_⟩
    have s12 := s1.trans s2
    refine ⟨dPl pl, (plsOf [] u).map dPl, dp_pl ⟨b, rfl, s12 _ _ hb⟩, .lst (.inl (.inl eo)) (dp_pls hx), pl_shaped pl, pls_shaped _, _, rfl, ?_⟩
    rw [any_pl]
    by_cases cm : pl ∈ plsOf [] u
    · rw [decide_eq_true cm]
      obtain ⟨sl, t', es, ht, hl⟩ := pls_sub u [] pl cm
      have es2 : pl = sl := es
      subst es2
      have := q b pl t' H2 s12 (s12 _ _ hb) ht (by omega)
      rw [set_self e17] at this
      exact iteF this
    · rw [decide_eq_false cm]
      refine iteT ⟨Nat.zero_le _, fun e2 he2 => ?_⟩
      have s3 := same_new he2 (.tup [])
      exact q e2 [] u _ (s12.trans s3) upd_same (by cases u <;> rfl) (Nat.zero_le _)
  · obtain ⟨t', ht, hl⟩ := hj c
    have := q b pl t' H (Same.refl H) hb ht hl
    rw [set_self e17] at this
    exact iteND (fun z => c (V.int.inj z)) (iteF this)

section
variable {P : Program} {w : World} {K : PySem.W.Frag} {mg : Str → Option Value} {base : Heap} {f : Addr} {fd : FuncData} {C : Addr}
theorem ok_law {fC fS fD fG fL fW fI fU fJ fP fO fN fQ fT fB : Addr} {fdC fdS fdD fdG fdL fdW fdI fdU fdJ fdP fdO fdN fdQ fdT fdB : FuncData} (T : Blt mg) (T2 : Blt2 mg) (T3 : Blt3 mg) (T4 : Blt4 mg) (T5 : BkTxt K mg C) (MB : Mk K C fB) (F : Fun K "law" "law" sLaw f fd)
    (GC : FnOk P w K mg base CX0 1 fC fdC ["_law_script", "_law_k"] (spCell K)) (kC : PySem.W.keepIn K (.ref fC) = true) (bC : Binds K fdC ["_law_script", "_law_k"] []) (mC : mg "_law_cell" = some (.ref fC))
    (GS : FnOk P w K mg base CX0 2 fS fdS ["_law_script", "_law_k"] (spSeed K)) (kS : PySem.W.keepIn K (.ref fS) = true) (bS : Binds K fdS ["_law_script", "_law_k"] []) (mS : mg "_law_seed" = some (.ref fS))
    (GD : FnOk P w K mg base CX0 1 fD fdD ["_law_cell_here", "_law_many"] (spDraws)) (kD : PySem.W.keepIn K (.ref fD) = true) (bD : Binds K fdD ["_law_cell_here", "_law_many"] []) (mD : mg "_law_draws" = some (.ref fD))
    (GG : FnOk P w K mg base CX0 31 fG fdG pGrow (spGrow K 30)) (kG : PySem.W.keepIn K (.ref fG) = true) (bG : Binds K fdG pGrow []) (mG : mg "_law_grow" = some (.ref fG))
    (GL : FnOk P w K mg base CX0 100 fL fdL ["_law_paper"] (spRows K 100)) (kL : PySem.W.keepIn K (.ref fL) = true) (bL : Binds K fdL ["_law_paper"] []) (mL : mg "_law_leaf_rows" = some (.ref fL))
    (GW : FnOk P w K mg base CX0 2 fW fdW ["_law_cell_here", "_law_names"] (spWishD K)) (kW : PySem.W.keepIn K (.ref fW) = true) (bW : Binds K fdW ["_law_cell_here", "_law_names"] []) (mW : mg "_law_wish" = some (.ref fW))
    (GI : FnOk P w K mg base CX0 100 fI fdI ["_law_paper", "_law_wishes"] (spIndexed K 100)) (kI : PySem.W.keepIn K (.ref fI) = true) (bI : Binds K fdI ["_law_paper", "_law_wishes"] []) (mI : mg "_law_indexed" = some (.ref fI))
    (GU : FnOk P w K mg base CX0 102 fU fdU ["_law_names", "_law_wishes", "_law_paper"] (spDue K)) (kU : PySem.W.keepIn K (.ref fU) = true) (bU : Binds K fdU ["_law_names", "_law_wishes", "_law_paper"] []) (mU : mg "_law_due" = some (.ref fU))
    (GJ : FnOk P w K mg base CX0 103 fJ fdJ ["_law_names", "_law_wishes", "_law_book", "_law_paper"] (spJudged K C)) (kJ : PySem.W.keepIn K (.ref fJ) = true) (bJ : Binds K fdJ ["_law_names", "_law_wishes", "_law_book", "_law_paper"] []) (mJ : mg "_law_judged" = some (.ref fJ))
    (GP : FnOk P w K mg base CX0 100 fP fdP ["_law_paper", "_law_place"] (spPlaces K 100)) (kP : PySem.W.keepIn K (.ref fP) = true) (bP : Binds K fdP ["_law_paper", "_law_place"] []) (mP : mg "_law_places" = some (.ref fP))
    (GO : FnOk P w K mg base CX0 2 fO fdO ["_law_names", "_law_many", "_law_node_here", "_law_draw", "_law_other"] (spSpoilt K)) (kO : PySem.W.keepIn K (.ref fO) = true) (bO : Binds K fdO ["_law_names", "_law_many", "_law_node_here", "_law_draw", "_law_other"] []) (mO : mg "_law_spoilt" = some (.ref fO))
    (GN : FnOk P w K mg base CX0 1 fN fdN ["_law_paper", "_law_place"] (spSub K)) (kN : PySem.W.keepIn K (.ref fN) = true) (bN : Binds K fdN ["_law_paper", "_law_place"] []) (mN : mg "_law_node" = some (.ref fN))
    (GQ : FnOk P w K mg base CX0 101 fQ fdQ ["_law_paper", "_law_place", "_law_node_here"] (spPut K 100)) (kQ : PySem.W.keepIn K (.ref fQ) = true) (bQ : Binds K fdQ ["_law_paper", "_law_place", "_law_node_here"] []) (mQ : mg "_law_put" = some (.ref fQ))
    (GT : FnOk P w K mg base CX0 4 fT fdT ["book", "paper"] (spTreeF K C)) (kT : PySem.W.keepIn K (.ref fT) = true) (bT : Binds K fdT ["book", "paper"] []) (mT : mg "line_tree_fault" = some (.ref fT))
    (GB : FnOk P w K mg base CX0 3 fB fdB ["self", "names", "wishes"] (spInit K C)) (bB : Binds K fdB ["self", "names", "wishes"] []) :
    FnOk P w K mg base CX0 104 f fd ["_law_script"] (spLaw K) := by
  refine F.ok scLaw (fun vs H Q E h => ?_) (fun cdv A outer s H vs Q E hr h => ?_)
  · obtain ⟨a, ns, rfl, _⟩ := h
    rfl
  obtain ⟨a, ns, rfl, hS, h63, q⟩ := h
  have nd := scLaw.nd
  have hu : (A.deeper (envOfC "law" (defScope sLaw) s.heap.objs.size f cdv)).units + 64 < cLine := hr.units
  have hu65 : (A.deeper (envOfC "law" (defScope sLaw) s.heap.objs.size f cdv)).units + 65 < cLine := by have := hr.un; omega
  refine ⟨_, (pss_cons (ps_set (i := 1) nd rfl (Or.inl rfl) (pe_callB call_abs rfl T.mabs PyProof.Rows.boot_abs (pa_cons (pe_call GC (hr.mono (by decide)) rfl mC kC bC .nil pass0 (pa_cons (pv 0) (pa_cons pe_int pa_nil))) pa_nil)))
    (pss_cons (ps_set (i := 2) nd rfl (Or.inr rfl) (pe_weak (pe_op op_mod (pv 1) pe_int) w_n2))
    (pss_cons (ps_weak (ps_if (pt_cmpR op_eq (pe_op op_mod (pe_op op_fdiv (pv 1) pe_int) pe_int) pe_int (nomark _)) (pss_one (ps_set (i := 2) nd rfl (Or.inr rfl) pe_int)) pss_nil) w_n3)
    (pss_cons (ps_set (i := 3) nd rfl (Or.inl rfl) (pe_call GD (hr.mono (by decide)) rfl mD kD bD .nil pass0 (pa_cons (pe_call GS (hr.mono (by decide)) rfl mS kS bS .nil pass0 (pa_cons (pv 0) (pa_cons pe_int pa_nil))) (pa_cons pe_int pa_nil))))
    (pss_cons (ps_set (i := 4) nd rfl (Or.inl rfl) (pe_weak (pe_cmpR op_eq (pe_op op_mod (pe_op op_fdiv (pv 1) pe_int) pe_int) pe_int (nomark _)) w_n5))
    (pss_cons (ps_set (i := 5) nd rfl (Or.inl rfl) (pe_weak (pe_op op_add pe_int (pe_op op_mod (pe_op op_fdiv (pv 1) pe_int) pe_int)) w_n6))
    (pss_cons (ps_weak (ps_if (pt_val (pv 4)) (pss_one (ps_set (i := 5) nd rfl (Or.inl rfl) (pe_op op_mod (pe_op op_fdiv (pv 1) pe_int) pe_int))) pss_nil) w_n7)
    (pss_cons (ps_set (i := 6) nd rfl (Or.inl rfl) (pe_ix ix_tup (pe_call GG (hr.mono (by decide)) rfl mG kG bG .nil pass0 (pa_cons (pv 3) (pa_cons (pv 2) (pa_cons (pe_tup pa_nil) (pa_cons (pv 5) (pa_cons (pv 4) (pa_cons pe_int pa_nil))))))) pe_int (fun _ _ => rfl)))
    (pss_cons (ps_set (i := 7) nd rfl (Or.inl rfl) (pe_callB (r := rSortRows K) (cr_sortRows rfl hu) rfl T3.msor (by decide +kernel) (pa_cons (pe_op op_cat (pe_call GL (hr.mono (by decide)) rfl mL kL bL .nil pass0 (pa_cons (pv 6) pa_nil)) (pe_lc (own := [("_law_cell_here", 19)]) (g := gName 19) (tt := tYes) (te := tCall (spWishD K) [] E0 (tCons (tVar 19) (tCons (tCB rMin2 (tCons (tVar 2) (tCons (tC (.int 5)) tNil))) tNil))) rfl nd (pi_list (pe_slice sl_list (pv 0) (po_some pe_int) (po_some pe_int))) (blkOk_by (N := nLaw) (sc := defScope sLaw) (by decide +kernel)) (fun _ _ _ _ _ => pg_name (i := 19) nd rfl (Or.inl rfl)) (fun _ _ _ _ _ => pts_nil) (fun _ _ _ _ _ => pe_call GW (hr.mono (by decide)) rfl mW kW bW .nil pass0 (pa_cons (pv 19) (pa_cons (pe_callB (r := rMin2) (call_min2 rfl) rfl T4.mmin PyProof.Rows.boot_min (pa_cons (pv 2) (pa_cons pe_int pa_nil))) pa_nil))))) pa_nil)))
    (pss_cons (ps_set (i := 8) nd rfl (Or.inl rfl) (pe_lst pa_nil))
    (pss_cons (ps_for PassesOwn.never rfl (pi_list (pv 7)) (pg_name (i := 9) nd rfl (Or.inl rfl)) (pss_one (ps_if (PW.pt (pw_or (pt_cmpR op_eq (pe_callB call_len_seq rfl T.mlen PySem.boot_len (pa_cons (pv 8) pa_nil)) pe_int (nomark _)) (pw_or1 (pt_cmpR (op_neD hu) (pe_ix ix_list (pv 8) (pe_un un_neg pe_int) (fun _ _ => rfl)) (pv 9) (nomark _))))) (pss_one (ps_expr (pe_bm PySem.F.plainAttrs_list PySem.F.slot_list_append PySem.F.type_list_append mt_append (pv 8) (pa_cons (pv 9) pa_nil)))) pss_nil)))
    (pss_cons (ps_set (i := 10) nd rfl (Or.inl rfl) (pe_make MB GB (hr.mono (by decide)) rfl T5.gC bB .nil pass0 (pa_cons (pv 2) (pa_cons (pe_lc (own := [("_law_wish_here", 20)]) (g := gName 20) (tt := tYes) (te := tCB (rListOf K) (tCons (tVar 20) tNil)) rfl nd (pi_list (pv 8)) (blkOk_by (N := nLaw) (sc := defScope sLaw) (by decide +kernel)) (fun _ _ _ _ _ => pg_name (i := 20) nd rfl (Or.inl rfl)) (fun _ _ _ _ _ => pts_nil) (fun _ _ _ _ _ => pe_callTy (r := rListOf K) call_list_of rfl T3.mlis PyProof.Rows.boot_list (pa_cons (pv 20) pa_nil))) pa_nil))))
    (pss_cons (ps_set (i := 11) nd rfl (Or.inl rfl) (pe_call GI (hr.mono (by decide)) rfl mI kI bI .nil pass0 (pa_cons (pv 6) (pa_cons (pv 8) pa_nil))))
    (pss_cons (ps_if (PW.pt (pw_or (pt_cmp (pc_notN (pe_call GU (hr.mono (by decide)) rfl mU kU bU .nil pass0 (pa_cons (pv 2) (pa_cons (pv 8) (pa_cons (pv 11) pa_nil)))))) (pw_or1 (pt_not (pt_val (pe_call GJ (hr.mono (by decide)) rfl mJ kJ bJ .nil pass0 (pa_cons (pv 2) (pa_cons (pv 8) (pa_cons (pv 10) (pa_cons (pv 11) pa_nil)))))))))) (pss_one (ps_ret pe_bl)) pss_nil)
    (pss_cons (ps_set (i := 12) nd rfl (Or.inl rfl) (pe_call GP (hr.mono (by decide)) rfl mP kP bP .nil pass0 (pa_cons (pv 11) (pa_cons (pe_tup pa_nil) pa_nil))))
    (pss_cons (ps_set (i := 13) nd rfl (Or.inl rfl) (pe_call GD (hr.mono (by decide)) rfl mD kD bD .nil pass0 (pa_cons (pe_call GS (hr.mono (by decide)) rfl mS kS bS .nil pass0 (pa_cons (pv 0) (pa_cons pe_int pa_nil))) (pa_cons pe_int pa_nil))))
    (pss_cons (ps_for PassesOwn.never rfl (pi_range1 rfl T.mran (pa_cons pe_int pa_nil)) (pg_name (i := 14) nd rfl (Or.inl rfl)) (pss_cons (ps_set (i := 15) nd rfl (Or.inl rfl) (pv 11))
    (pss_cons (ps_for PassesOwn.never rfl (pi_range1 rfl T.mran (pa_cons (pe_op op_add pe_int (pe_op op_mod (pv 14) pe_int)) pa_nil)) (pg_name (i := 16) nd rfl (Or.inl rfl)) (pss_cons (ps_set (i := 17) nd rfl (Or.inl rfl) (pe_ix ix_list (pv 12) (pe_op op_mod (pe_op op_add (pe_op op_add (pe_ix ix_list (pv 13) (pe_op op_add (pe_op op_mul pe_int (pv 14)) (pv 16)) (fun _ _ => rfl)) (pe_op op_mul pe_int (pe_ix ix_list (pv 13) (pe_op op_sub pe_int (pv 14)) (fun _ _ => rfl)))) (pv 16)) (pe_callB call_len_seq rfl T.mlen PySem.boot_len (pa_cons (pv 12) pa_nil))) (fun _ _ => rfl)))
    (pss_cons (ps_weak (ps_if (PW.pt (pw_and (pt_cmpR op_eq (pv 16) pe_int (nomark _)) (pw_and1 (pt_cmpR (op_notInD hu65) (pv 17) (pe_call GP (hr.mono (by decide)) rfl mP kP bP .nil pass0 (pa_cons (pv 15) (pa_cons (pe_tup pa_nil) pa_nil))) (by with_unfolding_all rfl))))) (pss_one (ps_set (i := 17) nd rfl (Or.inl rfl) (pe_tup pa_nil))) pss_nil) w_np)
    (pss_cons (ps_set (i := 18) nd rfl (Or.inl rfl) (pe_call GO (hr.mono (by decide)) rfl mO kO bO .nil pass0 (pa_cons (pv 2) (pa_cons (pe_callB call_len_seq rfl T.mlen PySem.boot_len (pa_cons (pv 8) pa_nil)) (pa_cons (pe_call GN (hr.mono (by decide)) rfl mN kN bN .nil pass0 (pa_cons (pv 15) (pa_cons (pv 17) pa_nil))) (pa_cons (pe_ix ix_list (pv 13) (pe_op op_add (pe_op op_add (pe_op op_mul pe_int (pv 14)) pe_int) (pv 16)) (fun _ _ => rfl)) (pa_cons (pe_ix ix_list (pv 13) (pe_op op_sub (pe_op op_add (pe_op op_mul pe_int (pv 14)) pe_int) (pv 16)) (fun _ _ => rfl)) pa_nil)))))))
    (pss_one (ps_set (i := 15) nd rfl (Or.inl rfl) (pe_call GQ (hr.mono (by decide)) rfl mQ kQ bQ .nil pass0 (pa_cons (pv 15) (pa_cons (pv 17) (pa_cons (pv 18) pa_nil))))))))))
    (pss_cons (ps_if (pt_cmpR op_gt (pv 14) pe_int (nomark _)) (pss_one (ps_set (i := 15) nd rfl (Or.inl rfl) (pe_call GN (hr.mono (by decide)) rfl mN kN bN .nil pass0 (pa_cons (pv 11) (pa_cons (pe_ix ix_list (pv 12) (pe_op op_mod (pe_ix ix_list (pv 13) (pv 14) (fun _ _ => rfl)) (pe_callB call_len_seq rfl T.mlen PySem.boot_len (pa_cons (pv 12) pa_nil))) (fun _ _ => rfl)) pa_nil))))) pss_nil)
    (pss_one (ps_if (pt_not (pt_val (pe_call GJ (hr.mono (by decide)) rfl mJ kJ bJ .nil pass0 (pa_cons (pv 2) (pa_cons (pv 8) (pa_cons (pv 10) (pa_cons (pv 15) pa_nil))))))) (pss_one (ps_ret pe_bl)) pss_nil))))))
    (pss_one (ps_ret (pe_cmp (pc_isN (pe_call GT (hr.mono (by decide)) rfl mT kT bT .nil pass0 (pa_cons (pv 10) (pa_cons (pv 11) pa_nil)))))))))))))))))))))))), ?_⟩
  refine ⟨_, rfl, a, ns, 0, rfl, hS, _, rfl, ?_⟩
  have h0 : 0 ≤ (if ns.getD 0 0 < 0 then -ns.getD 0 0 else ns.getD 0 0) := by split <;> omega
  refine ⟨_, rfl, fun n0 p1 p2 => ⟨_, _, rfl, rfl, p1, by omega, fun n hn0 hn40 => ?_⟩⟩
  refine ⟨_, rfl, a, ns, 1, rfl, hS, by omega, fun z1 _ => ⟨z1, 64, rfl, by omega, fun ds o H1 hl64 hds s1 eo => ?_⟩⟩
  refine ⟨_, rfl, fun nar => ⟨_, rfl, fun d0 q3 q5 => ⟨nar, _, d0, rfl, rfl, rfl, q3, q5, fun kk hk0 hk1 hk2 => ?_⟩⟩⟩
  obtain ⟨k, rfl⟩ := Int.eq_ofNat_of_zero_le hk0
  have hk : k ≤ 24 := by
    cases nar with
    | true => have := hk1 rfl; omega
    | false => have := hk2 rfl; omega
  have hlf : leafB nar k ≤ 32 := by
    cases nar with
    | true => show k + 1 ≤ 32; omega
    | false =>
      have h5 : k ≤ 5 := by have := hk2 rfl; omega
      show 2 ^ k ≤ 32
      exact Nat.pow_le_pow_right (by decide) h5
  -- the grown tree
  refine ⟨_, rfl, _, rfl, Nat.zero_le _, fun e0 he0 => ?_⟩
  have s2 := s1.trans (same_new he0 (.tup []))
  refine ⟨_, rfl, _, rfl, o, e0, ds, n, [], k, 0, nar, rfl, same_new he0 _ _ _ eo, hl64, hds, hn0, hn40, ⟨[], SqT.of upd_same, trivial⟩, List.Pairwise.nil, rfl, by omega, fun p x t at1 H3 s3 ep wp gp hp lp => ?_⟩
  refine ⟨p, _, 0, _, rfl, rfl, SqT.of ep, atI_nat (j := 0) rfl, ?_⟩
  have s13 := s2.trans s3
  obtain ⟨g, M1, gr, gh, gv, gm, gw⟩ := wt_gt wp
  have lM1 : M1.length = t.rows.length := by rw [← gm, List.length_map]
  have gl : g.vals.length = t.rows.length := by rw [gv, List.length_map, lM1]
  -- the rows
  refine ⟨_, rfl, x, g, rfl, gr, by omega, by omega, fun oL H4 s4 _ e4 => ?_⟩
  rw [gv] at e4
  have s14 := s13.trans s4
  refine ⟨_, rfl, 2, rfl, 32, rfl, a, _, rfl, s14.seq hS, fun p5 hp5 => ?_⟩
  have s5 := same_new hp5 (.lst (cutV (ns.map V.int) (some 2) (some 32)))
  have cl : (cutV (ns.map V.int) (some 2) (some 32)).length ≤ 30 := by
    unfold cutV
    rw [List.length_take, List.length_drop, List.length_map]
    have i1 : HT.sIx ns.length 0 (some 2) = min 2 ns.length := HT.sIx_nat _ _ 2
    have i2 : HT.sIx ns.length ns.length (some 32) = min 32 ns.length := HT.sIx_nat _ _ 32
    rw [i1, i2]
    omega
  have ci : ∀ (i : Nat) y, (cutV (ns.map V.int) (some 2) (some 32))[i]? = some y → ∃ z, y = V.int z := by
    intro i y hy
    have hm : y ∈ ns.map V.int := by
      have := List.mem_of_getElem? hy
      unfold cutV at this
      exact List.mem_of_mem_drop (List.mem_of_mem_take this)
    obtain ⟨z, _, e⟩ := List.mem_map.mp hm
    exact ⟨z, e.symm⟩
  refine ⟨p5, rfl, ⟨_, .inl (.inl upd_same)⟩, fun D hD => ?_⟩
  have wOff : ∀ {H6 : Hp} {b : Addr} {acc ys : List V} {q : WRow}, H6 b = some (.lst acc) → WishH K H6 q.1 q.2 → WishH K (upd H6 b (.lst ys)) q.1 q.2 := fun e h => h.off e
  refine lc_list (K := K) (xs := cutV (ns.map V.int) (some 2) (some 32)) (fun i H6 => ∃ acc : List WRow, H6 D = some (.lst (acc.map fun q => V.ref q.1)) ∧ Same (upd H4 p5 (.lst (cutV (ns.map V.int) (some 2) (some 32)))) H6 ∧ (∀ q ∈ acc, WishH K H6 q.1 q.2 ∧ Up q.2 ∧ isR n 0 q.2 = true) ∧ acc.length = i)
    ⟨[], upd_same, same_new hD _, (fun q hq => nomatch hq), rfl⟩ (fun i H6 _ ⟨_, _, sm, _⟩ => .inl (.inl (sm _ _ upd_same))) ?_ ?_
  · rintro i y H6 hi ⟨acc, eD, sm, hacc, hal⟩
    obtain ⟨z, rfl⟩ := ci i y hi
    have hil : i < 30 := Nat.lt_of_lt_of_le (List.getElem?_eq_some_iff.mp hi).1 cl
    have em : (if (5 : Int) < n then 5 else n) = (((if (5 : Int) < n then 5 else n).toNat : Nat) : Int) := by split <;> omega
    have e5 : (if (5 : Int) < n then (5 : Int) else n) ≤ 5 := by split <;> omega
    have en : (if (5 : Int) < n then (5 : Int) else n) ≤ n := by split <;> omega
    refine ⟨rfl, _, rfl, _, rfl, n, 5, rfl, z, (if (5 : Int) < n then 5 else n).toNat, (by show [V.int z, V.int (if (5 : Int) < n then 5 else n)] = _; rw [← em]), by omega, fun t1 H7 r s7 hr1 up1 hR1 _ => ?_⟩
    rw [← em] at hR1
    have eD7 := s7 _ _ eD
    refine ⟨_, eD7, Nat.lt_of_le_of_lt (show (acc.map fun q => V.ref q.1).length ≤ 1000 by rw [List.length_map]; omega) (by decide), acc ++ [(t1, r)], ?_, fun b1 u e => ?_, fun q hq => ?_, by rw [List.length_append, hal]; rfl⟩
    · rw [upd_same, List.map_append]
      rfl
    · rw [upd_ne (ne_of_none e hD)]
      exact s7 _ _ (sm _ _ e)
    · rcases List.mem_append.mp hq with e | e
      · obtain ⟨a1, a2, a3⟩ := hacc q e
        exact ⟨wOff eD7 (a1.same s7), a2, a3⟩
      · rw [List.mem_singleton.mp e]
        exact ⟨wOff (q := (t1, r)) eD7 hr1, up1, isR_mono en r 0 hR1⟩
  rintro H6 ⟨M2, eD, sm, hM2, hM2l⟩
  have s46 := s5.trans sm
  have s16 := s14.trans s46
  refine ⟨oL, D, _, _, rfl, rfl, s46 _ _ e4, eD, Nat.le_trans (show (M1.map fun q => V.ref q.1).length + (M2.map fun q => V.ref q.1).length ≤ 1000 by rw [List.length_map, List.length_map]; omega) (by decide), fun oC hoC => ?_⟩
  have s7 := same_new hoC (.lst ((M1.map fun q => V.ref q.1) ++ M2.map fun q => V.ref q.1))
  have s17 := s16.trans s7
  have hall : ∀ q ∈ M1 ++ M2, WishH K (upd H6 oC (.lst ((M1.map fun q => V.ref q.1) ++ M2.map fun q => V.ref q.1))) q.1 q.2 ∧ Up q.2 ∧ isR n 0 q.2 = true := by
    intro q hq
    rcases List.mem_append.mp hq with e | e
    · have gq := good_rows gp q.2 (by rw [← gm]; exact List.mem_map.mpr ⟨q, e, rfl⟩)
      exact ⟨(gw q e).same (s4.trans (s46.trans s7)), gq⟩
    · obtain ⟨a1, a2⟩ := hM2 q e
      exact ⟨a1.same s7, a2⟩
  have lMM : (M1 ++ M2).length ≤ 62 := by rw [List.length_append]; omega
  refine ⟨oC, M1 ++ M2, rfl, (by rw [List.map_append]; exact .inl (.inl upd_same)), fun q hq => (hall q hq).1, by omega, fun N pR pm asc hpR => ?_⟩
  have s8 := same_new hpR (.lst (N.map fun q => V.ref q.1))
  have s18 := s17.trans s8
  have hN : ∀ q ∈ N, WishH K (upd (upd H6 oC (.lst ((M1.map fun q => V.ref q.1) ++ M2.map fun q => V.ref q.1))) pR (.lst (N.map fun q => V.ref q.1))) q.1 q.2 ∧ Up q.2 ∧ isR n 0 q.2 = true := fun q hq => by
    obtain ⟨a1, a2⟩ := hall q (pm.mem_iff.mp hq)
    exact ⟨a1.same s8, a2⟩
  have lN : N.length ≤ 62 := by rw [pm.length_eq]; exact lMM
  have ePR : (upd (upd H6 oC (.lst ((M1.map fun q => V.ref q.1) ++ M2.map fun q => V.ref q.1))) pR (.lst (N.map fun q => V.ref q.1))) pR = some (.lst (N.map fun q => V.ref q.1)) := upd_same
  have wpR := wp.same (s4.trans (s46.trans (s7.trans s8)))
  have rowsN : ∀ r ∈ t.rows, r ∈ N.map (·.2) := fun r hr => by
    rw [← gm] at hr
    obtain ⟨m, hm, e⟩ := List.mem_map.mp hr
    exact List.mem_map.mpr ⟨m, pm.mem_iff.mpr (List.mem_append_left _ hm), e⟩
  generalize upd (upd H6 oC (.lst ((M1.map fun q => V.ref q.1) ++ M2.map fun q => V.ref q.1))) pR (.lst (N.map fun q => V.ref q.1)) = H8 at s18 hN ePR wpR
  -- each once
  refine ⟨Nat.zero_le _, fun oW hoW => ?_⟩
  have s9 := same_new hoW (.lst [])
  have keepW : ∀ {H' : Hp} {ys : List V}, Same H8 H' → Same H8 (upd H' oW (.lst ys)) := fun sm b z e => by
    rw [upd_ne (ne_of_none e hoW)]
    exact sm _ _ e
  refine ⟨_, rfl, pR, rfl, ⟨_, .inl (.inl (s9 _ _ ePR))⟩, for_list (K := K) (xs := N.map fun q => V.ref q.1) (fun i σ H' => ∃ (W : List WRow) (y1 y9 : Option V), σ = [some (.ref a), y1, some (.int n), some (.ref o), some (.bl nar), some (.int (k : Int)), some x, some (.ref pR), some (.ref oW), y9, none, none, none, none, none, none, none, none, none, none, none] ∧ Same H8 H' ∧ H' oW = some (.lst (W.map fun q => V.ref q.1)) ∧ (∀ q ∈ W, q ∈ N.take i) ∧ Asc (W.map (·.2)) ∧ (∀ q ∈ N.take i, q.2 ∈ W.map (·.2)) ∧ W.length ≤ i)
    ⟨[], _, none, rfl, s9, upd_same, (fun q hq => nomatch hq), List.Pairwise.nil, (fun q hq => by simp at hq), Nat.le_refl _⟩ (fun i σ H' _ ⟨_, _, _, _, sm, _⟩ => .inl (.inl (sm _ _ ePR))) ?_ ?_⟩
  · rintro i y σ H' hi ⟨W, y1, y9, rfl, sm, eW, hWN, hWA, hNW, hWl⟩
    rw [List.getElem?_map] at hi
    cases hq0 : N[i]? with
    | none => rw [hq0] at hi; cases hi
    | some q0 =>
    rw [hq0] at hi
    obtain rfl : V.ref q0.1 = y := Option.some.inj hi
    have hil : i < N.length := (List.getElem?_eq_some_iff.mp hq0).1
    have tk : N.take (i + 1) = N.take i ++ [q0] := by rw [List.take_succ, hq0]; rfl
    obtain ⟨hq1, _, _⟩ := hN q0 (List.mem_of_getElem? hq0)
    have hle : ∀ w ∈ W.map (·.2), wlt q0.2 w = false := by
      intro w hw
      obtain ⟨m, hm, rfl⟩ := List.mem_map.mp hw
      obtain ⟨j, hj⟩ := List.getElem?_of_mem (hWN m hm)
      have hji : j < i := by
        have := (List.getElem?_eq_some_iff.mp hj).1
        rw [List.length_take] at this
        omega
      rw [List.getElem?_take_of_lt hji] at hj
      have a1 : (N.map (·.2))[j]? = some m.2 := by rw [List.getElem?_map, hj]; rfl
      have a2 : (N.map (·.2))[i]? = some q0.2 := by rw [List.getElem?_map, hq0]; rfl
      obtain ⟨b1, c1⟩ := List.getElem?_eq_some_iff.mp a1
      obtain ⟨b2, c2⟩ := List.getElem?_eq_some_iff.mp a2
      rw [← c1, ← c2]
      exact List.pairwise_iff_getElem.mp asc j i b1 b2 hji
    have app : Asc ((W ++ [q0]).map (·.2)) → ∃ (W2 : List WRow) (y1' y9' : Option V), [some (V.ref a), y1, some (.int n), some (.ref o), some (.bl nar), some (.int (k : Int)), some x, some (.ref pR), some (.ref oW), some (.ref q0.1), none, none, none, none, none, none, none, none, none, none, none] = [some (.ref a), y1', some (.int n), some (.ref o), some (.bl nar), some (.int (k : Int)), some x, some (.ref pR), some (.ref oW), y9', none, none, none, none, none, none, none, none, none, none, none] ∧ Same H8 (upd H' oW (.lst ((W.map fun q => V.ref q.1) ++ [V.ref q0.1]))) ∧ (upd H' oW (.lst ((W.map fun q => V.ref q.1) ++ [V.ref q0.1]))) oW = some (.lst (W2.map fun q => V.ref q.1)) ∧ (∀ q ∈ W2, q ∈ N.take (i + 1)) ∧ Asc (W2.map (·.2)) ∧ (∀ q ∈ N.take (i + 1), q.2 ∈ W2.map (·.2)) ∧ W2.length ≤ i + 1 := by
      intro hA
      refine ⟨W ++ [q0], _, _, rfl, keepW sm, by rw [upd_same, List.map_append]; rfl, fun q hq => ?_, hA, fun q hq => ?_, by rw [List.length_append]; show _ + 1 ≤ _; omega⟩
      · rw [tk]
        rcases List.mem_append.mp hq with e | e
        · exact List.mem_append_left _ (hWN q e)
        · exact List.mem_append_right _ e
      · rw [tk] at hq
        rw [List.map_append]
        rcases List.mem_append.mp hq with e | e
        · exact List.mem_append_left _ (hNW q e)
        · rw [List.mem_singleton.mp e]
          exact List.mem_append_right _ (List.mem_singleton.mpr rfl)
    have big : (W.map fun q => V.ref q.1).length < sizeLine := Nat.lt_of_le_of_lt (show (W.map fun q => V.ref q.1).length ≤ 1000 by rw [List.length_map]; omega) (by decide)
    have wl : (W.map fun q => V.ref q.1).length = W.length := List.length_map _
    refine ⟨_, rfl, oW, _, rfl, .inl (.inl (.inl eW)), rfl, _, rfl, ?_⟩
    by_cases c0 : W = []
    · refine iteD (by rw [c0]; rfl) (iteT ⟨.ref oW, rfl, .inl ⟨rfl, _, .inl (.inl eW)⟩, _, rfl, oW, _, _, rfl, rfl, eW, big, ?_⟩)
      exact app (by rw [c0]; exact List.pairwise_singleton _ _)
    obtain ⟨W0, l, rfl⟩ : ∃ W0 l, W = W0 ++ [l] := by
      rcases List.eq_nil_or_concat W with e | ⟨W0, l, e⟩
      · exact absurd e c0
      · exact ⟨W0, l, by rw [e, List.concat_eq_append]⟩
    have lastA : atI ((W0 ++ [l]).map fun q => V.ref q.1) (-1) = some (V.ref l.1) := by
      rw [List.map_append]
      exact atI_last _ _
    have hl1 : WishH K H' l.1 l.2 := (hN l (List.mem_of_mem_take (hWN l (List.mem_append_right _ (List.mem_singleton.mpr rfl))))).1.same sm
    refine iteND (fun z => by have z2 := V.int.inj z; rw [wl, List.length_append] at z2; simp at z2; omega) ⟨_, rfl, 1, rfl, oW, _, -1, _, rfl, rfl, .inl (.inl eW), lastA, _, rfl, dWish l.2, dWish q0.2, dp_wish hl1, dp_wish (hq1.same sm), wish_shaped _, wish_shaped _, _, rfl, ?_⟩
    rw [eqv_wish]
    by_cases ce : l.2 = q0.2
    · rw [decide_eq_true ce]
      refine iteF ⟨W0 ++ [l], y1, _, rfl, sm, eW, fun q hq => ?_, hWA, fun q hq => ?_, by omega⟩
      · rw [tk]
        exact List.mem_append_left _ (hWN q hq)
      · rw [tk] at hq
        rcases List.mem_append.mp hq with e | e
        · exact hNW q e
        · rw [List.mem_singleton.mp e, ← ce]
          exact List.mem_map.mpr ⟨l, List.mem_append_right _ (List.mem_singleton.mpr rfl), rfl⟩
    · rw [decide_eq_false ce]
      refine iteT ⟨.ref oW, rfl, .inl ⟨rfl, _, .inl (.inl eW)⟩, _, rfl, oW, _, _, rfl, rfl, eW, big, ?_⟩
      refine app ?_
      rw [List.map_append]
      refine asc_snoc hWA hle fun w hw => ?_
      have : l.2 = w := by simpa using hw
      rw [← this]
      exact ce
  rintro σ H9 ⟨W, y1, y9, rfl, sm9, eW, hWN, hWA, hNW, hWl⟩
  rw [List.length_map, List.take_length] at hWN hNW
  have s19 := s18.trans sm9
  have lW : W.length ≤ 62 := by
    rw [List.length_map] at hWl
    omega
  have hWg : ∀ q ∈ W, WishH K H9 q.1 q.2 ∧ Up q.2 ∧ isR n 0 q.2 = true := fun q hq => by
    obtain ⟨a1, a2⟩ := hN q (hWN q hq)
    exact ⟨a1.same sm9, a2⟩
  have rowsW : ∀ r ∈ t.rows, r ∈ W.map (·.2) := fun r hr => by
    obtain ⟨m, hm, e⟩ := List.mem_map.mp (rowsN r hr)
    rw [← e]
    exact hNW m hm
  have lenW : ∀ r ∈ W.map (·.2), r.length ≤ 900 := fun r hr => by
    obtain ⟨m, hm, e⟩ := List.mem_map.mp hr
    have := isR_len _ 0 (hWg m hm).2.2
    rw [← e]
    omega
  have wp9 := wpR.same sm9
  have hRows : RowsL K H9 oW (W.map (·.2)) := ⟨W, rfl, .inl (.inl eW), fun q hq => (hWg q hq).1⟩
  -- the book
  refine ⟨_, rfl, _, rfl, oW, rfl, ⟨_, .inl (.inl eW)⟩, fun D2 hD2 => ?_⟩
  refine lc_list (K := K) (xs := W.map fun q => V.ref q.1) (fun i H' => ∃ rs : List WRow, H' D2 = some (.lst (rs.map fun q => V.ref q.1)) ∧ Same H9 H' ∧ (∀ q ∈ rs, q.1 ≠ D2 ∧ ∃ xs, H' q.1 = some (.lst xs) ∧ WishH.EachV (WordH K H') xs q.2) ∧ rs.map (·.2) = (W.map (·.2)).take i)
    ⟨[], upd_same, same_new hD2 _, (fun q hq => nomatch hq), rfl⟩ (fun i H' _ ⟨_, _, sm, _⟩ => .inl (.inl (sm _ _ eW))) ?_ ?_
  · rintro i y H' hi ⟨rs, eD2, sm2, hrs, hrm⟩
    rw [List.getElem?_map] at hi
    cases hq0 : W[i]? with
    | none => rw [hq0] at hi; cases hi
    | some q0 =>
    rw [hq0] at hi
    obtain rfl : V.ref q0.1 = y := Option.some.inj hi
    obtain ⟨xs0, hx0, hE0⟩ := (hWg q0 (List.mem_of_getElem? hq0)).1.same sm2
    have hil : i < W.length := (List.getElem?_eq_some_iff.mp hq0).1
    have lrs : rs.length ≤ i := by
      have := congrArg List.length hrm
      rw [List.length_map, List.length_take] at this
      omega
    refine ⟨rfl, _, rfl, q0.1, xs0, rfl, .inr hx0, fun l hl => ?_⟩
    have s3' := same_new hl (.lst xs0)
    have eD3 := s3' _ _ eD2
    refine ⟨_, eD3, Nat.lt_of_le_of_lt (show (rs.map fun q => V.ref q.1).length ≤ 1000 by rw [List.length_map]; omega) (by decide), rs ++ [(l, q0.2)], ?_, fun b1 u e => ?_, fun q hq => ?_, ?_⟩
    · rw [upd_same, List.map_append]
      rfl
    · rw [upd_ne (ne_of_none e hD2)]
      exact s3' _ _ (sm2 _ _ e)
    · have wO : ∀ x p, WordH K (upd H' l (.lst xs0)) x p → WordH K (upd (upd H' l (.lst xs0)) D2 (.lst ((rs.map fun q => V.ref q.1) ++ [V.ref l]))) x p := fun x p ⟨b, e1, e2⟩ => ⟨b, e1, sqT_offL (K := K) eD3 e2⟩
      rcases List.mem_append.mp hq with e | e
      · obtain ⟨hne, xs1, h1, h2⟩ := hrs q e
        exact ⟨hne, xs1, (upd_ne hne).trans (s3' _ _ h1), eachV_mono (fun x p h => wO x p (h.same s3')) h2⟩
      · rw [List.mem_singleton.mp e]
        have hne : l ≠ D2 := fun z => by rw [z, eD2] at hl; cases hl
        exact ⟨hne, xs0, (upd_ne hne).trans upd_same, eachV_mono (fun x p h => wO x p (h.same s3')) hE0⟩
    · rw [List.map_append, hrm, List.take_succ, List.getElem?_map, hq0]
      rfl
  rintro HA ⟨rs, eD2, smA, hrs, hrm⟩
  rw [List.length_map, ← List.length_map (f := fun q : WRow => q.2), List.take_length] at hrm
  have lrs : rs.length = W.length := by
    have := congrArg List.length hrm
    rw [List.length_map, List.length_map] at this
    exact this
  -- the book at bk
  refine fun bk dx hbk hdx hne => ?_
  have sB : Same HA (upd (upd HA dx (.own bk)) bk (.ins C dx [])) := fun b1 u e => by
    rw [upd_ne (ne_of_none e hbk), upd_ne (ne_of_none e hdx)]
    exact e
  refine ⟨bk, dx, n, D2, rs, W.map (·.2), rfl, upd_same, hn0, hn40, .inl (.inl (sB _ _ eD2)), fun q hq => ⟨?_, ?_⟩, by omega, fun q hq => ?_, by rw [List.length_map]; omega, fun N2 HB ascB memB _ keepB hBk => ⟨rfl, ?_⟩⟩
  · obtain ⟨_, xs1, h1, h2⟩ := hrs q hq
    exact ⟨xs1, .inl (.inl (sB _ _ h1)), eachV_mono (fun x p h => h.same sB) h2⟩
  · have hm : q.2 ∈ W.map (·.2) := by rw [← hrm]; exact List.mem_map.mpr ⟨q, hq, rfl⟩
    obtain ⟨m, hm2, e⟩ := List.mem_map.mp hm
    obtain ⟨_, g1, g2⟩ := hWg m hm2
    rw [← e]
    have := isR_len _ 0 g2
    exact ⟨g1, g2, by omega⟩
  · rw [← hrm]
    exact List.mem_map.mpr ⟨q, hq, rfl⟩
  have eN2 : N2 = W.map (·.2) := asc_uniq ascB hWA fun r => by rw [memB r, hrm]
  subst eN2
  have sAB : Same HA HB := fun b1 u e => keepB b1 u (sB _ _ e) (ne_of_none e hbk)
  have s9B := smA.trans sAB
  have s1B := s19.trans s9B
  -- the right tree
  refine ⟨_, rfl, _, rfl, x, oW, t, W.map (·.2), rfl, wp9.same s9B, hRows.same s9B, rowsW, by omega, fun y HC sC hy => ?_⟩
  have s9C := s9B.trans sC
  have s1C := s1B.trans sC
  have hRC := hRows.same s9C
  have hBC := hBk.same sC
  have hhigh := idx_high (W.map (·.2)) t
  have hsize := idx_size (W.map (·.2)) t
  obtain ⟨fit0, nam0⟩ := good_fit hn40 hn0 (N := W.map (·.2)) gp
  have right := good_treeF gp rowsW
  have tpos := wt_pos t
  have W1 : 1 ≤ (W.map (·.2)).length := by
    cases hw : W.map (·.2) with
    | nil =>
      cases ht : t.rows with
      | nil => rw [ht] at tpos; cases tpos
      | cons r0 rr =>
        have := rowsW r0 (by rw [ht]; exact List.mem_cons_self)
        rw [hw] at this
        cases this
    | cons _ _ => show 1 ≤ _ + 1; omega
  generalize t.idx (W.map (·.2)) = tr at hy hhigh hsize fit0 nam0 right
  have eWC : HC oW = some (.lst (W.map fun q => V.ref q.1)) := s9C _ _ eW
  have trH : tr.high ≤ 25 := by omega
  have trS : tr.size ≤ 200 := by omega
  have judge : ∀ {u : LT}, Fit 364 u → Thin u := fun h => (h.mono (by decide)).thin
  refine ⟨_, rfl, _, rfl, _, rfl, n, oW, y, W.map (·.2), tr, rfl, hRC, hy, by omega, by omega, judge (fit0.mono (by decide)), lenW, fun _ HD sD => ?_, fun pl kd hk => by rw [right] at hk; cases hk⟩
  refine ⟨_, rfl, iteF ⟨_, rfl, _, rfl, _, rfl, _, rfl, oW, bk, y, n, W.map (·.2), tr, rfl, hRC.same sD, hBC.same sD, hy.same sD, by omega, by omega, judge (fit0.mono (by decide)), lenW, fun HE sE => ⟨_, rfl, iteF ?_⟩⟩⟩
  have sCE := sD.trans sE
  -- the places
  refine ⟨_, rfl, Nat.zero_le _, fun e1 he1 => ?_⟩
  have sF := same_new he1 (.tup [])
  have sCF := sCE.trans sF
  refine ⟨y, e1, tr, [], rfl, hy.same sCF, upd_same, (by show 0 + tr.high ≤ 1000; omega), by omega, by omega, fun oP ps HG sG _ eP hps => ?_⟩
  have sCG := sCF.trans sG
  have s1G := s1C.trans sCG
  have lps := hps.len
  rw [plsOf_len] at lps
  have trp : 0 < tr.size := by cases tr <;> simp [Ns.LT.size]
  -- more draws
  refine ⟨_, rfl, a, ns, 2, rfl, s1G.seq hS, by omega, fun z2 _ => ⟨z2, 60, rfl, by omega, fun ms oM HI hml hms sI eM => ?_⟩⟩
  have sCI := sCG.trans sI
  have eP' := sI _ _ eP
  have hps' := hps.same sI
  have hRI := hRC.same sCI
  have hBI := hBC.same sCI
  have hyI := hy.same sCI
  have eWI := sCI _ _ eWC
  have moreAt : ∀ (j : Nat), j < 60 → ∃ d, (ms.map V.int)[j]? = some (.int d) ∧ 0 ≤ d := by
    intro j hj
    have hjl : j < ms.length := by omega
    exact ⟨ms[j], by rw [List.getElem?_map, List.getElem?_eq_getElem hjl]; rfl, (hms _ (List.getElem_mem hjl)).1⟩
  refine ⟨_, rfl, by decide, by decide, for_range (n := 12) (fun i σ H' => ∃ (y1 y9 y14 y15 y16 y17 y18 : Option V), σ = [some (.ref a), y1, some (.int n), some (.ref o), some (.bl nar), some (.int (k : Int)), some x, some (.ref pR), some (.ref oW), y9, some (.ref bk), some y, some (.ref oP), some (.ref oM), y14, y15, y16, y17, y18, none, none] ∧ Same HI H')
    ⟨_, _, none, none, none, none, none, rfl, Same.refl HI⟩ ?_ ?_⟩
  · rintro i σ HJ hi ⟨y1, y9, y14, y15, y16, y17, y18, rfl, sJ⟩
    have base : ∀ {H' : Hp}, Same HJ H' → Same HI H' := fun s => sJ.trans s
    have mAt : ∀ {H' : Hp} (z : Int) (j : Nat), Same HJ H' → z = (j : Int) → j < 60 → ∃ d : Int, SqL K H' oM (ms.map V.int) ∧ atI (ms.map V.int) z = some (.int d) ∧ 0 ≤ d := by
      intro H' z j s hz hj
      obtain ⟨d, hd, d0⟩ := moreAt j hj
      exact ⟨d, .inl (.inl (base s _ _ eM)), atI_of hz hd, d0⟩
    have hPs : ∀ {H' : Hp}, Same HJ H' → SqL K H' oP ps := fun s => .inl (.inl (base s _ _ eP'))
    have pick : ∀ {H' : Hp} (z : Int), Same HJ H' → ∃ (b : Addr) (pl : List Int) (t' : LT), atI ps (z % ((ps.length : Nat) : Int)) = some (.ref b) ∧ H' b = some (.tup (pl.map V.int)) ∧ tr.sub pl = some t' ∧ pl.length ≤ 100 := by
      intro H' z s
      have h1 := Int.emod_nonneg z (show ((ps.length : Nat) : Int) ≠ 0 by omega)
      have h2 := Int.emod_lt_of_pos z (show (0 : Int) < ((ps.length : Nat) : Int) by omega)
      have hjl : (z % ((ps.length : Nat) : Int)).toNat < (plsOf [] tr).length := by rw [plsOf_len]; omega
      obtain ⟨x', hx', b, rfl, hb⟩ := (hps'.same (base s)).at_ (List.getElem?_eq_getElem hjl)
      obtain ⟨sl, t', es, ht, hl⟩ := pls_sub tr [] _ (List.getElem_mem hjl)
      have es2 : (plsOf [] tr)[(z % ((ps.length : Nat) : Int)).toNat] = sl := es
      rw [es2] at hb
      exact ⟨b, sl, t', atI_of (i := (z % ((ps.length : Nat) : Int)).toNat) (by omega) hx', hb, ht, by omega⟩
    have posP : (0 : Int) < ((ps.length : Nat) : Int) := by omega
    refine ⟨_, rfl, ?_⟩
    refine ⟨_, rfl, _, _, rfl, rfl, (by show (0 : Int) < 2; decide), _, _, rfl, rfl, 1 + (0 + (i : Int)) % 2, rfl, by omega, by omega, for_range (n := (1 + (0 + (i : Int)) % 2).toNat) (fun j σ H' => ∃ (y1 y9 y16 y17 y18 : Option V) (v : V) (u : LT), σ = [some (.ref a), y1, some (.int n), some (.ref o), some (.bl nar), some (.int (k : Int)), some x, some (.ref pR), some (.ref oW), y9, some (.ref bk), some y, some (.ref oP), some (.ref oM), some (.int (0 + (i : Int))), some v, y16, y17, y18, none, none] ∧ Same HJ H' ∧ LRep K H' v u ∧ u.size ≤ 200 ∧ u.high ≤ 25 ∧ Fit (if j = 0 then 40 else if j = 1 then 121 else 364) u ∧ Named n u ∧ (j = 0 → u = tr))
      ⟨_, _, _, _, _, y, tr, rfl, Same.refl HJ, hyI.same sJ, by omega, by omega, fit0, nam0, fun _ => rfl⟩ ?_ ?_⟩
    · rintro j σ H' hj ⟨y1, y9, y16, y17, y18, v, u, rfl, sK, hv, us, uh, uf, un, utr⟩
      have hj2 : j < 2 := by omega
      have hi12 : i < 12 := hi
      obtain ⟨da, qa1, qa2, _⟩ := mAt (H' := H') (5 * (0 + (i : Int)) + (0 + (j : Int))) (5 * i + j) sK (by omega) (by omega)
      obtain ⟨db, qb1, qb2, _⟩ := mAt (H' := H') (59 - (0 + (i : Int))) (59 - i) sK (by omega) (by omega)
      obtain ⟨b, pl, t', pa1, pa2, pa3, pa4⟩ := pick (H' := H') (da + 60 * db + (0 + (j : Int))) sK
      refine ⟨_, rfl, _, rfl, _, rfl, _, _, rfl, rfl, .inl ⟨by decide, by decide⟩, _, rfl, _, _, rfl, rfl, oM, _, _, .int da, rfl, rfl, qa1, qa2, ?_⟩
      refine ⟨_, rfl, _, rfl, _, _, rfl, rfl, oM, _, _, .int db, rfl, rfl, qb1, qb2, _, _, rfl, rfl, .inl ⟨by decide, by decide⟩, _, _, rfl, rfl, _, rfl, _, _, rfl, rfl, ?_⟩
      refine ⟨_, rfl, oP, _, rfl, .inl (hPs sK), _, _, rfl, rfl, posP, oP, _, _, .ref b, rfl, rfl, hPs sK, pa1, ?_⟩
      refine ⟨0 + (j : Int), b, pl, v, u, rfl, rfl, pa2, rfl, hv, by omega, by omega, fun hj1 => ?_, fun b' pl' t2 HL sL hb' ht2 hpl' => ?_⟩
      · have : j = 0 := by omega
        exact ⟨t', by rw [utr this]; exact pa3, pa4⟩
      have sKL := sK.trans sL
      have hvL := hv.same sL
      refine ⟨_, rfl, _, rfl, oW, _, rfl, .inl (.inl (.inl (base sKL _ _ eWI))), ?_⟩
      refine ⟨_, rfl, _, rfl, v, b', u, t2, pl', rfl, hvL, SqT.of hb', ht2, fun x2 hx2 => ?_⟩
      obtain ⟨dc, qc1, qc2, _⟩ := mAt (H' := HL) (5 * (0 + (i : Int)) + 2 + (0 + (j : Int))) (5 * i + 2 + j) sKL (by omega) (by omega)
      obtain ⟨dd, qd1, qd2, _⟩ := mAt (H' := HL) (5 * (0 + (i : Int)) + 4 - (0 + (j : Int))) (5 * i + 4 - j) sKL (by omega) (by omega)
      refine ⟨_, rfl, _, rfl, _, _, rfl, rfl, .inl ⟨by decide, by decide⟩, _, _, rfl, rfl, _, rfl, _, _, rfl, rfl, oM, _, _, .int dc, rfl, rfl, qc1, qc2, ?_⟩
      refine ⟨_, rfl, _, rfl, _, _, rfl, rfl, .inl ⟨by decide, by decide⟩, _, _, rfl, rfl, _, rfl, _, _, rfl, rfl, oM, _, _, .int dd, rfl, rfl, qd1, qd2, ?_⟩
      obtain ⟨sb1, sb2, sb3, sb4⟩ := sub_bounds (b := if j = 0 then 40 else if j = 1 then 121 else 364) (n := n) pl' u t2 ht2
      have hb200 : (if j = 0 then 40 else if j = 1 then 121 else 364) ≤ 200 := by split; omega; split; omega; omega
      refine ⟨n, _, dc, dd, x2, t2, _, rfl, (by show (1 : Int) ≤ (((W.map fun q => V.ref q.1).length : Nat) : Int); rw [List.length_map] at W1 ⊢; omega), hx2, sb4 un, sb1 uf, hb200, fun y3 t3 HM sM hy3 z1 z2 z3 z4 => ?_⟩
      obtain ⟨pb1, pb2, pb3, pb4⟩ := put_bounds (b := 3 * (if j = 0 then 40 else if j = 1 then 121 else 364) + 1) (n := n) (u := t3) pl' u t2 ht2 z1 z2
      refine ⟨_, rfl, _, rfl, _, rfl, v, y3, b', u, t2, t3, pl', rfl, hvL.same sM, hy3, SqT.of (sM _ _ hb'), ht2, hpl', fun x4 HN sN hx4 => ?_⟩
      refine ⟨_, _, _, _, _, x4, LT.put t3 u pl', rfl, sKL.trans (sM.trans sN), hx4, by omega, by omega, ?_, pb4 un z4, fun z => by omega⟩
      have := pb1 (uf.mono (by omega)) z3
      refine this.mono ?_
      have : j = 0 ∨ j = 1 := by omega
      rcases this with rfl | rfl <;> decide
    · rintro σ HK ⟨y1, y9, y16, y17, y18, v, u, rfl, sK, hv, us, uh, uf, un, utr⟩
      have ff : Fit 364 u := uf.mono (by split; omega; split; omega; omega)
      refine ⟨_, rfl, _, _, rfl, rfl, _, rfl, ite2 (fun _ => ?_) (fun _ => ?_)⟩
      · obtain ⟨da, qa1, qa2, _⟩ := mAt (H' := HK) (0 + (i : Int)) i sK (by omega) (by omega)
        obtain ⟨b, pl, t', pa1, pa2, pa3, pa4⟩ := pick (H' := HK) da sK
        refine ⟨_, rfl, _, rfl, _, rfl, _, rfl, oM, _, _, .int da, rfl, rfl, qa1, qa2, _, rfl, oP, _, rfl, .inl (hPs sK), _, _, rfl, rfl, posP, oP, _, _, .ref b, rfl, rfl, hPs sK, pa1, ?_⟩
        refine ⟨y, b, tr, t', pl, rfl, hyI.same (base sK), SqT.of pa2, pa3, fun x2 hx2 => ?_⟩
        obtain ⟨sb1, sb2, sb3, _⟩ := sub_bounds (b := 40) (n := n) pl tr t' pa3
        refine ⟨_, rfl, _, rfl, _, rfl, _, rfl, oW, bk, x2, n, W.map (·.2), t', rfl, hRI.same (base sK), hBI.same (base sK), hx2, by omega, by omega, judge ((sb1 fit0).mono (by decide)), lenW, fun H2 s2' => ⟨_, rfl, iteF ?_⟩⟩
        exact ⟨_, _, _, _, _, _, _, rfl, base (sK.trans s2')⟩
      · refine ⟨_, rfl, _, rfl, _, rfl, _, rfl, oW, bk, v, n, W.map (·.2), u, rfl, hRI.same (base sK), hBI.same (base sK), hv, by omega, by omega, judge ff, lenW, fun H2 s2' => ⟨_, rfl, iteF ?_⟩⟩
        exact ⟨_, _, _, _, _, _, _, rfl, base (sK.trans s2')⟩
  · rintro σ HJ ⟨y1, y9, y14, y15, y16, y17, y18, rfl, sJ⟩
    refine ⟨_, rfl, _, rfl, bk, y, n, W.map (·.2), tr, rfl, hBI.same sJ, hyI.same sJ, by omega, judge (fit0.mono (by decide)), lenW, fun _ HK sK => q HK, fun pl kd hk => by rw [right] at hk; cases hk⟩
end
end Km
/-! KmEnd -/
set_option Elab.async false
set_option linter.all false
set_option maxRecDepth 100000
set_option maxHeartbeats 4000000
namespace Km
open PySem PySem.Spec PyProof.Rows L2 Ns
section
variable {P : Program} {w : World} {K : PySem.W.Frag} {mg : Str → Option Value} {base : Heap} {f : Addr} {fd : FuncData}
theorem kit_true {x : Value} {c : Addr} (hd : PySem.W.hasDictIn K c = true) (ht : PySem.W.typeIn K (.ref c) = some (.type "type")) (hs : PySem.W.subIn K x (.ref c) = some true) : PySem.W.kitOne K x (.ref c) = some true := by
  unfold PySem.W.kitOne
  by_cases e : (x == Value.ref c) = true
  · rw [if_pos e]
  · rw [if_neg e]
    obtain ⟨cd, hc, _⟩ := PySem.W.any_some hd
    have e2 : ((PySem.W.clsIn K c).isSome && PySem.W.typeIn K (.ref c) == some (.type "type")) = true := by rw [hc, ht] <;> rfl
    show (if ((PySem.W.clsIn K c).isSome && PySem.W.typeIn K (.ref c) == some (.type "type")) = true then PySem.W.subIn K x (.ref c) else none) = some true
    rw [if_pos e2]
    exact hs
theorem kit_cls_of {x : Value} {c : Addr} {b : Bool} (hd : PySem.W.hasDictIn K c = true) (ht : PySem.W.typeIn K (.ref c) = some (.type "type")) (hs : PySem.W.subIn K x (.ref c) = some b) (hx : x ≠ .ref c) : PySem.W.kitOne K x (.ref c) = some b := by
  obtain ⟨cd, hc, _⟩ := PySem.W.any_some hd
  have e2 : ((PySem.W.clsIn K c).isSome && PySem.W.typeIn K (.ref c) == some (.type "type")) = true := by rw [hc, ht] <;> rfl
  unfold PySem.W.kitOne
  rw [if_neg (fun z => hx (beq_iff_eq.mp z))]
  show (if ((PySem.W.clsIn K c).isSome && PySem.W.typeIn K (.ref c) == some (.type "type")) = true then PySem.W.subIn K x (.ref c) else none) = some b
  rw [if_pos e2]
  exact hs
theorem ownF0 {ps : List Str} {k : Nat} : FnOk P w K mg base CX0 k f fd ps (spOwnF K 0) := by
  have no : ∀ vs H Q E, ¬ spOwnF K 0 vs H Q E := fun vs H Q E h => by
    obtain ⟨n, b, pa, x, N, t, pl, _, _, _, _, _, _, _, h1, _⟩ := h
    cases t <;> simp [Ns.LT.high] at h1
  exact ⟨fun vs H Q E h => absurd h (no vs H Q E), fun A outer s H args us vs Q E _ _ _ _ h => absurd h (no vs H Q E)⟩
theorem all_ownF {fR fL : Addr} {fdR fdL : FuncData} (ml : mg "len" = none) (mr : mg "range" = none) (F : Fun K "_law_node_fault" "_law_node_fault" sOwnF f fd) (b0 : Binds K fd ["_law_names", "_law_wishes", "_law_paper", "_law_place"] []) (m0 : mg "_law_node_fault" = some (.ref f))
    (GR : FnOk P w K mg base CX0 1 fR fdR ["_law_names", "_law_row"] (spRight K)) (kR : PySem.W.keepIn K (.ref fR) = true) (bR : Binds K fdR ["_law_names", "_law_row"] []) (mR : mg "_law_right_row" = some (.ref fR))
    (GL : FnOk P w K mg base CX0 1 fL fdL ["_law_wishes", "_law_paper"] (spOwnLine K)) (kL : PySem.W.keepIn K (.ref fL) = true) (bL : Binds K fdL ["_law_wishes", "_law_paper"] []) (mL : mg "_law_line" = some (.ref fL)) : ∀ n : Nat, FnOk P w K mg base CX0 (n + 1) f fd ["_law_names", "_law_wishes", "_law_paper", "_law_place"] (spOwnF K n)
  | 0 => ownF0
  | n + 1 => ok_ownF ml mr F b0 m0 (all_ownF ml mr F b0 m0 GR kR bR mR GL kL bL mL n) GR kR bR mR GL kL bL mL
theorem all_put (ml : mg "len" = none) (F : Fun K "_law_put" "_law_put" sPut f fd) (b0 : Binds K fd ["_law_paper", "_law_place", "_law_node_here"] []) (m0 : mg "_law_put" = some (.ref f)) : ∀ n : Nat, FnOk P w K mg base CX0 (n + 1) f fd ["_law_paper", "_law_place", "_law_node_here"] (spPut K n)
  | 0 => ok_put ml F b0 m0 (fun n h => absurd h (Nat.succ_ne_zero n))
  | n + 1 => ok_put ml F b0 m0 (fun k h => by
      have e : k = n := Nat.succ.inj h
      subst e
      exact all_put ml F b0 m0 k)
end
theorem all_mk {l : PySem.W.OpenLaw} {w : World} {K : PySem.W.Frag} {h : Heap} {mg : Str → Option Value} {fa C CP B BL BW fI fB cc cda : Addr} {f1 f2 f3 f4 f5 f6 f7 f8 f9 f10 f11 f12 f13 f14 f15 f16 f17 f18 f19 f20 f21 f22 f23 f24 f25 f26 f27 f28 f29 f30 f31 f32 f33 f34 f35 : Addr} (X : K.In h) (G : h.Ns mainGlobals mg) (hfa : mg "law" = some (.ref fa))
    {nm q2 : Str} {N : Addr} {bs : List Value} {sn : List Str} {sub : List Value} {ab : Bool} {col : Option Bool} {dd : Option Addr} {m0 m1 m2 m3 m5 : Option Value}
    {od0 an0 cld cdd odB anB : Option Addr} {sl0 csl ccs slB : Array (Option Value)} {oc0 dc0 pm0 ct0 cl ccl ocB kVB dcB pmB cdB ctB : Value} {vs : Array Value} {file : Str} {tf t40 t128 : Tok}
    {od1 an1 od2 an2 od3 an3 od4 an4 od5 an5 od6 an6 od7 an7 od8 an8 od9 an9 od10 an10 od11 an11 od12 an12 od13 an13 od14 an14 od15 an15 od16 an16 od17 an17 od18 an18 od19 an19 od20 an20 od21 an21 od22 an22 od23 an23 od24 an24 od25 an25 od26 an26 od27 an27 od28 an28 od29 an29 od30 an30 od31 an31 od32 an32 od33 an33 od34 an34 od35 an35 : Option Addr} {sl1 sl2 sl3 sl4 sl5 sl6 sl7 sl8 sl9 sl10 sl11 sl12 sl13 sl14 sl15 sl16 sl17 sl18 sl19 sl20 sl21 sl22 sl23 sl24 sl25 sl26 sl27 sl28 sl29 sl30 sl31 sl32 sl33 sl34 sl35 : Array (Option Value)} {oc1 kV1 dc1 pm1 cd1 ct1 oc2 kV2 dc2 pm2 cd2 ct2 oc3 kV3 dc3 pm3 cd3 ct3 oc4 kV4 dc4 pm4 cd4 ct4 oc5 kV5 dc5 pm5 cd5 ct5 oc6 kV6 dc6 pm6 cd6 ct6 oc7 kV7 dc7 pm7 cd7 ct7 oc8 kV8 dc8 pm8 cd8 ct8 oc9 kV9 dc9 pm9 cd9 ct9 oc10 kV10 dc10 pm10 cd10 ct10 oc11 kV11 dc11 pm11 cd11 ct11 oc12 kV12 dc12 pm12 cd12 ct12 oc13 kV13 dc13 pm13 cd13 ct13 oc14 kV14 dc14 pm14 cd14 ct14 oc15 kV15 dc15 pm15 cd15 ct15 oc16 kV16 dc16 pm16 cd16 ct16 oc17 kV17 dc17 pm17 cd17 ct17 oc18 kV18 dc18 pm18 cd18 ct18 oc19 kV19 dc19 pm19 cd19 ct19 oc20 kV20 dc20 pm20 cd20 ct20 oc21 kV21 dc21 pm21 cd21 ct21 oc22 kV22 dc22 pm22 cd22 ct22 oc23 kV23 dc23 pm23 cd23 ct23 oc24 kV24 dc24 pm24 cd24 ct24 oc25 kV25 dc25 pm25 cd25 ct25 oc26 kV26 dc26 pm26 cd26 ct26 oc27 kV27 dc27 pm27 cd27 ct27 oc28 kV28 dc28 pm28 cd28 ct28 oc29 kV29 dc29 pm29 cd29 ct29 oc30 kV30 dc30 pm30 cd30 ct30 oc31 kV31 dc31 pm31 cd31 ct31 oc32 kV32 dc32 pm32 cd32 ct32 oc33 kV33 dc33 pm33 cd33 ct33 oc34 kV34 dc34 pm34 cd34 ct34 oc35 kV35 dc35 pm35 cd35 ct35 : Value}
    (aC : PySem.W.nsIn K mainGlobals "BadPaper" = some (some (.ref CP)))
    (aB : PySem.W.nsIn K mainGlobals "BookError" = some (some (.ref B)))
    (aL : PySem.W.nsIn K mainGlobals "BadLiar" = some (some (.ref BL)))
    (aW : PySem.W.nsIn K mainGlobals "BadWish" = some (some (.ref BW)))
    (aS : PySem.W.nsIn K mainGlobals "super" = some none)
    (xL : K.lookup CP = some (excClassObj nm q2 CP N bs [.ref B, .type "ValueError", .type "Exception", .type "BaseException", .type "object"] true sn sub ab col dd m0 m1 m2 m3 m5 "ValueError.__new__"))
    (sa : PySem.W.findIn K (.ref CP) "__setattr__" = some (some (.builtin "object.__setattr__")))
    (ga : PySem.W.findIn K (.ref CP) "__getattribute__" = some (some (.builtin "BaseException.__getattribute__")))
    (gg : PySem.W.findIn K (.ref CP) "__getattr__" = some none)
    (nb1 : PySem.W.findIn K (.ref CP) "place" = some none)
    (nb2 : PySem.W.findIn K (.ref CP) "kind" = some none)
    (a0 : PySem.W.findIn K (.ref CP) "__init__" = some (some (.ref fI)))
    (t0 : PySem.W.typeIn K (.ref fI) = some (.type "function"))
    (kC : PySem.W.keepIn K (.ref CP) = true)
    (eC : PySem.W.subIn K (.ref CP) (.type "BaseException") = some true)
    (vC : PySem.W.subIn K (.ref CP) (.type "ValueError") = some true)
    (tC : PySem.W.typeIn K (.ref CP) = some (.type "type"))
    (hC : PySem.W.hasDictIn K CP = true)
    (sC : PySem.W.subIn K (.ref CP) (.ref CP) = some true)
    (sB : PySem.W.subIn K (.ref CP) (.ref B) = some true)
    (sL : PySem.W.subIn K (.ref CP) (.ref BL) = some false)
    (sW : PySem.W.subIn K (.ref CP) (.ref BW) = some false)
    (mC : PySem.W.mroIn K CP (.ref CP) = some true)
    (su : PySem.W.ks_superIn K CP CP "__init__" = some (some (.builtin "ValueError.__init__")))
    (opq : PySem.W.nsIn K cStatics "thirdparty.any" = some none)
    (l0 : K.lookup fI = some ⟨oc0, od0, .func (PySem.W.ksFn "__init__" "BadPaper.__init__" (KmX.xA "place" "kind" ⟨29, 17, 29, 21⟩ ⟨29, 23, 29, 28⟩ ⟨29, 30, 29, 34⟩) (KmX.xB "place" "kind" "the paper has a fault" ⟨30, 8, 30, 13⟩ ⟨30, 8, 30, 15⟩ ⟨30, 25, 30, 48⟩ ⟨30, 8, 30, 49⟩ ⟨31, 8, 31, 12⟩ ⟨31, 8, 31, 18⟩ ⟨31, 21, 31, 26⟩ ⟨31, 8, 31, 26⟩ ⟨32, 8, 32, 12⟩ ⟨32, 8, 32, 17⟩ ⟨32, 20, 32, 24⟩ ⟨32, 8, 32, 24⟩) (KmX.xS "place" "kind") .none .none dc0 pm0 an0 (.ref cda) ct0 cc), sl0⟩)
    (c0 : PySem.W.codeIn K (.ref cda) "BadPaper.__init__" = true)
    (lcd : K.lookup cda = some ⟨ccl, cdd, .fields vs, ccs⟩)
    (lv : vs[2]? = some (.str file tf))
    (lf : ((l.prog.main.file : Str) == file) = true)
    (lc : K.lookup cc = some ⟨cl, cld, .cell (some (.ref CP)), csl⟩)
    (tp : (l.prog.main.scope.names.lookup ("super" : Str)).isSome = false)
    (hB : PySem.W.hasDictIn K B = true)
    (tyB : PySem.W.typeIn K (.ref B) = some (.type "type"))
    (hL : PySem.W.hasDictIn K BL = true)
    (tyL : PySem.W.typeIn K (.ref BL) = some (.type "type"))
    (hW : PySem.W.hasDictIn K BW = true)
    (tyW : PySem.W.typeIn K (.ref BW) = some (.type "type"))
    (xa : PySem.W.findIn K (.ref CP) "__class__" = some (some (.builtin "object.__class__")))
    (xn : PySem.W.specialIn K (.builtin "object.__class__") "__get__" = some (some (.builtin "getset_descriptor.__get__")))
    (xt : PySem.W.takesIn K (.builtin "object.__class__") = some true)
    (xm : PySem.W.mroIn K CP (.type "object") = some true)
    (bC : PySem.W.nsIn K mainGlobals "Book" = some (some (.ref C)))
    (bpg : PySem.W.plainGet K C Str.empty = true)
    (bhd : PySem.W.hasDictIn K C = true)
    (bpo : PySem.W.plainOver K C = true)
    (bsa : PySem.W.findIn K (.ref C) "__setattr__" = some (some (.builtin "object.__setattr__")))
    (bnN : PySem.W.findIn K (.ref C) "names" = some none)
    (bnW : PySem.W.findIn K (.ref C) "wishes" = some none)
    (brd : PySem.W.readsIn K C (.type "type") = true)
    (bga : PySem.W.specialIn K (.ref C) "__getattribute__" = some (some (.builtin "type.__getattribute__")))
    (bv1 : PySem.W.findCls K (.ref C) (.type "type") "MOST_NAMES" = some (.val (.int 40 t40)))
    (bv2 : PySem.W.findCls K (.ref C) (.type "type") "MOST_WISHES" = some (.val (.int 128 t128)))
    (bmk : PySem.W.makesIn K C = true)
    (bin : PySem.W.findIn K (.ref C) "__init__" = some (some (.ref fB)))
    (bfn : PySem.W.isFn K (.ref fB) = true)
    (bkp : PySem.W.keepIn K (.ref C) = true)
    (lB : K.lookup fB = some ⟨ocB, odB, .func (PySem.W.fnOf "__init__" "Book.__init__" (defArgs sBook) (defBody sBook) (defScope sBook) .none kVB dcB pmB anB cdB ctB), slB⟩)
    (cB : PySem.W.codeIn K cdB "Book.__init__" = true)
    (kB : PySem.W.keepIn K (.ref fB) = true)
    (z1 : PySem.W.nsIn K mainGlobals "len" = some none)
    (z2 : PySem.W.nsIn K mainGlobals "int" = some none)
    (z3 : PySem.W.nsIn K mainGlobals "range" = some none)
    (z4 : PySem.W.nsIn K mainGlobals "abs" = some none)
    (z5 : PySem.W.nsIn K mainGlobals "tuple" = some none)
    (z6 : PySem.W.nsIn K mainGlobals "isinstance" = some none)
    (z7 : PySem.W.nsIn K mainGlobals "str" = some none)
    (z8 : PySem.W.nsIn K mainGlobals "bool" = some none)
    (z9 : PySem.W.nsIn K mainGlobals "sorted" = some none)
    (z10 : PySem.W.nsIn K mainGlobals "reversed" = some none)
    (z11 : PySem.W.nsIn K mainGlobals "list" = some none)
    (z12 : PySem.W.nsIn K mainGlobals "min" = some none)
    (z13 : PySem.W.nsIn K mainGlobals "set" = some none)
    (z14 : PySem.W.nsIn K mainGlobals "enumerate" = some none)
    (z15 : PySem.W.nsIn K mainGlobals "all" = some none)
    (a1 : PySem.W.nsIn K mainGlobals "is_right_row" = some (some (.ref f1)))
    (l1 : K.lookup f1 = some ⟨oc1, od1, .func (PySem.W.fnOf "is_right_row" "is_right_row" (defArgs sRight) (defBody sRight) (defScope sRight) .none kV1 dc1 pm1 an1 cd1 ct1), sl1⟩)
    (c1 : PySem.W.codeIn K cd1 "is_right_row" = true)
    (k1 : PySem.W.keepIn K (.ref f1) = true)
    (a2 : PySem.W.nsIn K mainGlobals "sorted_row" = some (some (.ref f2)))
    (l2 : K.lookup f2 = some ⟨oc2, od2, .func (PySem.W.fnOf "sorted_row" "sorted_row" (defArgs sSortRow) (defBody sSortRow) (defScope sSortRow) .none kV2 dc2 pm2 an2 cd2 ct2), sl2⟩)
    (c2 : PySem.W.codeIn K cd2 "sorted_row" = true)
    (k2 : PySem.W.keepIn K (.ref f2) = true)
    (a3 : PySem.W.nsIn K mainGlobals "different_wishes" = some (some (.ref f3)))
    (l3 : K.lookup f3 = some ⟨oc3, od3, .func (PySem.W.fnOf "different_wishes" "different_wishes" (defArgs sDiff) (defBody sDiff) (defScope sDiff) .none kV3 dc3 pm3 an3 cd3 ct3), sl3⟩)
    (c3 : PySem.W.codeIn K cd3 "different_wishes" = true)
    (k3 : PySem.W.keepIn K (.ref f3) = true)
    (a4 : PySem.W.nsIn K mainGlobals "line_tree_fault" = some (some (.ref f4)))
    (l4 : K.lookup f4 = some ⟨oc4, od4, .func (PySem.W.fnOf "line_tree_fault" "line_tree_fault" (defArgs sTreeF) (defBody sTreeF) (defScope sTreeF) .none kV4 dc4 pm4 an4 cd4 ct4), sl4⟩)
    (c4 : PySem.W.codeIn K cd4 "line_tree_fault" = true)
    (k4 : PySem.W.keepIn K (.ref f4) = true)
    (a5 : PySem.W.nsIn K mainGlobals "nodes_upwards" = some (some (.ref f5)))
    (l5 : K.lookup f5 = some ⟨oc5, od5, .func (PySem.W.fnOf "nodes_upwards" "nodes_upwards" (defArgs sUp) (defBody sUp) (defScope sUp) .none kV5 dc5 pm5 an5 cd5 ct5), sl5⟩)
    (c5 : PySem.W.codeIn K cd5 "nodes_upwards" = true)
    (k5 : PySem.W.keepIn K (.ref f5) = true)
    (a6 : PySem.W.nsIn K mainGlobals "line_node_fault" = some (some (.ref f6)))
    (l6 : K.lookup f6 = some ⟨oc6, od6, .func (PySem.W.fnOf "line_node_fault" "line_node_fault" (defArgs sNodeF) (defBody sNodeF) (defScope sNodeF) .none kV6 dc6 pm6 an6 cd6 ct6), sl6⟩)
    (c6 : PySem.W.codeIn K cd6 "line_node_fault" = true)
    (k6 : PySem.W.keepIn K (.ref f6) = true)
    (a7 : PySem.W.nsIn K mainGlobals "asked_line_fault" = some (some (.ref f7)))
    (l7 : K.lookup f7 = some ⟨oc7, od7, .func (PySem.W.fnOf "asked_line_fault" "asked_line_fault" (defArgs sAskF) (defBody sAskF) (defScope sAskF) .none kV7 dc7 pm7 an7 cd7 ct7), sl7⟩)
    (c7 : PySem.W.codeIn K cd7 "asked_line_fault" = true)
    (k7 : PySem.W.keepIn K (.ref f7) = true)
    (a8 : PySem.W.nsIn K mainGlobals "sides_fault" = some (some (.ref f8)))
    (l8 : K.lookup f8 = some ⟨oc8, od8, .func (PySem.W.fnOf "sides_fault" "sides_fault" (defArgs sSidesF) (defBody sSidesF) (defScope sSidesF) .none kV8 dc8 pm8 an8 cd8 ct8), sl8⟩)
    (c8 : PySem.W.codeIn K cd8 "sides_fault" = true)
    (k8 : PySem.W.keepIn K (.ref f8) = true)
    (a9 : PySem.W.nsIn K mainGlobals "line_of" = some (some (.ref f9)))
    (l9 : K.lookup f9 = some ⟨oc9, od9, .func (PySem.W.fnOf "line_of" "line_of" (defArgs sLineOf) (defBody sLineOf) (defScope sLineOf) .none kV9 dc9 pm9 an9 cd9 ct9), sl9⟩)
    (c9 : PySem.W.codeIn K cd9 "line_of" = true)
    (k9 : PySem.W.keepIn K (.ref f9) = true)
    (a10 : PySem.W.nsIn K mainGlobals "has_words" = some (some (.ref f10)))
    (l10 : K.lookup f10 = some ⟨oc10, od10, .func (PySem.W.fnOf "has_words" "has_words" (defArgs sHas) (defBody sHas) (defScope sHas) .none kV10 dc10 pm10 an10 cd10 ct10), sl10⟩)
    (c10 : PySem.W.codeIn K cd10 "has_words" = true)
    (k10 : PySem.W.keepIn K (.ref f10) = true)
    (a11 : PySem.W.nsIn K mainGlobals "check_line_tree" = some (some (.ref f11)))
    (l11 : K.lookup f11 = some ⟨oc11, od11, .func (PySem.W.fnOf "check_line_tree" "check_line_tree" (defArgs sCheck) (defBody sCheck) (defScope sCheck) .none kV11 dc11 pm11 an11 cd11 ct11), sl11⟩)
    (c11 : PySem.W.codeIn K cd11 "check_line_tree" = true)
    (k11 : PySem.W.keepIn K (.ref f11) = true)
    (a12 : PySem.W.nsIn K mainGlobals "line_tree_leaves" = some (some (.ref f12)))
    (l12 : K.lookup f12 = some ⟨oc12, od12, .func (PySem.W.fnOf "line_tree_leaves" "line_tree_leaves" (defArgs sLeaves) (defBody sLeaves) (defScope sLeaves) .none kV12 dc12 pm12 an12 cd12 ct12), sl12⟩)
    (c12 : PySem.W.codeIn K cd12 "line_tree_leaves" = true)
    (k12 : PySem.W.keepIn K (.ref f12) = true)
    (a13 : PySem.W.nsIn K mainGlobals "lines_tree" = some (some (.ref f13)))
    (l13 : K.lookup f13 = some ⟨oc13, od13, .func (PySem.W.fnOf "lines_tree" "lines_tree" (defArgs sLT) (defBody sLT) (defScope sLT) .none kV13 dc13 pm13 an13 cd13 ct13), sl13⟩)
    (c13 : PySem.W.codeIn K cd13 "lines_tree" = true)
    (k13 : PySem.W.keepIn K (.ref f13) = true)
    (a14 : PySem.W.nsIn K mainGlobals "asked_node" = some (some (.ref f14)))
    (l14 : K.lookup f14 = some ⟨oc14, od14, .func (PySem.W.fnOf "asked_node" "asked_node" (defArgs sAsked) (defBody sAsked) (defScope sAsked) .none kV14 dc14 pm14 an14 cd14 ct14), sl14⟩)
    (c14 : PySem.W.codeIn K cd14 "asked_node" = true)
    (k14 : PySem.W.keepIn K (.ref f14) = true)
    (a15 : PySem.W.nsIn K mainGlobals "_law_cell" = some (some (.ref f15)))
    (l15 : K.lookup f15 = some ⟨oc15, od15, .func (PySem.W.fnOf "_law_cell" "_law_cell" (defArgs sCell) (defBody sCell) (defScope sCell) .none kV15 dc15 pm15 an15 cd15 ct15), sl15⟩)
    (c15 : PySem.W.codeIn K cd15 "_law_cell" = true)
    (k15 : PySem.W.keepIn K (.ref f15) = true)
    (a16 : PySem.W.nsIn K mainGlobals "_law_draws" = some (some (.ref f16)))
    (l16 : K.lookup f16 = some ⟨oc16, od16, .func (PySem.W.fnOf "_law_draws" "_law_draws" (defArgs sDraws) (defBody sDraws) (defScope sDraws) .none kV16 dc16 pm16 an16 cd16 ct16), sl16⟩)
    (c16 : PySem.W.codeIn K cd16 "_law_draws" = true)
    (k16 : PySem.W.keepIn K (.ref f16) = true)
    (a17 : PySem.W.nsIn K mainGlobals "_law_seed" = some (some (.ref f17)))
    (l17 : K.lookup f17 = some ⟨oc17, od17, .func (PySem.W.fnOf "_law_seed" "_law_seed" (defArgs sSeed) (defBody sSeed) (defScope sSeed) .none kV17 dc17 pm17 an17 cd17 ct17), sl17⟩)
    (c17 : PySem.W.codeIn K cd17 "_law_seed" = true)
    (k17 : PySem.W.keepIn K (.ref f17) = true)
    (a18 : PySem.W.nsIn K mainGlobals "_law_wish" = some (some (.ref f18)))
    (l18 : K.lookup f18 = some ⟨oc18, od18, .func (PySem.W.fnOf "_law_wish" "_law_wish" (defArgs sWishD) (defBody sWishD) (defScope sWishD) .none kV18 dc18 pm18 an18 cd18 ct18), sl18⟩)
    (c18 : PySem.W.codeIn K cd18 "_law_wish" = true)
    (k18 : PySem.W.keepIn K (.ref f18) = true)
    (a19 : PySem.W.nsIn K mainGlobals "_law_part" = some (some (.ref f19)))
    (l19 : K.lookup f19 = some ⟨oc19, od19, .func (PySem.W.fnOf "_law_part" "_law_part" (defArgs sPart) (defBody sPart) (defScope sPart) .none kV19 dc19 pm19 an19 cd19 ct19), sl19⟩)
    (c19 : PySem.W.codeIn K cd19 "_law_part" = true)
    (k19 : PySem.W.keepIn K (.ref f19) = true)
    (a20 : PySem.W.nsIn K mainGlobals "_law_grow" = some (some (.ref f20)))
    (l20 : K.lookup f20 = some ⟨oc20, od20, .func (PySem.W.fnOf "_law_grow" "_law_grow" (defArgs sGrow) (defBody sGrow) (defScope sGrow) .none kV20 dc20 pm20 an20 cd20 ct20), sl20⟩)
    (c20 : PySem.W.codeIn K cd20 "_law_grow" = true)
    (k20 : PySem.W.keepIn K (.ref f20) = true)
    (a21 : PySem.W.nsIn K mainGlobals "_law_leaf_rows" = some (some (.ref f21)))
    (l21 : K.lookup f21 = some ⟨oc21, od21, .func (PySem.W.fnOf "_law_leaf_rows" "_law_leaf_rows" (defArgs sRows) (defBody sRows) (defScope sRows) .none kV21 dc21 pm21 an21 cd21 ct21), sl21⟩)
    (c21 : PySem.W.codeIn K cd21 "_law_leaf_rows" = true)
    (k21 : PySem.W.keepIn K (.ref f21) = true)
    (a22 : PySem.W.nsIn K mainGlobals "_law_indexed" = some (some (.ref f22)))
    (l22 : K.lookup f22 = some ⟨oc22, od22, .func (PySem.W.fnOf "_law_indexed" "_law_indexed" (defArgs sIndexed) (defBody sIndexed) (defScope sIndexed) .none kV22 dc22 pm22 an22 cd22 ct22), sl22⟩)
    (c22 : PySem.W.codeIn K cd22 "_law_indexed" = true)
    (k22 : PySem.W.keepIn K (.ref f22) = true)
    (a23 : PySem.W.nsIn K mainGlobals "_law_places" = some (some (.ref f23)))
    (l23 : K.lookup f23 = some ⟨oc23, od23, .func (PySem.W.fnOf "_law_places" "_law_places" (defArgs sPlaces) (defBody sPlaces) (defScope sPlaces) .none kV23 dc23 pm23 an23 cd23 ct23), sl23⟩)
    (c23 : PySem.W.codeIn K cd23 "_law_places" = true)
    (k23 : PySem.W.keepIn K (.ref f23) = true)
    (a24 : PySem.W.nsIn K mainGlobals "_law_node" = some (some (.ref f24)))
    (l24 : K.lookup f24 = some ⟨oc24, od24, .func (PySem.W.fnOf "_law_node" "_law_node" (defArgs sSub) (defBody sSub) (defScope sSub) .none kV24 dc24 pm24 an24 cd24 ct24), sl24⟩)
    (c24 : PySem.W.codeIn K cd24 "_law_node" = true)
    (k24 : PySem.W.keepIn K (.ref f24) = true)
    (a25 : PySem.W.nsIn K mainGlobals "_law_put" = some (some (.ref f25)))
    (l25 : K.lookup f25 = some ⟨oc25, od25, .func (PySem.W.fnOf "_law_put" "_law_put" (defArgs sPut) (defBody sPut) (defScope sPut) .none kV25 dc25 pm25 an25 cd25 ct25), sl25⟩)
    (c25 : PySem.W.codeIn K cd25 "_law_put" = true)
    (k25 : PySem.W.keepIn K (.ref f25) = true)
    (a26 : PySem.W.nsIn K mainGlobals "_law_spoilt_line" = some (some (.ref f26)))
    (l26 : K.lookup f26 = some ⟨oc26, od26, .func (PySem.W.fnOf "_law_spoilt_line" "_law_spoilt_line" (defArgs sSpLine) (defBody sSpLine) (defScope sSpLine) .none kV26 dc26 pm26 an26 cd26 ct26), sl26⟩)
    (c26 : PySem.W.codeIn K cd26 "_law_spoilt_line" = true)
    (k26 : PySem.W.keepIn K (.ref f26) = true)
    (a27 : PySem.W.nsIn K mainGlobals "_law_spoilt" = some (some (.ref f27)))
    (l27 : K.lookup f27 = some ⟨oc27, od27, .func (PySem.W.fnOf "_law_spoilt" "_law_spoilt" (defArgs sSpoilt) (defBody sSpoilt) (defScope sSpoilt) .none kV27 dc27 pm27 an27 cd27 ct27), sl27⟩)
    (c27 : PySem.W.codeIn K cd27 "_law_spoilt" = true)
    (k27 : PySem.W.keepIn K (.ref f27) = true)
    (a28 : PySem.W.nsIn K mainGlobals "_law_line" = some (some (.ref f28)))
    (l28 : K.lookup f28 = some ⟨oc28, od28, .func (PySem.W.fnOf "_law_line" "_law_line" (defArgs sOwnLine) (defBody sOwnLine) (defScope sOwnLine) .none kV28 dc28 pm28 an28 cd28 ct28), sl28⟩)
    (c28 : PySem.W.codeIn K cd28 "_law_line" = true)
    (k28 : PySem.W.keepIn K (.ref f28) = true)
    (a29 : PySem.W.nsIn K mainGlobals "_law_right_row" = some (some (.ref f29)))
    (l29 : K.lookup f29 = some ⟨oc29, od29, .func (PySem.W.fnOf "_law_right_row" "_law_right_row" (defArgs sOwnRow) (defBody sOwnRow) (defScope sOwnRow) .none kV29 dc29 pm29 an29 cd29 ct29), sl29⟩)
    (c29 : PySem.W.codeIn K cd29 "_law_right_row" = true)
    (k29 : PySem.W.keepIn K (.ref f29) = true)
    (a30 : PySem.W.nsIn K mainGlobals "_law_node_fault" = some (some (.ref f30)))
    (l30 : K.lookup f30 = some ⟨oc30, od30, .func (PySem.W.fnOf "_law_node_fault" "_law_node_fault" (defArgs sOwnF) (defBody sOwnF) (defScope sOwnF) .none kV30 dc30 pm30 an30 cd30 ct30), sl30⟩)
    (c30 : PySem.W.codeIn K cd30 "_law_node_fault" = true)
    (k30 : PySem.W.keepIn K (.ref f30) = true)
    (a31 : PySem.W.nsIn K mainGlobals "_law_due" = some (some (.ref f31)))
    (l31 : K.lookup f31 = some ⟨oc31, od31, .func (PySem.W.fnOf "_law_due" "_law_due" (defArgs sDue) (defBody sDue) (defScope sDue) .none kV31 dc31 pm31 an31 cd31 ct31), sl31⟩)
    (c31 : PySem.W.codeIn K cd31 "_law_due" = true)
    (k31 : PySem.W.keepIn K (.ref f31) = true)
    (a32 : PySem.W.nsIn K mainGlobals "_law_same" = some (some (.ref f32)))
    (l32 : K.lookup f32 = some ⟨oc32, od32, .func (PySem.W.fnOf "_law_same" "_law_same" (defArgs sSame) (defBody sSame) (defScope sSame) .none kV32 dc32 pm32 an32 cd32 ct32), sl32⟩)
    (c32 : PySem.W.codeIn K cd32 "_law_same" = true)
    (k32 : PySem.W.keepIn K (.ref f32) = true)
    (a33 : PySem.W.nsIn K mainGlobals "_law_refused" = some (some (.ref f33)))
    (l33 : K.lookup f33 = some ⟨oc33, od33, .func (PySem.W.fnOf "_law_refused" "_law_refused" (defArgs sRefused) (defBody sRefused) (defScope sRefused) .none kV33 dc33 pm33 an33 cd33 ct33), sl33⟩)
    (c33 : PySem.W.codeIn K cd33 "_law_refused" = true)
    (k33 : PySem.W.keepIn K (.ref f33) = true)
    (a34 : PySem.W.nsIn K mainGlobals "_law_judged" = some (some (.ref f34)))
    (l34 : K.lookup f34 = some ⟨oc34, od34, .func (PySem.W.fnOf "_law_judged" "_law_judged" (defArgs sJudged) (defBody sJudged) (defScope sJudged) .none kV34 dc34 pm34 an34 cd34 ct34), sl34⟩)
    (c34 : PySem.W.codeIn K cd34 "_law_judged" = true)
    (k34 : PySem.W.keepIn K (.ref f34) = true)
    (a35 : PySem.W.nsIn K mainGlobals "law" = some (some (.ref f35)))
    (l35 : K.lookup f35 = some ⟨oc35, od35, .func (PySem.W.fnOf "law" "law" (defArgs sLaw) (defBody sLaw) (defScope sLaw) .none kV35 dc35 pm35 an35 cd35 ct35), sl35⟩)
    (c35 : PySem.W.codeIn K cd35 "law" = true)
    (k35 : PySem.W.keepIn K (.ref f35) = true)
    : ∃ fd : FuncData, (∀ (s : Shared) (v : Value), BindsTo s fd ⟨[v], []⟩ [("_law_script", v)]) ∧ ∀ base : Heap, K.In base → base.Ns mainGlobals mg → FnOk l.prog w K mg base CX0 104 fa fd ["_law_script"] (spLaw K) := by
  have e := hfa.symm.trans (PySem.W.mg_of X G a35)
  cases e
  have XT : KmX.XT l.prog K mg "BadPaper" "place" "kind" CP fI cc :=
    { gC := PySem.W.mg_of X G aC, gS := PySem.W.mg_none_of X G aS, cls := ⟨nm, q2, N, bs, _, sn, sub, ab, col, dd, m0, m1, m2, m3, m5, xL, rfl⟩, sa := sa, ga := ga, gg := gg, noF := nb1, noG := nb2, iC := a0, tI := t0, kC := kC, exC := eC, veC := vC, tyC := tC, hdC := hC, mrC := mC, suC := su, opq := opq, top := tp,
      fn := ⟨_, _, _, _, _, _, _, cda, _, _, _, _, _, _, _, _, _, _, _, _, _, _, _, _, _, l0, c0, _, _, _, _, _, _, lcd, lv, lf⟩, cell := ⟨_, _, _, lc⟩ }
  have nL : (Value.ref CP) ≠ Value.ref BL := fun z => by
    rw [← z, sC] at sL
    cases sL
  have nW : (Value.ref CP) ≠ Value.ref BW := fun z => by
    rw [← z, sC] at sW
    cases sW
  have RE : Errs K mg CP B BL BW :=
    { gP := PySem.W.mg_of X G aC, gB := PySem.W.mg_of X G aB, gL := PySem.W.mg_of X G aL, gW := PySem.W.mg_of X G aW, xP := PySem.W.exm_ref eC hC tC sC, exc := ⟨ga, gg, eC, hC, xa, xn, xt, xm⟩, kB := kit_true hB tyB sB,
      kLW := by
        unfold PySem.W.kitAny
        rw [kit_cls_of hL tyL sL nL]
        show PySem.W.kitAny K (.ref CP) [.ref BW] = some false
        unfold PySem.W.kitAny
        rw [kit_cls_of hW tyW sW nW]
        rfl
      noP := nb1, noK := nb2 }
  have T : Blt mg := { mlen := (PySem.W.mg_none_of X G z1), mint := (PySem.W.mg_none_of X G z2), mran := (PySem.W.mg_none_of X G z3), mabs := (PySem.W.mg_none_of X G z4) }
  have T2 : Blt2 mg := { misi := (PySem.W.mg_none_of X G z6), mtup := (PySem.W.mg_none_of X G z5), mstr := (PySem.W.mg_none_of X G z7), mboo := (PySem.W.mg_none_of X G z8) }
  have T3 : Blt3 mg := { msor := (PySem.W.mg_none_of X G z9), mrev := (PySem.W.mg_none_of X G z10), mlis := (PySem.W.mg_none_of X G z11) }
  have T4 : Blt4 mg := { mmin := (PySem.W.mg_none_of X G z12) }
  have TB : BkTxt K mg C := { cl := ⟨bpg, bhd, bpo, bsa⟩, nN := bnN, nW := bnW, gC := PySem.W.mg_of X G bC, rd := ⟨_, ⟨brd, bga⟩, ⟨_, ⟨bv1, ⟨t40, rfl⟩⟩⟩, ⟨_, ⟨bv2, ⟨t128, rfl⟩⟩⟩⟩, mlen := (PySem.W.mg_none_of X G z1), mtup := (PySem.W.mg_none_of X G z5) }
  have MB : Mk K C fB := ⟨bmk, bin, bfn, bkp⟩
  have FB := fun_mk (st := sBook) lB cB kB
  have bB := FB.binds (ps := ["self", "names", "wishes"]) fun _ _ _ _ _ _ us hl => match us, hl with | [_, _, _], _ => rfl
  have F1 := fun_mk (st := sRight) l1 c1 k1
  have b1 := F1.binds (ps := ["names", "row"]) fun _ _ _ _ _ _ us hl => match us, hl with | [_, _], _ => rfl
  have m1 := PySem.W.mg_of X G a1
  have F2 := fun_mk (st := sSortRow) l2 c2 k2
  have b2 := F2.binds (ps := ["row"]) fun _ _ _ _ _ _ us hl => match us, hl with | [_], _ => rfl
  have m2 := PySem.W.mg_of X G a2
  have F3 := fun_mk (st := sDiff) l3 c3 k3
  have b3 := F3.binds (ps := ["names", "rows"]) fun _ _ _ _ _ _ us hl => match us, hl with | [_, _], _ => rfl
  have m3 := PySem.W.mg_of X G a3
  have F4 := fun_mk (st := sTreeF) l4 c4 k4
  have b4 := F4.binds (ps := ["book", "paper"]) fun _ _ _ _ _ _ us hl => match us, hl with | [_, _], _ => rfl
  have m4 := PySem.W.mg_of X G a4
  have F5 := fun_mk (st := sUp) l5 c5 k5
  have b5 := F5.binds (ps := ["paper"]) fun _ _ _ _ _ _ us hl => match us, hl with | [_], _ => rfl
  have m5 := PySem.W.mg_of X G a5
  have F6 := fun_mk (st := sNodeF) l6 c6 k6
  have b6 := F6.binds (ps := ["book", "node"]) fun _ _ _ _ _ _ us hl => match us, hl with | [_, _], _ => rfl
  have m6 := PySem.W.mg_of X G a6
  have F7 := fun_mk (st := sAskF) l7 c7 k7
  have b7 := F7.binds (ps := ["book", "line", "name"]) fun _ _ _ _ _ _ us hl => match us, hl with | [_, _, _], _ => rfl
  have m7 := PySem.W.mg_of X G a7
  have F8 := fun_mk (st := sSidesF) l8 c8 k8
  have b8 := F8.binds (ps := ["line", "name", "left_line", "right_line"]) fun _ _ _ _ _ _ us hl => match us, hl with | [_, _, _, _], _ => rfl
  have m8 := PySem.W.mg_of X G a8
  have F9 := fun_mk (st := sLineOf) l9 c9 k9
  have b9 := F9.binds (ps := ["book", "node"]) fun _ _ _ _ _ _ us hl => match us, hl with | [_, _], _ => rfl
  have m9 := PySem.W.mg_of X G a9
  have F10 := fun_mk (st := sHas) l10 c10 k10
  have b10 := F10.binds (ps := ["line", "words"]) fun _ _ _ _ _ _ us hl => match us, hl with | [_, _], _ => rfl
  have m10 := PySem.W.mg_of X G a10
  have F11 := fun_mk (st := sCheck) l11 c11 k11
  have b11 := F11.binds (ps := ["book", "paper"]) fun _ _ _ _ _ _ us hl => match us, hl with | [_, _], _ => rfl
  have m11 := PySem.W.mg_of X G a11
  have F12 := fun_mk (st := sLeaves) l12 c12 k12
  have b12 := F12.binds (ps := ["paper"]) fun _ _ _ _ _ _ us hl => match us, hl with | [_], _ => rfl
  have m12 := PySem.W.mg_of X G a12
  have F13 := fun_mk (st := sLT) l13 c13 k13
  have b13 := F13.binds (ps := ["book", "paper"]) fun _ _ _ _ _ _ us hl => match us, hl with | [_, _], _ => rfl
  have m13 := PySem.W.mg_of X G a13
  have F14 := fun_mk (st := sAsked) l14 c14 k14
  have b14 := F14.binds (ps := ["node", "answers"]) fun _ _ _ _ _ _ us hl => match us, hl with | [_, _], _ => rfl
  have m14 := PySem.W.mg_of X G a14
  have F15 := fun_mk (st := sCell) l15 c15 k15
  have b15 := F15.binds (ps := ["_law_script", "_law_k"]) fun _ _ _ _ _ _ us hl => match us, hl with | [_, _], _ => rfl
  have m15 := PySem.W.mg_of X G a15
  have F16 := fun_mk (st := sDraws) l16 c16 k16
  have b16 := F16.binds (ps := ["_law_cell_here", "_law_many"]) fun _ _ _ _ _ _ us hl => match us, hl with | [_, _], _ => rfl
  have m16 := PySem.W.mg_of X G a16
  have F17 := fun_mk (st := sSeed) l17 c17 k17
  have b17 := F17.binds (ps := ["_law_script", "_law_k"]) fun _ _ _ _ _ _ us hl => match us, hl with | [_, _], _ => rfl
  have m17 := PySem.W.mg_of X G a17
  have F18 := fun_mk (st := sWishD) l18 c18 k18
  have b18 := F18.binds (ps := ["_law_cell_here", "_law_names"]) fun _ _ _ _ _ _ us hl => match us, hl with | [_, _], _ => rfl
  have m18 := PySem.W.mg_of X G a18
  have F19 := fun_mk (st := sPart) l19 c19 k19
  have b19 := F19.binds (ps := ["_law_draw", "_law_row"]) fun _ _ _ _ _ _ us hl => match us, hl with | [_, _], _ => rfl
  have m19 := PySem.W.mg_of X G a19
  have F20 := fun_mk (st := sGrow) l20 c20 k20
  have b20 := F20.binds (ps := ["_law_draws_here", "_law_names", "_law_allowed", "_law_deep", "_law_narrow", "_law_at"]) fun _ _ _ _ _ _ us hl => match us, hl with | [_, _, _, _, _, _], _ => rfl
  have m20 := PySem.W.mg_of X G a20
  have F21 := fun_mk (st := sRows) l21 c21 k21
  have b21 := F21.binds (ps := ["_law_paper"]) fun _ _ _ _ _ _ us hl => match us, hl with | [_], _ => rfl
  have m21 := PySem.W.mg_of X G a21
  have F22 := fun_mk (st := sIndexed) l22 c22 k22
  have b22 := F22.binds (ps := ["_law_paper", "_law_wishes"]) fun _ _ _ _ _ _ us hl => match us, hl with | [_, _], _ => rfl
  have m22 := PySem.W.mg_of X G a22
  have F23 := fun_mk (st := sPlaces) l23 c23 k23
  have b23 := F23.binds (ps := ["_law_paper", "_law_place"]) fun _ _ _ _ _ _ us hl => match us, hl with | [_, _], _ => rfl
  have m23 := PySem.W.mg_of X G a23
  have F24 := fun_mk (st := sSub) l24 c24 k24
  have b24 := F24.binds (ps := ["_law_paper", "_law_place"]) fun _ _ _ _ _ _ us hl => match us, hl with | [_, _], _ => rfl
  have m24 := PySem.W.mg_of X G a24
  have F25 := fun_mk (st := sPut) l25 c25 k25
  have b25 := F25.binds (ps := ["_law_paper", "_law_place", "_law_node_here"]) fun _ _ _ _ _ _ us hl => match us, hl with | [_, _, _], _ => rfl
  have m25 := PySem.W.mg_of X G a25
  have F26 := fun_mk (st := sSpLine) l26 c26 k26
  have b26 := F26.binds (ps := ["_law_names", "_law_line_here", "_law_draw", "_law_other"]) fun _ _ _ _ _ _ us hl => match us, hl with | [_, _, _, _], _ => rfl
  have m26 := PySem.W.mg_of X G a26
  have F27 := fun_mk (st := sSpoilt) l27 c27 k27
  have b27 := F27.binds (ps := ["_law_names", "_law_many", "_law_node_here", "_law_draw", "_law_other"]) fun _ _ _ _ _ _ us hl => match us, hl with | [_, _, _, _, _], _ => rfl
  have m27 := PySem.W.mg_of X G a27
  have F28 := fun_mk (st := sOwnLine) l28 c28 k28
  have b28 := F28.binds (ps := ["_law_wishes", "_law_paper"]) fun _ _ _ _ _ _ us hl => match us, hl with | [_, _], _ => rfl
  have m28 := PySem.W.mg_of X G a28
  have F29 := fun_mk (st := sOwnRow) l29 c29 k29
  have b29 := F29.binds (ps := ["_law_names", "_law_row"]) fun _ _ _ _ _ _ us hl => match us, hl with | [_, _], _ => rfl
  have m29 := PySem.W.mg_of X G a29
  have F30 := fun_mk (st := sOwnF) l30 c30 k30
  have b30 := F30.binds (ps := ["_law_names", "_law_wishes", "_law_paper", "_law_place"]) fun _ _ _ _ _ _ us hl => match us, hl with | [_, _, _, _], _ => rfl
  have m30 := PySem.W.mg_of X G a30
  have F31 := fun_mk (st := sDue) l31 c31 k31
  have b31 := F31.binds (ps := ["_law_names", "_law_wishes", "_law_paper"]) fun _ _ _ _ _ _ us hl => match us, hl with | [_, _, _], _ => rfl
  have m31 := PySem.W.mg_of X G a31
  have F32 := fun_mk (st := sSame) l32 c32 k32
  have b32 := F32.binds (ps := ["_law_actual", "_law_expected"]) fun _ _ _ _ _ _ us hl => match us, hl with | [_, _], _ => rfl
  have m32 := PySem.W.mg_of X G a32
  have F33 := fun_mk (st := sRefused) l33 c33 k33
  have b33 := F33.binds (ps := ["_law_book", "_law_paper"]) fun _ _ _ _ _ _ us hl => match us, hl with | [_, _], _ => rfl
  have m33 := PySem.W.mg_of X G a33
  have F34 := fun_mk (st := sJudged) l34 c34 k34
  have b34 := F34.binds (ps := ["_law_names", "_law_wishes", "_law_book", "_law_paper"]) fun _ _ _ _ _ _ us hl => match us, hl with | [_, _, _, _], _ => rfl
  have m34 := PySem.W.mg_of X G a34
  have F35 := fun_mk (st := sLaw) l35 c35 k35
  have b35 := F35.binds (ps := ["_law_script"]) fun _ _ _ _ _ _ us hl => match us, hl with | [_], _ => rfl
  have m35 := PySem.W.mg_of X G a35
  refine ⟨PySem.W.fnOf "law" "law" (defArgs sLaw) (defBody sLaw) (defScope sLaw) .none kV35 dc35 pm35 an35 cd35 ct35, fun s v => .of_eq rfl, fun base _ _ => ?_⟩
  have gRight : FnOk l.prog w K mg base CX0 1 f1 _ ["names", "row"] (spRight K) := ok_right (P := l.prog) (w := w) (base := base) F1
  have gSort : FnOk l.prog w K mg base CX0 1 f2 _ ["row"] (spSortRow K) := ok_sortRow (P := l.prog) (w := w) (base := base) (PySem.W.mg_none_of X G z5) (PySem.W.mg_none_of X G z9) F2
  have gDiff := ok_diff (P := l.prog) (w := w) (base := base) (PySem.W.mg_none_of X G z9) (PySem.W.mg_none_of X G z13) (PySem.W.mg_none_of X G z14) F3 gSort k2 b2 m2 gRight k1 b1 m1
  have gInit := ok_init (P := l.prog) (w := w) (base := base) TB FB gDiff k3 b3 m3
  have gHas : FnOk l.prog w K mg base CX0 1 f10 _ ["line", "words"] (spHas K) := ok_has (P := l.prog) (w := w) (base := base) (PySem.W.mg_none_of X G z15) F10
  have gLine : FnOk l.prog w K mg base CX0 1 f9 _ ["book", "node"] (spLineOf K C) := ok_lineOf (P := l.prog) (w := w) (base := base) TB F9
  have gAsk := ok_askF (P := l.prog) (w := w) (base := base) TB F7 gRight k1 b1 m1
  have gSides := ok_sidesF (P := l.prog) (w := w) (base := base) F8 gHas k10 b10 m10
  have gNode := ok_nodeF (P := l.prog) (w := w) (base := base) TB F6 gAsk k7 b7 m7 gSides k8 b8 m8 gLine k9 b9 m9
  have gUp : FnOk l.prog w K mg base CX0 1 f5 _ ["paper"] (spUp K) := ok_up (P := l.prog) (w := w) (base := base) F5
  have gTree := ok_treeF (P := l.prog) (w := w) (base := base) TB F4 gUp k5 b5 m5 gNode k6 b6 m6 gLine k9 b9 m9
  have gCheck := ok_check (P := l.prog) (w := w) (base := base) XT F11 gTree k4 b4 m4
  have gAsked := all_asked (P := l.prog) (w := w) (base := base) F14 b14 m14 100
  have gLT := ok_lt (P := l.prog) (w := w) (base := base) F13 gCheck k11 b11 m11 gAsked k14 b14 m14
  have gLeaves := all_leaves (P := l.prog) (w := w) (base := base) F12 b12 m12 100
  have gCell : FnOk l.prog w K mg base CX0 1 f15 _ ["_law_script", "_law_k"] (spCell K) := ok_cell (P := l.prog) (w := w) (base := base) T F15
  have gDraws : FnOk l.prog w K mg base CX0 1 f16 _ ["_law_cell_here", "_law_many"] (spDraws) := ok_draws (P := l.prog) (w := w) (base := base) T F16
  have gSeed := ok_seed (P := l.prog) (w := w) (base := base) T F17 gCell k15 b15 m15
  have gWish := ok_wishD (P := l.prog) (w := w) (base := base) T (PySem.W.mg_none_of X G z5) F18 gDraws k16 b16 m16
  have gPart : FnOk l.prog w K mg base CX0 1 f19 _ ["_law_draw", "_law_row"] (spPart K) := ok_part (P := l.prog) (w := w) (base := base) T (PySem.W.mg_none_of X G z5) F19
  have gGrow := all_grow (P := l.prog) (w := w) (base := base) T T2 T3 F20 b20 m20 gPart k19 b19 m19 30
  have gRows := all_rows (P := l.prog) (w := w) (base := base) F21 b21 m21 100
  have gIndexed := all_indexed (P := l.prog) (w := w) (base := base) F22 b22 m22 100
  have gPlaces := all_places (P := l.prog) (w := w) (base := base) F23 b23 m23 100
  have gSub : FnOk l.prog w K mg base CX0 1 f24 _ ["_law_paper", "_law_place"] (spSub K) := ok_sub (P := l.prog) (w := w) (base := base) F24
  have gPut := all_put (P := l.prog) (w := w) (base := base) (PySem.W.mg_none_of X G z1) F25 b25 m25 100
  have gSpL : FnOk l.prog w K mg base CX0 1 f26 _ ["_law_names", "_law_line_here", "_law_draw", "_law_other"] (spSpLine K) := ok_spLine (P := l.prog) (w := w) (base := base) T T2 T3 F26
  have gSp := ok_spoilt (P := l.prog) (w := w) (base := base) T F27 gSpL k26 b26 m26
  have gOLine : FnOk l.prog w K mg base CX0 1 f28 _ ["_law_wishes", "_law_paper"] (spOwnLine K) := ok_ownLine (P := l.prog) (w := w) (base := base) F28
  have gORow : FnOk l.prog w K mg base CX0 1 f29 _ ["_law_names", "_law_row"] (spRight K) := ok_ownRow (P := l.prog) (w := w) (base := base) F29
  have gOF := all_ownF (P := l.prog) (w := w) (base := base) (PySem.W.mg_none_of X G z1) (PySem.W.mg_none_of X G z3) F30 b30 m30 gORow k29 b29 m29 gOLine k28 b28 m28 100
  have gDue := ok_due (P := l.prog) (w := w) (base := base) (PySem.W.mg_none_of X G z1) F31 gOF k30 b30 m30 gOLine k28 b28 m28
  have gSame3 := all_same (P := l.prog) (w := w) (base := base) T T2 F32 b32 m32 3
  have gSame1 := all_same (P := l.prog) (w := w) (base := base) T T2 F32 b32 m32 1
  have gRef := ok_refused (P := l.prog) (w := w) (base := base) XT RE T2 F33 gLT k13 b13 m13
  have gJud := ok_judged (P := l.prog) (w := w) (base := base) T F34 gDue k31 b31 m31 gSame3 k32 b32 m32 gSame1 gLeaves k12 b12 m12 gRows k21 b21 m21 gTree k4 b4 m4 gRef k33 b33 m33
  exact ok_law (P := l.prog) (w := w) (base := base) T T2 T3 T4 TB MB F35 gCell k15 b15 m15 gSeed k17 b17 m17 gDraws k16 b16 m16 gGrow k20 b20 m20 gRows k21 b21 m21 gWish k18 b18 m18 gIndexed k22 b22 m22 gDue k31 b31 m31 gJud k34 b34 m34 gPlaces k23 b23 m23 gSp k27 b27 m27 gSub k24 b24 m24 gPut k25 b25 m25 gTree k4 b4 m4 gInit bB
end Km
/-! KmFin -/
set_option Elab.async false
set_option maxRecDepth 100000
open PySem PySem.W PyProof.Rows
set_option maxHeartbeats 0 in
theorem PySem.Challenge.cw_papersorliars_k13_line_trees_judged_holds : PySem.Challenge.rw_papersorliars_k13_line_trees_judged.Holds := by
  w_on; o_law; k_head; (case hw => w_witness2)
  k_fill
  refine L2.walk_ofB (l := PySem.Challenge.rw_papersorliars_k13_line_trees_judged) (n := 63) (k := 104) (x := "_law_script") (CX := fun _ => L2.CX0) (sp := fun w => Km.spLaw _) rfl (by decide) rfl ⟨rfl, by decide, by decide⟩ (fun w h Y => PySem.W.kIn_of Y) ?F (fun _ _ a ns hl _ _ hS => ⟨a, ns, rfl, hS, hl, fun _ => rfl⟩) (fun _ _ _ _ _ h => h)
  case F =>
    intro w mg fa h KX G hmg
    refine' Km.all_mk KX G hmg ?aC ?aB ?aL ?aW ?aS ?xL ?sa ?ga ?gg ?nb1 ?nb2 ?a0 ?t0 ?kC ?eC ?vC ?tC ?hC ?sC ?sB ?sL ?sW ?mC ?su ?opq ?l0 ?c0 ?lcd ?lv ?lf ?lc ?tp ?hB ?tyB ?hL ?tyL ?hW ?tyW ?xa ?xn ?xt ?xm ?bC ?bpg ?bhd ?bpo ?bsa ?bnN ?bnW ?brd ?bga ?bv1 ?bv2 ?bmk ?bin ?bfn ?bkp ?lB ?cB ?kB ?z1 ?z2 ?z3 ?z4 ?z5 ?z6 ?z7 ?z8 ?z9 ?z10 ?z11 ?z12 ?z13 ?z14 ?z15 ?a1 ?l1 ?c1 ?k1 ?a2 ?l2 ?c2 ?k2 ?a3 ?l3 ?c3 ?k3 ?a4 ?l4 ?c4 ?k4 ?a5 ?l5 ?c5 ?k5 ?a6 ?l6 ?c6 ?k6 ?a7 ?l7 ?c7 ?k7 ?a8 ?l8 ?c8 ?k8 ?a9 ?l9 ?c9 ?k9 ?a10 ?l10 ?c10 ?k10 ?a11 ?l11 ?c11 ?k11 ?a12 ?l12 ?c12 ?k12 ?a13 ?l13 ?c13 ?k13 ?a14 ?l14 ?c14 ?k14 ?a15 ?l15 ?c15 ?k15 ?a16 ?l16 ?c16 ?k16 ?a17 ?l17 ?c17 ?k17 ?a18 ?l18 ?c18 ?k18 ?a19 ?l19 ?c19 ?k19 ?a20 ?l20 ?c20 ?k20 ?a21 ?l21 ?c21 ?k21 ?a22 ?l22 ?c22 ?k22 ?a23 ?l23 ?c23 ?k23 ?a24 ?l24 ?c24 ?k24 ?a25 ?l25 ?c25 ?k25 ?a26 ?l26 ?c26 ?k26 ?a27 ?l27 ?c27 ?k27 ?a28 ?l28 ?c28 ?k28 ?a29 ?l29 ?c29 ?k29 ?a30 ?l30 ?c30 ?k30 ?a31 ?l31 ?c31 ?k31 ?a32 ?l32 ?c32 ?k32 ?a33 ?l33 ?c33 ?k33 ?a34 ?l34 ?c34 ?k34 ?a35 ?l35 ?c35 ?k35
    (case aC => k_is)
    (case aB => k_is)
    (case aL => k_is)
    (case aW => k_is)
    (case aS => k_is)
    (case xL => k_is)
    (case sa => k_is)
    (case ga => k_is)
    (case gg => k_is)
    (case nb1 => k_is)
    (case nb2 => k_is)
    (case a0 => k_is)
    (case t0 => k_is)
    (case kC => k_is)
    (case eC => k_is)
    (case vC => k_is)
    (case tC => k_is)
    (case hC => k_is)
    (case sC => first | rfl | k_is)
    (case sB => k_is)
    (case sL => k_is)
    (case sW => k_is)
    (case mC => k_is)
    (case su => ks_is)
    (case opq => k_is)
    (case l0 => k_is)
    (case c0 => k_is)
    (case lcd => k_is)
    (case lv => first | rfl | decide | kernel_rfl)
    (case lf => first | rfl | decide | kernel_rfl)
    (case lc => k_is)
    (case tp => first | rfl | decide | kernel_rfl)
    (case hB => k_is)
    (case tyB => k_is)
    (case hL => k_is)
    (case tyL => k_is)
    (case hW => k_is)
    (case tyW => k_is)
    (case xa => k_is)
    (case xn => k_is)
    (case xt => k_is)
    (case xm => k_is)
    (case bC => k_is)
    (case bpg => k_is)
    (case bhd => k_is)
    (case bpo => k_is)
    (case bsa => k_is)
    (case bnN => k_is)
    (case bnW => k_is)
    (case brd => k_is)
    (case bga => k_is)
    (case bv1 => k_is)
    (case bv2 => k_is)
    (case bmk => k_is)
    (case bin => k_is)
    (case bfn => k_is)
    (case bkp => k_is)
    (case lB => k_is)
    (case cB => k_is)
    (case kB => k_is)
    (case z1 => k_is)
    (case z2 => k_is)
    (case z3 => k_is)
    (case z4 => k_is)
    (case z5 => k_is)
    (case z6 => k_is)
    (case z7 => k_is)
    (case z8 => k_is)
    (case z9 => k_is)
    (case z10 => k_is)
    (case z11 => k_is)
    (case z12 => k_is)
    (case z13 => k_is)
    (case z14 => k_is)
    (case z15 => k_is)
    (case a1 => k_is)
    (case l1 => k_is)
    (case c1 => k_is)
    (case k1 => k_is)
    (case a2 => k_is)
    (case l2 => k_is)
    (case c2 => k_is)
    (case k2 => k_is)
    (case a3 => k_is)
    (case l3 => k_is)
    (case c3 => k_is)
    (case k3 => k_is)
    (case a4 => k_is)
    (case l4 => k_is)
    (case c4 => k_is)
    (case k4 => k_is)
    (case a5 => k_is)
    (case l5 => k_is)
    (case c5 => k_is)
    (case k5 => k_is)
    (case a6 => k_is)
    (case l6 => k_is)
    (case c6 => k_is)
    (case k6 => k_is)
    (case a7 => k_is)
    (case l7 => k_is)
    (case c7 => k_is)
    (case k7 => k_is)
    (case a8 => k_is)
    (case l8 => k_is)
    (case c8 => k_is)
    (case k8 => k_is)
    (case a9 => k_is)
    (case l9 => k_is)
    (case c9 => k_is)
    (case k9 => k_is)
    (case a10 => k_is)
    (case l10 => k_is)
    (case c10 => k_is)
    (case k10 => k_is)
    (case a11 => k_is)
    (case l11 => k_is)
    (case c11 => k_is)
    (case k11 => k_is)
    (case a12 => k_is)
    (case l12 => k_is)
    (case c12 => k_is)
    (case k12 => k_is)
    (case a13 => k_is)
    (case l13 => k_is)
    (case c13 => k_is)
    (case k13 => k_is)
    (case a14 => k_is)
    (case l14 => k_is)
    (case c14 => k_is)
    (case k14 => k_is)
    (case a15 => k_is)
    (case l15 => k_is)
    (case c15 => k_is)
    (case k15 => k_is)
    (case a16 => k_is)
    (case l16 => k_is)
    (case c16 => k_is)
    (case k16 => k_is)
    (case a17 => k_is)
    (case l17 => k_is)
    (case c17 => k_is)
    (case k17 => k_is)
    (case a18 => k_is)
    (case l18 => k_is)
    (case c18 => k_is)
    (case k18 => k_is)
    (case a19 => k_is)
    (case l19 => k_is)
    (case c19 => k_is)
    (case k19 => k_is)
    (case a20 => k_is)
    (case l20 => k_is)
    (case c20 => k_is)
    (case k20 => k_is)
    (case a21 => k_is)
    (case l21 => k_is)
    (case c21 => k_is)
    (case k21 => k_is)
    (case a22 => k_is)
    (case l22 => k_is)
    (case c22 => k_is)
    (case k22 => k_is)
    (case a23 => k_is)
    (case l23 => k_is)
    (case c23 => k_is)
    (case k23 => k_is)
    (case a24 => k_is)
    (case l24 => k_is)
    (case c24 => k_is)
    (case k24 => k_is)
    (case a25 => k_is)
    (case l25 => k_is)
    (case c25 => k_is)
    (case k25 => k_is)
    (case a26 => k_is)
    (case l26 => k_is)
    (case c26 => k_is)
    (case k26 => k_is)
    (case a27 => k_is)
    (case l27 => k_is)
    (case c27 => k_is)
    (case k27 => k_is)
    (case a28 => k_is)
    (case l28 => k_is)
    (case c28 => k_is)
    (case k28 => k_is)
    (case a29 => k_is)
    (case l29 => k_is)
    (case c29 => k_is)
    (case k29 => k_is)
    (case a30 => k_is)
    (case l30 => k_is)
    (case c30 => k_is)
    (case k30 => k_is)
    (case a31 => k_is)
    (case l31 => k_is)
    (case c31 => k_is)
    (case k31 => k_is)
    (case a32 => k_is)
    (case l32 => k_is)
    (case c32 => k_is)
    (case k32 => k_is)
    (case a33 => k_is)
    (case l33 => k_is)
    (case c33 => k_is)
    (case k33 => k_is)
    (case a34 => k_is)
    (case l34 => k_is)
    (case c34 => k_is)
    (case k34 => k_is)
    (case a35 => k_is)
    (case l35 => k_is)
    (case c35 => k_is)
    (case k35 => k_is)
