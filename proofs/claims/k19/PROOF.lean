import PyProof.Rows.All
import Wide.All
import OpenK.AllK
import Wide.FinOn
import KE.KeyNested
import HandS.TupSets
import HandS.SortOrd
import KE.SortData
import HandS.DictComp
import HandS.ForMost
import HandS.Codes
import HandS.Dict
import HandS.ForExc
import HandS.Wide
import HandS.IsInst
import HandS.RaiseMore
import HandS.ExcIs
import HandS.EndBits
import HandS.Conv
import HandS.TupAny
import HandS.SortRule
import HandS.Style
import HandS.Deep
import HandS.TupLen
import HandS.Iter
import KE.GoesEnum
import HandS.ExcInit
import KE.KExcSuper
import HandS.ExcSuper
import HandS.ExcCtx
import HandS.Rev
import HandS.HotCalls
import KE.KExcIs
import KE.KIsAll
import PySem.Challenge.RW_papersorliars_k19_readings
/-! NsKey -/
set_option Elab.async false
set_option linter.all false
set_option maxRecDepth 100000
/-! keys that are tuples of ints and of such tuples: what a set asks of them -/
namespace Ns
open PySem PySem.Spec PyProof.Rows L2
mutual
/-- no text and no None in it -/
def numK : NestedKey → Bool
  | .none => false
  | .num _ => true
  | .text _ => false
  | .tup ks => numKs ks
def numKs : List NestedKey → Bool
  | [] => true
  | k :: r => numK k && numKs r
end
/-- the tuple at b is the key k -/
def IsN (h : Heap) (k : NestedKey) (b : Addr) : Prop := NestedIs h k (.ref b) ∧ k.depth ≤ 8 ∧ numK k = true
section
variable {P : Program} {w : World}
/-- a tuple is of no class statement -/
def NoCls (P : Program) (w : World) (n : Nat) (s : Shared) (v : Value) : Prop := ∀ (A : Around) (E : Value → Shared → Prop) (Q : Bool → Shared → Prop), Q false s → wpAny (model P w) A (ofAClassStatement n v) Q E s
def ByVal (P : Program) (w : World) (n : Nat) (s : Shared) (v : Value) : Prop := ∀ (A : Around) (E : Value → Shared → Prop) (Q : Bool → Shared → Prop), Q true s → wpAny (model P w) A (hashByValue n v) Q E s
theorem noCls_tup {n m : Nat} {s : Shared} {a : Addr} {o : Obj} {vs : Array Value} (hg : s.heap.get? a = some o) (hc : o.cls = .type "tuple") (hd : o.data = .seq vs m) (hall : ∀ v ∈ vs.toList, NoCls P w n s v) : NoCls P w (n + 1) s (.ref a) := by
  intro A E Q hq
  unfold ofAClassStatement
  refine wpAny_bind (wpAny_typeOf (show s.TypeIs (.ref a) "tuple" from ⟨o, hg, hc⟩) ?_)
  dsimp only
  have e : (("tuple" : String) == "tuple") = true := by decide
  simp only [e, if_true, Bool.not_true, Bool.false_eq_true, if_false]
  try refine wpAny_bind (wpAny_pure ?_)
  try simp only [Bool.not_true, Bool.false_eq_true, if_false]
  show wpAny _ _ (seqItems? (.ref a) >>= _) _ _ s
  refine wpAny_bind (wpAny_seqItems hg hd ?_)
  dsimp only
  refine wpAny_bind ?_
  show wpAny _ _ (forIn vs _ _) _ _ s
  rw [← Array.forIn_toList]
  refine wpAny_forIn_list _ (fun left r s1 => r.1 = none ∧ s1 = s ∧ ∀ v ∈ left, NoCls P w n s v) _ ?_ ?_ _ _ ⟨rfl, rfl, hall⟩
  · rintro v left r s1 ⟨hr, rfl, hl⟩
    refine wpAny_bind (hl v List.mem_cons_self _ _ _ ?_)
    simp only [Bool.false_eq_true, if_false]
    exact wpAny_pure ⟨rfl, rfl, fun u hu => hl u (List.mem_cons_of_mem _ hu)⟩
  · rintro ⟨r1, r2⟩ s1 ⟨hr, rfl, _⟩
    simp only at hr
    subst hr
    exact wpAny_pure hq
theorem byVal_tup {n m : Nat} {s : Shared} {a : Addr} {o : Obj} {vs : Array Value} (hg : s.heap.get? a = some o) (hc : o.cls = .type "tuple") (hd : o.data = .seq vs m) (hall : ∀ v ∈ vs.toList, ByVal P w n s v) : ByVal P w (n + 1) s (.ref a) := by
  intro A E Q hq
  unfold hashByValue
  refine wpAny_bind (wpAny_specialOf (show s.TypeIs (.ref a) "tuple" from ⟨o, hg, hc⟩) F.slot_tuple_hash.lookup ?_)
  show wpAny _ _ (seqItems? (.ref a) >>= _) _ _ s
  refine wpAny_bind (wpAny_seqItems hg hd ?_)
  refine wpAny_bind ?_
  show wpAny _ _ (forIn vs _ _) _ _ s
  rw [← Array.forIn_toList]
  refine wpAny_forIn_list _ (fun left r s1 => r.1 = none ∧ s1 = s ∧ ∀ v ∈ left, ByVal P w n s v) _ ?_ ?_ _ _ ⟨rfl, rfl, hall⟩
  · rintro v left r s1 ⟨hr, rfl, hl⟩
    refine wpAny_bind (hl v List.mem_cons_self _ _ _ ?_)
    simp only [Bool.not_true, Bool.false_eq_true, if_false]
    exact wpAny_pure ⟨rfl, rfl, fun u hu => hl u (List.mem_cons_of_mem _ hu)⟩
  · rintro ⟨r1, r2⟩ s1 ⟨hr, rfl, _⟩
    simp only at hr
    subst hr
    exact wpAny_pure hq
mutual
theorem noCls_key : ∀ (k : NestedKey) (v : Value) (n : Nat) (s : Shared), NestedIs s.heap k v → k.depth ≤ n → NoCls P w n s v
  | .none, _, n, s, x, _ => by
    cases x
    intro A E Q q
    cases n <;> exact wpAny_pure q
  | .num i, _, n, s, x, _ => by
    cases x <;> (intro A E Q q; cases n <;> exact wpAny_pure q)
  | .text y, _, n, s, x, _ => by
    cases x
    intro A E Q q
    cases n <;> exact wpAny_pure q
  | .tup ks, _, n, s, x, hn => by
    cases x with
    | tup hg hc hd hk =>
      simp only [NestedKey.depth] at hn
      cases n with
      | zero => omega
      | succ n => exact noCls_tup hg hc hd (noCls_keys ks _ n s hk (by omega))
theorem noCls_keys : ∀ (ks : List NestedKey) (vs : List Value) (n : Nat) (s : Shared), NestedAll s.heap ks vs → NestedKey.depthAll ks ≤ n → ∀ v ∈ vs, NoCls P w n s v
  | [], _, n, s, x, _, v, hv => by cases x; cases hv
  | k :: ks, _, n, s, x, hn, v, hv => by
    cases x with
    | cons x1 x2 =>
      simp only [NestedKey.depthAll] at hn
      rcases List.mem_cons.mp hv with e | hv
      · rw [e]; exact noCls_key k _ n s x1 (by omega)
      · exact noCls_keys ks _ n s x2 (by omega) v hv
end
mutual
theorem byVal_key : ∀ (k : NestedKey) (v : Value) (n : Nat) (s : Shared), NestedIs s.heap k v → k.depth ≤ n → numK k = true → ByVal P w n s v
  | .none, _, n, s, x, _, z => by cases z
  | .num i, _, n, s, x, _, _ => by
    cases x <;> (intro A E Q q; cases n <;> exact wpAny_pure q)
  | .text y, _, n, s, x, _, z => by cases z
  | .tup ks, _, n, s, x, hn, z => by
    cases x with
    | tup hg hc hd hk =>
      simp only [NestedKey.depth] at hn
      cases n with
      | zero => omega
      | succ n => exact byVal_tup hg hc hd (byVal_keys ks _ n s hk (by omega) z)
theorem byVal_keys : ∀ (ks : List NestedKey) (vs : List Value) (n : Nat) (s : Shared), NestedAll s.heap ks vs → NestedKey.depthAll ks ≤ n → numKs ks = true → ∀ v ∈ vs, ByVal P w n s v
  | [], _, n, s, x, _, _, v, hv => by cases x; cases hv
  | k :: ks, _, n, s, x, hn, z, v, hv => by
    cases x with
    | cons x1 x2 =>
      simp only [NestedKey.depthAll] at hn
      simp only [numKs, Bool.and_eq_true] at z
      rcases List.mem_cons.mp hv with e | hv
      · rw [e]; exact byVal_key k _ n s x1 (by omega) z.1
      · exact byVal_keys ks _ n s x2 (by omega) z.2 v hv
end
variable {A : Around} {E : Value → Shared → Prop} {s : Shared}
/-- a search among such keys shows nothing -/
theorem unseen {k : NestedKey} {b : Addr} {Q : Bool → Shared → Prop} (hk : IsN s.heap k b) {ys : List Value} (hy : ∀ y ∈ ys, ∃ k1 c, y = Value.ref c ∧ IsN s.heap k1 c) (h : Q false s) :
    wpAny (model P w) A (searchCouldBeSeen (.ref b) ys) Q E s := by
  unfold searchCouldBeSeen
  refine wpAny_bind ?_
  refine wpAny_forIn_list _ (fun left r s1 => r.1 = none ∧ s1 = s ∧ ∀ y ∈ left, ∃ k1 c, y = Value.ref c ∧ IsN s.heap k1 c) _ ?_ ?_ _ _ ⟨rfl, rfl, hy⟩
  · rintro v left r s1 ⟨hr, rfl, hl⟩
    obtain ⟨k1, c, rfl, hc⟩ := hl v List.mem_cons_self
    have more : ∀ y ∈ left, ∃ k1 c, y = Value.ref c ∧ IsN s1.heap k1 c := fun u hu => hl u (List.mem_cons_of_mem _ hu)
    dsimp only
    by_cases hv : (b == c || (carriedByValue (.ref b) && carriedByValue (.ref c))) = true
    · refine wp_if_pos hv ?_
      exact wpAny_pure ⟨rfl, rfl, more⟩
    · refine wp_if_neg hv ?_
      refine wpAny_bind (quiet_key k _ 8 s1 hk.1 hk.2.1 _ _ _ ?_)
      simp only [Bool.not_true, Bool.false_eq_true, if_false]
      refine wpAny_bind (quiet_key k1 _ 8 s1 hc.1 hc.2.1 _ _ _ ?_)
      simp only [Bool.not_true, Bool.false_eq_true, if_false]
      refine wpAny_bind (noCls_key k _ 8 s1 hk.1 hk.2.1 _ _ _ ?_)
      simp only [Bool.false_eq_true, if_false]
      refine wpAny_bind (noCls_key k1 _ 8 s1 hc.1 hc.2.1 _ _ _ ?_)
      simp only [Bool.false_eq_true, if_false]
      exact wpAny_pure ⟨rfl, rfl, more⟩
  · rintro ⟨r1, r2⟩ s1 ⟨hr, rfl, _⟩
    simp only at hr
    subst hr
    exact wpAny_pure h
theorem keyHash {k : NestedKey} {b : Addr} {Q : Int → Shared → Prop} (hu : A.units + 8 < cLine) (hk : IsN s.heap k b) (h : Q (k.hash w) { s with toks := s.toks + k.draws }) : wpAny (model P w) A (pyHash (.ref b)) Q E s :=
  pyHash_key k _ A s Q hk.1 (by have := hk.2.1; omega) h
theorem keyEq {x y : NestedKey} {a b : Addr} {Q : Bool → Shared → Prop} (hu : A.units + 8 < cLine) (hx : IsN s.heap x a) (hy : IsN s.heap y b) (h : Q (decide (x = y)) s) : wpAny (model P w) A (eqBool (.ref a) (.ref b)) Q E s :=
  eqAt_key x y A s _ _ hx.1 hy.1 (by have := hx.2.1; omega) _ _ _ _ (by rw [← NestedKey.decide_eq]; exact h)
theorem IsN.inj {h : Heap} {x y : NestedKey} {a : Addr} (hx : IsN h x a) (hy : IsN h y a) : x = y := NestedIs.inj _ _ _ hx.1 hy.1
theorem IsN.stay {h h1 : Heap} {k : NestedKey} {a : Addr} (x : IsN h k a) (hk : ∀ b o vs n, h.get? b = some o → o.data = .seq vs n → h1.get? b = some o) : IsN h1 k a := ⟨NestedIs.at hk _ _ x.1, x.2⟩
theorem IsN.keep {h h1 : Heap} {k : NestedKey} {a : Addr} (x : IsN h k a) (hk : ∀ b o, h.get? b = some o → h1.get? b = some o) : IsN h1 k a := x.stay fun b o _ _ e _ => hk b o e
theorem IsN.but {h h1 : Heap} {k : NestedKey} {a b : Addr} {o : Obj} {es : Array (Int × Value)} {ep : Nat} {t : SetTable} (x : IsN h k b) (ho : h.get? a = some o) (hd : o.data = .set es ep t) (hs : Heap.SameBut a h h1) : IsN h1 k b :=
  x.stay fun c oc vs n e f => by
    refine (hs.2 c fun z => ?_).trans e
    subst z
    rw [ho] at e
    cases e
    rw [hd] at f
    cases f
end
end Ns
/-! NsSet -/
set_option Elab.async false
set_option linter.all false
set_option maxRecDepth 100000
/-! sets of such keys: searching, adding, laying anew (up to 76 elements) -/
namespace Ns
open PySem PySem.Spec PyProof.Rows L2
abbrev Row : Type := Addr × NestedKey
def rw' (w : World) (L : List Row) : List (Int × Value) := L.map fun p => (p.2.hash w, Value.ref p.1)
def hsh (w : World) (L : List Row) : List Int := L.map fun p => p.2.hash w
/-- the set at a holds the rows L, in the order of its table -/
structure NSt (w : World) (h : Heap) (a : Addr) (L : List Row) (es : Array (Int × Value)) (ep : Nat) (t : SetTable) : Prop where
  obj : ∃ o, h.get? a = some o ∧ o.ExactSet ∧ o.data = .set es ep t
  row : es.toList = rw' w L
  tab : TabOk t (hsh w L)
  dis : (L.map (·.2)).Nodup
  key : ∀ p ∈ L, IsN h p.2 p.1
  pl : t.plain = true
  ld : w.params.followText "set-order" = true ∨ t.led = true
  rm : L.length * 5 < t.mask * 3
section
variable {P : Program} {w : World} {A : Around} {E : Value → Shared → Prop} {s : Shared} {a : Addr} {L : List Row} {es : Array (Int × Value)} {ep : Nat} {t : SetTable}
theorem rows_len {w : World} {L : List Row} {es : Array (Int × Value)} (h : es.toList = rw' w L) : es.size = L.length := by
  have q := congrArg List.length h
  simpa [rw'] using q
theorem NSt.few {h : Heap} (S : NSt w h a L es ep t) : L.length ≤ 76 := by
  have := S.rm
  rcases S.tab.mok with e | e | e <;> omega
theorem NSt.fit {h : Heap} (S : NSt w h a L es ep t) : t.fits es.size = true := by
  have h1 : t.place.size = L.length := S.tab.sz.trans (List.length_map _)
  have h2 := rows_len S.row
  have h3 := S.rm
  unfold SetTable.fits SetTable.fill
  rw [S.tab.dm, Bool.and_eq_true, beq_iff_eq, decide_eq_true_eq]
  show t.place.size = es.size ∧ t.place.size + 0 ≤ t.mask
  omega
theorem rows_at {w : World} {L : List Row} {es : Array (Int × Value)} (h : es.toList = rw' w L) {i : Nat} {p : Row} (e : L[i]? = some p) : es[i]? = some (p.2.hash w, Value.ref p.1) := by
  have q : es.toList[i]? = some (p.2.hash w, Value.ref p.1) := by rw [h]; simp [rw', e]
  rwa [Array.getElem?_toList] at q
theorem no_gave (S : TabOk t (hsh w L)) : ¬ t.gaveWay = true := by
  have h := mask_odd S.mok
  unfold SetTable.gaveWay
  rw [h]
  decide
theorem start_nd (m : Nat) (n : Nat) : ∀ p : SetTable.Probe, p.dummy = none → (nth m p n).dummy = none := by
  induction n with
  | zero => exact fun p q => q
  | succ n ih =>
    intro p q
    have z : (adv m p).dummy = none := by unfold adv; split <;> exact q
    exact ih _ z
/-- where the c-th step of the way of g stands -/
abbrev stp (m : Nat) (g : Int) (c : Nat) : SetTable.Probe := nth m (runAt m (SetTable.bits g % (m + 1)) (SetTable.bits g)) c
theorem stp_add (m : Nat) (g : Int) (c q : Nat) : nth m (stp m g c) q = stp m g (c + q) := (nth_add m c _ q).symm
/-- THE SEARCH from step c of the way on: the first empty slot is step K -/
theorem seek (S : NSt w s.heap a L es ep t) {x : Addr} {k : NestedKey} (hx : IsN s.heap k x) (hu : A.units + 8 < cLine) {K : Nat} (far : K < 10 * SetTable.turns t.mask)
    (open_ : way t.mask (k.hash w) K ∉ t.place.toList) (shut : ∀ c, c < K → way t.mask (k.hash w) c ∈ t.place.toList) {Q : SetFound → Shared → Prop}
    (yes : k ∈ L.map (·.2) → Q (.there none) s) (no : k ∉ L.map (·.2) → Q (.free (way t.mask (k.hash w) K) false) s) :
    ∀ (n c : Nat) (at_ : Option SetTable.Probe), at_.getD (t.probeStart (k.hash w)) = stp t.mask (k.hash w) c → c ≤ K → K - c < n →
      (∀ (i : Nat) p, L[i]? = some p → p.2 = k → ∃ d, c ≤ d ∧ d < K ∧ t.place.toList[i]? = some (way t.mask (k.hash w) d)) →
      wpAny (model P w) A (setSearchFrom a (.ref x) (k.hash w) true n at_) Q E s := by
  obtain ⟨o, hob, hex, hda⟩ := S.obj
  intro n
  induction n with
  | zero => exact fun c at_ _ _ z _ => absurd z (Nat.not_lt_zero _)
  | succ n ih =>
    intro c at_ here cK cn ahead
    rw [setSearchFrom_succ]
    refine wpAny_bind (wpAny_setState_of hob hda S.fit ?_)
    dsimp only
    refine wp_if_neg (no_gave S.tab) ?_
    try refine wpAny_bind (wpAny_pure ?_)
    have slot_of : ∀ q, (nth t.mask (stp t.mask (k.hash w) c) q).j = way t.mask (k.hash w) (c + q) := fun q => congrArg SetTable.Probe.j (stp_add t.mask (k.hash w) c q)
    have hashes : ∀ (i : Nat) p, L[i]? = some p → (fun i => (es[i]?.map (·.1)).getD 0) i = p.2.hash w := fun i p e => by
      show (es[i]?.map (·.1)).getD 0 = _
      rw [rows_at S.row e] <;> rfl
    rcases go_spec t S.tab.ris S.tab.dm (fun i => (es[i]?.map (·.1)).getD 0) (k.hash w) (10 * SetTable.turns t.mask) (K - c) (stp t.mask (k.hash w) c) (start_nd t.mask c _ rfl) (by omega)
      (fun q hq => by rw [slot_of]; exact shut (c + q) (by omega)) (by rw [slot_of, show c + (K - c) = K by omega]; exact open_) with ⟨q, i, hq, hi, hh, before, met⟩ | ⟨before, met⟩
    · rw [slot_of] at hi
      have met' : t.probe (fun i => (es[i]?.map (·.1)).getD 0) (k.hash w) (at_.getD (t.probeStart (k.hash w))) = some (.candidate (way t.mask (k.hash w) (c + q)) i (stp t.mask (k.hash w) (c + (q + 1)))) := by
        rw [here, ← slot_of, ← stp_add]
        exact met
      rw [met']
      dsimp only
      have small : i < L.length := by
        have z1 := (List.getElem?_eq_some_iff.mp hi).1
        have z2 : t.place.size = L.length := S.tab.sz.trans (List.length_map _)
        rwa [Array.length_toList, z2] at z1
      obtain ⟨p, hp⟩ : ∃ p, L[i]? = some p := ⟨_, List.getElem?_eq_getElem small⟩
      have hm : p ∈ L := List.mem_of_getElem? hp
      have live : t.slot (way t.mask (k.hash w) (c + q)) = .live i := slot_live S.tab.ris hi
      have tail : wpAny (model P w) A (searchRest a (.ref x) (k.hash w) true n es t (way t.mask (k.hash w) (c + q)) i (stp t.mask (k.hash w) (c + (q + 1)))) Q E s := by
        unfold searchRest
        rw [rows_at S.row hp]
        dsimp only
        refine wpAny_bind (wpAny_holding (keyEq hu (S.key p hm) hx ?_))
        refine wpAny_bind (wpAny_setState_of hob hda S.fit ?_)
        dsimp only
        by_cases same : p.2 = k
        · refine wp_if_pos (by simp [same]) ?_
          exact wpAny_pure (yes (List.mem_map.mpr ⟨p, hm, same⟩))
        · refine wp_if_neg (by simp [same]) ?_
          try refine wpAny_bind (wpAny_pure ?_)
          rw [sameMem]
          dsimp only
          simp only [if_true, live, rows_at S.row hp]
          refine wpAny_bind (wpAny_isSame_ref_self (wpAny_bind (wpAny_pure ?_)))
          simp only [if_true]
          refine wp_if_neg (by simp [same]) ?_
          refine ih (c + (q + 1)) _ rfl (by omega) (by omega) fun i1 p1 e1 k1 => ?_
          obtain ⟨d, d1, d2, d3⟩ := ahead i1 p1 e1 k1
          refine ⟨d, ?_, d2, d3⟩
          rcases Nat.lt_trichotomy d (c + q) with z | z | z
          · exfalso
            refine before (d - c) i1 (by omega) (by rw [slot_of, show c + (d - c) = d by omega]; exact d3) ?_
            exact (hashes i1 p1 e1).trans (congrArg (NestedKey.hash w) k1)
          · exfalso
            rw [z] at d3
            have l1 := slot_live S.tab.ris d3
            rw [live] at l1
            injection l1 with l1
            subst l1
            rw [hp] at e1
            exact same ((congrArg Prod.snd (Option.some.inj e1)).trans k1)
          · omega
      by_cases hl : t.led = true
      · refine wp_if_neg (by simp [hl]) ?_
        try refine wpAny_bind (wpAny_pure ?_)
        exact tail
      · refine wp_if_pos (by simp [hl]) ?_
        refine wpAny_bind (unseen hx (fun y hy => ?_) ?_)
        · obtain ⟨e, he, ee⟩ := List.mem_map.mp hy
          have he1 : e ∈ es := by
            have z : e ∈ es ∧ e.1 = k.hash w := by simpa using he
            exact z.1
          have he2 : e ∈ es.toList := by simpa using he1
          rw [S.row] at he2
          obtain ⟨p2, hp2, e2⟩ := List.mem_map.mp he2
          exact ⟨p2.2, p2.1, by rw [← ee, ← e2], S.key p2 hp2⟩
        · refine wp_if_neg (by decide) ?_
          try refine wpAny_bind (wpAny_pure ?_)
          exact tail
    · have met' : t.probe (fun i => (es[i]?.map (·.1)).getD 0) (k.hash w) (at_.getD (t.probeStart (k.hash w))) = some (.empty (way t.mask (k.hash w) K) none) := by
        have z : way t.mask (k.hash w) K = (nth t.mask (stp t.mask (k.hash w) c) (K - c)).j := by rw [slot_of, show c + (K - c) = K by omega]
        rw [here, z]
        exact met
      rw [met']
      dsimp only
      refine wpAny_pure (no fun hm => ?_)
      obtain ⟨p1, hp1, k1⟩ := List.mem_map.mp hm
      obtain ⟨i1, hi1, e1⟩ := List.getElem_of_mem hp1
      have e2 : L[i1]? = some p1 := by rw [List.getElem?_eq_getElem hi1, e1]
      obtain ⟨d, d1, d2, d3⟩ := ahead i1 p1 e2 k1
      refine before (d - c) i1 (by omega) (by rw [slot_of, show c + (d - c) = d by omega]; exact d3) ?_
      exact (hashes i1 p1 e2).trans (congrArg (NestedKey.hash w) k1)
/-- the whole search, as adding asks for it -/
theorem seek_all (S : NSt w s.heap a L es ep t) {x : Addr} {k : NestedKey} (hx : IsN s.heap k x) (hu : A.units + 8 < cLine) {Q : SetFound → Shared → Prop} (yes : k ∈ L.map (·.2) → Q (.there none) s)
    (no : ∀ K, k ∉ L.map (·.2) → way t.mask (k.hash w) K ∉ t.place.toList → (∀ c, c < K → way t.mask (k.hash w) c ∈ t.place.toList) → Q (.free (way t.mask (k.hash w) K) false) s) :
    wpAny (model P w) A (setSearch a (.ref x) (k.hash w) true) Q E s := by
  have hl : (hsh w L).length = L.length := List.length_map _
  have hr := S.rm
  obtain ⟨K, far, op, sh⟩ := S.tab.first (by omega) (k.hash w)
  have turns : 10 * SetTable.turns t.mask ≤ 1420 := by
    unfold SetTable.turns
    rcases S.tab.mok with e | e | e <;> omega
  unfold setSearch
  refine seek S hx hu far op sh yes (fun z => no K z op sh) 100000 0 none rfl (Nat.zero_le _) (by omega) fun i p hp hk => ?_
  have hi : (hsh w L)[i]? = some (k.hash w) := by unfold hsh; rw [List.getElem?_map, hp, ← hk] <;> rfl
  have hil : i < t.place.toList.length := by
    rw [Array.length_toList, S.tab.sz, hl]
    exact (List.getElem?_eq_some_iff.mp hp).1
  have hj := List.getElem?_eq_getElem hil
  obtain ⟨c, hc, e⟩ := S.tab.before op hi hj
  exact ⟨c, Nat.zero_le _, hc, by rw [hj, e]⟩
end
end Ns
/-! NsAdd -/
set_option Elab.async false
set_option linter.all false
set_option maxRecDepth 100000
namespace Ns
open PySem PySem.Spec PyProof.Rows L2
theorem picked {w : World} (L : List Row) (es : Array (Int × Value)) (order : Array Nat) (hr : es.toList = rw' w L) (hp : order.toList.Perm (List.range L.length)) :
    ∃ M : List Row, (order.filterMap (es[·]?)).toList = rw' w M ∧ M.Perm L ∧ hsh w M = order.toList.map fun i => (es.map (·.1)).getD i 0 := by
  have one : ∀ i p, L[i]? = some p → (es.map (·.1)).getD i 0 = p.2.hash w := fun i p e => by
    have z : (es.map (·.1))[i]? = some (p.2.hash w) := by rw [Array.getElem?_map, rows_at hr e] <;> rfl
    simp [Array.getD_eq_getD_getElem?, z]
  have go : ∀ l : List Nat, (∀ i ∈ l, i < L.length) → l.filterMap (fun i => es[i]?) = rw' w (l.filterMap fun i => L[i]?) ∧ hsh w (l.filterMap fun i => L[i]?) = l.map fun i => (es.map (·.1)).getD i 0 := by
    intro l
    induction l with
    | nil => exact fun _ => ⟨rfl, rfl⟩
    | cons i l ih =>
      intro hl
      obtain ⟨p, e⟩ : ∃ p, L[i]? = some p := ⟨_, List.getElem?_eq_getElem (hl i List.mem_cons_self)⟩
      obtain ⟨e1, e2⟩ := ih fun j hj => hl j (List.mem_cons_of_mem _ hj)
      constructor
      · rw [List.filterMap_cons_some (rows_at hr e), List.filterMap_cons_some e, e1] <;> rfl
      · rw [List.filterMap_cons_some e, List.map_cons, ← e2, one i _ e] <;> rfl
  obtain ⟨e1, e2⟩ := go order.toList fun i hi => List.mem_range.mp (hp.mem_iff.mp hi)
  refine ⟨order.toList.filterMap fun i => L[i]?, by first | (rw [Array.toList_filterMap]; exact e1) | simpa using e1, ?_, e2⟩
  have all : ∀ n, n ≤ L.length → (List.range n).filterMap (fun i => L[i]?) = L.take n := by
    intro n
    induction n with
    | zero => exact fun _ => rfl
    | succ n ih =>
      intro hn
      obtain ⟨p, e⟩ : ∃ p, L[n]? = some p := ⟨_, List.getElem?_eq_getElem hn⟩
      rw [List.range_succ, List.filterMap_append, ih (Nat.le_of_lt hn), List.take_succ, e, List.filterMap_cons_some e] <;> rfl
  have z := hp.filterMap fun i => L[i]?
  rwa [all L.length (Nat.le_refl _), List.take_length] at z
section
variable {P : Program} {w : World} {A : Around} {E : Value → Shared → Prop} {s : Shared} {a : Addr} {L : List Row} {es : Array (Int × Value)} {ep : Nat} {t : SetTable}
/-- the table laid anew -/
theorem laid_anew {o : Obj} (ho : s.heap.get? a = some o) (hex : o.ExactSet) (hd : o.data = .set es ep t) (hr : es.toList = rw' w L) (hsz : t.place.size = es.size) (hdm : t.dummies = #[]) (hfl : es.size ≤ t.mask)
    (nd : (L.map (·.2)).Nodup) (ks : ∀ p ∈ L, IsN s.heap p.2 p.1) (pl : t.plain = true) (ld : w.params.followText "set-order" = true ∨ t.led = true) {wanted M : Nat}
    (hw : SetTable.sizeAbove wanted - 1 = M) (hM : MaskOk M) (hb : SetTable.sizeAbove wanted ≤ 128) (hn : L.length * 5 < M * 3) {Q : Unit → Shared → Prop}
    (hQ : ∀ h1 L1 es1 ep1 t1, Heap.SameBut a s.heap h1 → NSt w h1 a L1 es1 ep1 t1 → L1.Perm L → Q () { s with heap := h1 }) : wpAny (model P w) A (setRelay a wanted) Q E s := by
  have hl := rows_len hr
  have fits : t.fits es.size = true := by
    unfold SetTable.fits SetTable.fill
    rw [hdm, Bool.and_eq_true, beq_iff_eq, decide_eq_true_eq]
    show t.place.size = es.size ∧ t.place.size + 0 ≤ t.mask
    omega
  obtain ⟨t1, order, e, pm, T, em, el, epl, edm⟩ := relaid_ok t (hs := es.map (·.1)) (wanted := wanted) hw hM (by rw [Array.size_map, hl]; omega)
  rw [Array.size_map, hl] at pm
  obtain ⟨M1, r1, r2, r3⟩ := picked L es order hr pm
  rw [← r3] at T
  have hs1 : (order.filterMap (es[·]?)).size = es.size := by rw [rows_len r1, r2.length_eq, hl]
  rw [setRelay_eq]
  refine wpAny_bind (wpAny_setState_of ho hd fits ?_)
  dsimp only
  refine wp_if_neg (by rw [sizeLine_eq]; omega) ?_
  try refine wpAny_bind (wpAny_pure ?_)
  rw [e]
  dsimp only
  refine wpAny_bind ?_
  refine wp_if_neg (by rw [hs1]; simp) ?_
  try refine wpAny_bind (wpAny_pure ?_)
  refine wpAny_pure ?_
  dsimp only
  refine wpAny_storeSet_of ho hd ?_ (by rw [hs1, hl, sizeLine_eq]; rcases hM with z | z | z <;> omega)
  have but : Heap.SameBut a s.heap (s.heap.update a (Obj.putSet (order.filterMap (es[·]?)) t1)) := Heap.SameBut.update ..
  refine hQ _ M1 _ (ep + 1) t1 but ⟨⟨_, store_at ho hd, ⟨hex.1, hex.2.1, hex.2.2⟩, rfl⟩, r1, T, (r2.map (·.2)).nodup_iff.mpr nd, fun p hp => (ks p (r2.mem_iff.mp hp)).but ho hd but, by rw [epl]; exact pl, by rw [el]; exact ld, ?_⟩ r2
  rw [r2.length_eq, em]
  exact hn
/-- ADDING one key -/
theorem put_in (S : NSt w s.heap a L es ep t) {x : Addr} {k : NestedKey} (hx : IsN s.heap k x) (hu : A.units + 8 < cLine) (few1 : k ∉ L.map (·.2) → L.length + 1 ≤ 76) {Q : Bool → Shared → Prop}
    (hQ : ∀ b h1 L1 es1 ep1 t1, Heap.SameBut a s.heap h1 → NSt w h1 a L1 es1 ep1 t1 → (k ∈ L.map (·.2) → L1 = L) → (k ∉ L.map (·.2) → L1.Perm ((x, k) :: L)) → Q b { s with heap := h1 }) :
    wpAny (model P w) A (setAddHashed a (.ref x) (k.hash w)) Q E s := by
  obtain ⟨o, ho, hex, hd⟩ := S.obj
  have hl := rows_len S.row
  have hlh : (hsh w L).length = L.length := List.length_map _
  have hrm := S.rm
  unfold setAddHashed
  refine wpAny_holding ?_
  rw [show (100000 : Nat) = 99999 + 1 from rfl, setAddHashedIn_succ]
  refine wpAny_bind (wpAny_setState_of ho hd S.fit ?_)
  dsimp only
  refine wp_if_neg (by simp [byScan, Value.scannable]) ?_
  try refine wpAny_bind (wpAny_pure ?_)
  refine wpAny_bind (seek_all S hx hu (fun hm => ?_) fun K hm op sh => ?_)
  · dsimp only
    exact wpAny_pure (hQ false s.heap L es ep t (Heap.SameBut.refl a s.heap) S (fun _ => rfl) fun z => absurd hm z)
  have few := few1 hm
  dsimp only
  refine wpAny_bind (wpAny_setState_of ho hd S.fit ?_)
  dsimp only
  obtain ⟨c1, c2, c3, c4, c5, c6, c7, c8, c9⟩ := S.tab.put op sh
  have pl1 : (t.put (way t.mask (k.hash w) K)).1.plain = true := by rw [c6]; exact S.pl
  generalize t.put (way t.mask (k.hash w) K) = pt at c1 c3 c4 c5 c6 c7 c8 c9 pl1 ⊢
  obtain ⟨t1, p⟩ := pt
  dsimp only at c1 c3 c4 c5 c6 c7 c8 c9 pl1 ⊢
  subst c1
  first
    | (refine wpAny_bind ?_; refine wp_if_pos pl1 ?_; refine byVal_key k _ 8 _ hx.1 hx.2.1 hx.2.2 _ _ _ ?_)
    | refine wp_if_pos pl1 (wpAny_bind (byVal_key k _ 8 _ hx.1 hx.2.1 hx.2.2 _ _ _ ?_))
  simp only [if_true]
  generalize SetTable.below t.place (way t.mask (k.hash w) K) = p at c2 c3 ⊢
  have row1 : (SetTable.insertAt es p (k.hash w, Value.ref x)).toList = rw' w (L.take p ++ (x, k) :: L.drop p) := by
    rw [SetTable.toList_insertAt, S.row]
    unfold rw'
    rw [List.map_append, List.map_cons, List.map_take, List.map_drop]
  have pm : (L.take p ++ (x, k) :: L.drop p).Perm ((x, k) :: L) := put_perm L p (x, k)
  have tab1 : TabOk t1 (hsh w (L.take p ++ (x, k) :: L.drop p)) := by
    have z : hsh w (L.take p ++ (x, k) :: L.drop p) = (hsh w L).take p ++ k.hash w :: (hsh w L).drop p := by
      unfold hsh
      rw [List.map_append, List.map_cons, List.map_take, List.map_drop]
    rw [z]
    exact c3
  generalize L.take p ++ (x, k) :: L.drop p = L1 at row1 pm tab1
  have len1 : L1.length = L.length + 1 := pm.length_eq
  have es1 := rows_len row1
  rw [len1] at es1
  generalize SetTable.insertAt es p (k.hash w, Value.ref x) = ees at row1 es1 ⊢
  have nd1 : (L1.map (·.2)).Nodup := by
    refine (pm.map (·.2)).nodup_iff.mpr ?_
    rw [List.map_cons]
    exact List.nodup_cons.mpr ⟨hm, S.dis⟩
  refine wpAny_bind (wpAny_storeSet_of ho hd ?_ (by rw [es1, sizeLine_eq]; omega))
  have but : Heap.SameBut a s.heap (s.heap.update a (Obj.putSet ees t1)) := Heap.SameBut.update ..
  have ho1 := store_at (es' := ees) (t' := t1) ho hd
  generalize s.heap.update a (Obj.putSet ees t1) = h1 at but ho1 ⊢
  have key1 : ∀ q ∈ L1, IsN h1 q.2 q.1 := fun q hq => by
    rcases List.mem_cons.mp (pm.mem_iff.mp hq) with z | z
    · rw [z]; exact hx.but ho hd but
    · exact (S.key q z).but ho hd but
  have ld1 : w.params.followText "set-order" = true ∨ t1.led = true := by rw [c5]; exact S.ld
  have hlh1 : (hsh w L1).length = L.length + 1 := (List.length_map _).trans len1
  by_cases full : t1.tooFull = true
  · first
      | (refine wpAny_bind ?_; refine wp_if_pos (by simp [full]) ?_)
      | (refine wp_if_pos (by simp [full]) ?_; refine wpAny_bind ?_)
    have much : (L.length + 1) * 5 ≥ t1.mask * 3 := by
      have z := full
      unfold SetTable.tooFull at z
      rw [decide_eq_true_eq, c9, hlh] at z
      exact z
    rw [hl]
    have which : (t.mask = 7 ∧ L.length = 4) ∨ (t.mask = 31 ∧ L.length = 18) := by
      rw [c4] at much
      rcases S.tab.mok with z | z | z
      · exact .inl ⟨z, by omega⟩
      · exact .inr ⟨z, by omega⟩
      · omega
    have grow : ∀ M, SetTable.sizeAbove (SetTable.grown (L.length + 1)) - 1 = M → MaskOk M → SetTable.sizeAbove (SetTable.grown (L.length + 1)) ≤ 128 → (L.length + 1) * 5 < M * 3 →
        wpAny (model P w) A (setRelay a (SetTable.grown (L.length + 1))) (fun _ s1 => wpAny (model P w) A (pure true) Q E s1) E { s with heap := h1 } := fun M g1 g2 g3 g4 => by
      refine laid_anew (s := { s with heap := h1 }) ho1 ⟨hex.1, hex.2.1, hex.2.2⟩ rfl row1 (by rw [tab1.sz, hlh1, es1]) tab1.dm (by rw [es1, c4]; rcases which with ⟨z, z2⟩ | ⟨z, z2⟩ <;> omega) nd1 key1 pl1 ld1 g1 g2 g3 (by rw [len1]; exact g4) ?_
      intro h2 L2 es2 ep2 t2 but2 S2 pm2
      exact wpAny_pure (hQ true h2 L2 es2 ep2 t2 (but.trans but2) S2 (fun z => absurd z hm) fun _ => pm2.trans pm)
    rcases which with ⟨_, z⟩ | ⟨_, z⟩
    · exact grow 31 (by rw [z, size_20]) (.inr (.inl rfl)) (by rw [z, size_20]; decide) (by omega)
    · exact grow 127 (by rw [z, size_76]) (.inr (.inr rfl)) (by rw [z, size_76]; decide) (by omega)
  · first
      | refine wp_if_neg (by simp [full]) ?_
      | (refine wpAny_bind ?_; refine wp_if_neg (by simp [full]) ?_; refine wpAny_pure ?_)
    refine wpAny_pure (hQ true h1 L1 ees (ep + 1) t1 but ⟨⟨_, ho1, ⟨hex.1, hex.2.1, hex.2.2⟩, rfl⟩, row1, tab1, nd1, key1, pl1, ld1, ?_⟩ (fun z => absurd z hm) fun _ => pm)
    have z := full
    unfold SetTable.tooFull at z
    rw [decide_eq_true_eq, c9, hlh] at z
    rw [len1]
    omega
end
end Ns
/-! NsCall -/
set_option Elab.async false
set_option linter.all false
set_option maxRecDepth 100000
namespace Ns
open PySem PySem.Spec PyProof.Rows L2
/-- what the set holds after the first i of the rows ks -/
structure Held (ks : List Row) (i : Nat) (L : List Row) : Prop where
  sub : ∀ p ∈ L, p ∈ ks.take i
  all : ∀ p ∈ ks.take i, p.2 ∈ L.map (·.2)
theorem Held.none (ks : List Row) : Held ks 0 [] := ⟨fun p h => (by cases h), fun p h => (by simp at h)⟩
theorem Held.old {ks L : List Row} {i : Nat} {x : Row} (hd : Held ks i L) (h : ks[i]? = some x) (hm : x.2 ∈ L.map (·.2)) : Held ks (i + 1) L := by
  have e := take_next h
  refine ⟨fun p hq => ?_, fun p hq => ?_⟩
  · rw [e]; exact List.mem_append_left _ (hd.sub p hq)
  · rw [e] at hq
    rcases List.mem_append.mp hq with cz | cz
    · exact hd.all p cz
    · rw [List.mem_singleton.mp cz]; exact hm
theorem Held.new {ks L M : List Row} {i : Nat} {x : Row} (hd : Held ks i L) (h : ks[i]? = some x) (pq : M.Perm (x :: L)) : Held ks (i + 1) M := by
  have e := take_next h
  refine ⟨fun p hq => ?_, fun p hq => ?_⟩
  · rw [e]
    rcases List.mem_cons.mp (pq.mem_iff.mp hq) with cz | cz
    · rw [cz]; exact List.mem_append_right _ (List.mem_singleton.mpr rfl)
    · exact List.mem_append_left _ (hd.sub p cz)
  · rw [(pq.map (·.2)).mem_iff, List.map_cons]
    rw [e] at hq
    rcases List.mem_append.mp hq with cz | cz
    · exact List.mem_cons_of_mem _ (hd.all p cz)
    · rw [List.mem_singleton.mp cz]; exact List.mem_cons_self
theorem nodup_le {α : Type} [DecidableEq α] : ∀ (l D : List α), l.Nodup → (∀ x ∈ l, x ∈ D) → l.length ≤ D.length
  | [], _, _, _ => Nat.zero_le _
  | x :: l, D, hn, hs => by
    obtain ⟨h1, h2⟩ := List.nodup_cons.mp hn
    have hx := hs x List.mem_cons_self
    have ih := nodup_le l (D.erase x) h2 fun y hy => (List.mem_erase_of_ne (fun (e : y = x) => h1 (by rw [← e]; exact hy))).mpr (hs y (List.mem_cons_of_mem _ hy))
    rw [List.length_erase_of_mem hx] at ih
    have hq := List.length_pos_of_mem hx
    rw [List.length_cons]
    omega
/-- distinct keys of some rows are no more than the rows' distinct keys -/
theorem Held.le {ks L : List Row} {i m : Nat} (hd : Held ks i L) (nd : (L.map (·.2)).Nodup) (D : List NestedKey) (hD : ∀ p ∈ ks, p.2 ∈ D) (hm : D.length ≤ m) : L.length ≤ m := by
  have h1 : (L.map (·.2)).length ≤ D.length := by
    refine nodup_le _ D nd fun k hk => ?_
    obtain ⟨p, hq, e⟩ := List.mem_map.mp hk
    rw [← e]
    exact hD p (List.mem_of_mem_take (hd.sub p hq))
  rw [List.length_map] at h1
  omega
section
variable {P : Program} {w : World} {A : Around} {E : Value → Shared → Prop} {s : Shared}
theorem NSt.move {h h1 : Heap} {a : Addr} {L : List Row} {es : Array (Int × Value)} {ep : Nat} {t : SetTable} (S : NSt w h a L es ep t) (ha : ∀ o, h.get? a = some o → h1.get? a = some o) (hk : ∀ p ∈ L, IsN h1 p.2 p.1) : NSt w h1 a L es ep t := by
  obtain ⟨o, ho, q⟩ := S.obj
  exact { S with obj := ⟨o, ha o ho, q⟩, key := hk }
abbrev freshObj (w : World) : Obj := { cls := .type "set", dict := none, data := .set #[] 0 (.fresh 0 0 (!w.params.followText "set-order")) }
theorem nst_new {h : Heap} {a : Addr} (ho : h.get? a = some (freshObj w)) : NSt w h a [] #[] 0 (.fresh 0 0 (!w.params.followText "set-order")) where
  obj := ⟨_, ho, ⟨rfl, rfl, rfl⟩, rfl⟩
  row := rfl
  tab := ⟨List.Pairwise.nil, rfl, rfl, .inl rfl, fun x hx => (by cases hx), fun i h j hi => (by simp [hsh] at hi)⟩
  dis := List.nodup_nil
  key := fun p hq => nomatch hq
  pl := rfl
  ld := by
    show _ ∨ (!w.params.followText "set-order") = true
    cases w.params.followText "set-order"
    · exact .inr rfl
    · exact .inl rfl
  rm := by
    show 0 * 5 < 7 * 3
    decide
/-- the loop of set.update over such rows -/
theorem loop_in {I : Addr} {fp wrt : List Addr} {G : Array GenState → Array GenState → Prop} {n : Nat} {Pv : Nat → Value → Prop} {St : Nat → Shared → Prop} {R : Result → Shared → Prop}
    (W : WalksS P w A.in1 I fp wrt G n Pv St) (S : Addr) (offF : S ∉ fp) (ks : List Row) (hn : n = ks.length) (D : List NestedKey) (hD : ∀ p ∈ ks, p.2 ∈ D) (few : D.length ≤ 76) (itm : ∀ i v, Pv i v → ∃ p, ks[i]? = some p ∧ v = .ref p.1)
    (g0 : Heap) (hk : ∀ p ∈ ks, IsN g0 p.2 p.1) (freeS : g0.get? S = none) (freeW : ∀ b ∈ wrt, g0.get? b = none) (room : A.in1.units + 8 < cLine) :
    ∀ (k i : Nat) (s : Shared), n - i = k → i ≤ n → St i s → (∀ b o, g0.get? b = some o → s.heap.get? b = some o) → (∃ L es ep t, NSt w s.heap S L es ep t ∧ Held ks i L) →
      (∀ s1 L es ep t, Moved (S :: wrt) G s s1 → NSt w s1.heap S L es ep t → Held ks n L → (∀ b o, g0.get? b = some o → s1.heap.get? b = some o) → R (.ok (.ret .none)) s1) →
      codeAny (model P w) A (.builtin "set.update.loop" ⟨[.ref S, .ref I], []⟩) R s := by
  have offW : S ∉ wrt := fun h => offF (W.sub _ h)
  have wider : ∀ b ∈ wrt, b ∈ S :: wrt := fun b hb => List.mem_cons_of_mem _ hb
  have after : ∀ {s s1 : Shared}, Moved wrt G s s1 → (∀ b o, g0.get? b = some o → s.heap.get? b = some o) → ∀ b o, g0.get? b = some o → s1.heap.get? b = some o := fun hm stays b o e =>
    hm.heap b o (fun hb => by rw [freeW b hb] at e; cases e) (stays b o e)
  intro k
  induction k with
  | zero =>
    intro i s hk1 hi hst stays ⟨L, es, ep, t, hS, hd⟩ hR
    obtain rfl : i = n := by omega
    refine codeAny_builtin F.entry_set_update_loop ?_
    rw [Around.under_plainId F.plain_set_update_loop _]
    show wpAny _ A.in1 (pyNext (.ref I) >>= _) _ _ s
    refine wpAny_bind (W.done s _ _ hst fun s1 hm => ?_)
    show wpAny _ A.in1 (ret Value.none) _ _ s1
    have kp1 := after hm stays
    exact wpAny_pure (hR s1 L es ep t (hm.mono wider) (hS.move (fun o e => hm.heap S o offW e) fun p hq => (hk p (List.mem_of_mem_take (hd.sub p hq))).keep kp1) hd kp1)
  | succ k ih =>
    intro i s hk1 hi hst stays ⟨L, es, ep, t, hS, hd⟩ hR
    have hlt : i < n := by omega
    refine codeAny_builtin F.entry_set_update_loop ?_
    rw [Around.under_plainId F.plain_set_update_loop _]
    show wpAny _ A.in1 (pyNext (.ref I) >>= _) _ _ s
    refine wpAny_bind (W.item i s _ _ hlt hst fun v s1 itP hst1 hm => ?_)
    obtain ⟨p, hq, rfl⟩ := itm i v itP
    have kp1 := after hm stays
    have S1 : NSt w s1.heap S L es ep t := hS.move (fun o e => hm.heap S o offW e) fun q hq => (hk q (List.mem_of_mem_take (hd.sub q hq))).keep kp1
    have hx : IsN s1.heap p.2 p.1 := (hk p (List.mem_of_getElem? hq)).keep kp1
    show wpAny _ A.in1 (holding [Value.ref p.1] (setAdd S (.ref p.1)) >>= _) _ _ s1
    refine wpAny_bind (wpAny_holding ?_)
    unfold setAdd
    refine wpAny_holding ?_
    refine wpAny_bind (keyHash room hx ?_)
    have fits : p.2 ∉ L.map (·.2) → L.length + 1 ≤ 76 := fun hnm => by
      have nd2 : (((p :: L) : List Row).map (·.2)).Nodup := by
        rw [List.map_cons]
        exact List.nodup_cons.mpr ⟨hnm, hS.dis⟩
      exact (hd.new hq (List.Perm.refl _)).le nd2 D hD few
    refine put_in (s := { s1 with toks := s1.toks + p.2.draws }) S1 hx room fits fun b h1 L1 es1 ep1 t1 but S2 c1 c2 => ?_
    have g1 : Held ks (i + 1) L1 := by
      by_cases c : p.2 ∈ L.map (·.2)
      · rw [c1 c]; exact hd.old hq c
      · exact hd.new hq (c2 c)
    have kp2 : ∀ b o, g0.get? b = some o → h1.get? b = some o := fun b o e => (but.2 b (fun cz => by rw [cz, freeS] at e; cases e)).trans (kp1 b o e)
    refine wpAny_pure ⟨plainId_quiet F.plain_set_update_loop _, ih (i + 1) _ (by omega) hlt (W.frame _ s1 _ _ hst1 (Nat.le_add_right _ _) fun b hb o e => ?_) kp2 ⟨L1, es1, ep1, t1, S2, g1⟩ fun s2 L2 es2 ep2 t2 hm2 S3 g2 kp3 => ?_⟩
    · rw [but.2 b (fun h : b = S => offF (by rw [← h]; exact hb))]; exact e
    · refine hR s2 L2 es2 ep2 t2 (Moved.trans W.gtrans ((hm.mono wider).then_heap (Nat.le_add_right _ _) fun b o hb e => ?_) hm2) S3 g2 kp3
      rw [but.2 b (fun h : b = S => hb (by rw [h]; exact List.mem_cons_self))]; exact e
set_option maxHeartbeats 3200000 in
/-- set(xs), xs a list of such keys, at most 76 different ones -/
theorem make_set {l : Addr} {items : Array Value} (ks : List Row) {Q : Value → Shared → Prop} (calm : A.handled = none) (hl : s.heap.IsList l items) (eqs : items.toList = ks.map fun p => Value.ref p.1)
    (hk : ∀ p ∈ ks, IsN s.heap p.2 p.1) (D : List NestedKey) (hD : ∀ p ∈ ks, p.2 ∈ D) (few : D.length ≤ 76) (room : A.units + 11 < cLine)
    (h : ∀ (h1 : Heap) (tk : Nat) L es ep t, NSt w h1 s.heap.objs.size L es ep t → Held ks ks.length L → (∀ b o, s.heap.get? b = some o → h1.get? b = some o) → Q (.ref s.heap.objs.size) { s with heap := h1, toks := tk }) :
    wpAny (model P w) A (call (.type "set") [.ref l]) Q E s := by
  have isz : items.size = ks.length := by
    have q := congrArg List.length eqs
    rwa [Array.length_toList, List.length_map] at q
  obtain ⟨c, tl, hmro⟩ := F.called_set.mro
  have f1 := F.called_set.made
  have f2 := F.called_set.sub
  have f3 := F.called_set.notType
  have f4 := F.called_set.canCreate
  have f5 := F.typeCall_set_1 (.ref l)
  refine wpAny_call (codeAny_of_tree ?_)
  show wpAny _ _ (callAny (.type "set") _) _ _ _
  refine wpAny_pure ⟨Code.quiet_builtin _ (by decide +kernel), codeAny_builtin F.entry_type_call ?_⟩
  rw [Around.under_plain (weight_type_call_type "set" [.ref l] []) rfl]
  repeat (any_goals (first | assumption | wp_step))
  refine codeAny_mono (code_set_led1 (.ref l) (E := E) (Q₁ := fun obj s₁ => obj = .ref s.heap.objs.size ∧ s₁ = { s with heap := s.heap.push (freshObj w) }) ⟨rfl, rfl⟩) fun r s₁ hr => ?_
  cases r with
  | error e => exact hr
  | ok fl =>
    cases fl with
    | ret obj =>
      obtain ⟨rfl, rfl⟩ := hr
      have newS : (s.heap.push (freshObj w)).get? s.heap.objs.size = some (freshObj w) := Heap.get?_push_size _ rfl
      have newT : Shared.TypeIs { s with heap := s.heap.push (freshObj w) } (.ref s.heap.objs.size) "set" := ⟨_, newS, rfl⟩
      have f6 := F.called_set.init.lookup
      have f7 := F.called_set.init.bind (.ref s.heap.objs.size)
      repeat (any_goals (first | assumption | wp_step))
      refine codeAny_mono (codeAny_call_builtin (R := wants (fun r s₂ => r = .none ∧ ∃ h1 tk L es ep t, s₂ = { s with heap := h1, toks := tk } ∧ NSt w h1 s.heap.objs.size L es ep t ∧ Held ks ks.length L ∧
          (∀ b o, s.heap.get? b = some o → h1.get? b = some o)) E) F.called_set.init.plain F.entry_set_init (check_set_init_1 newT ?_)) fun r₂ s₂ hr₂ => ?_
      · obtain ⟨ob, gob, cob, nob, dob⟩ := hl
        obtain ⟨ocls, odict, odata, oslots⟩ := ob
        simp only at cob dob
        subst cob; subst dob
        have hol2 : (s.heap.push (freshObj w)).get? l = some { cls := .type "list", dict := odict, data := .seq items nob, slots := oslots } := Heap.get?_push_of_some _ gob
        have f8 := F.sub_list_set
        have f9 := F.sub_list_frozenset
        have nd : (Value.type "list" == Value.type "dict") = false := by decide
        have lst1 : (s.heap.push (freshObj w)).IsList l items := ⟨_, hol2, rfl, nob, rfl⟩
        unfold Builtin.«set.__init__» noKeywords Builtin.Frozenset.updateFrom
        generalize hPI : pyIter = PI
        wp_walk
        subst hPI
        refine wpAny_pyIter_list lst1 ?_
        refine wpAny_bind (wpAny_runValue ?_)
        have small : l < s.heap.objs.size := Heap.lt_size gob
        have calm3 : A.in1.in1.in1.handled = none := by simp [calm]
        have sz1 : (s.heap.push (freshObj w)).objs.size = s.heap.objs.size + 1 := Heap.size_push ..
        have apart : l ≠ (s.heap.push (freshObj w)).objs.size := by rw [sz1]; exact Nat.ne_of_lt (Nat.lt_succ_of_lt small)
        have notIn : s.heap.objs.size ∉ [(s.heap.push (freshObj w)).objs.size, l] := by
          rw [sz1]
          simp only [List.mem_cons, List.not_mem_nil, or_false, not_or]
          exact ⟨Nat.ne_of_lt (Nat.lt_succ_self _), Nat.ne_of_gt small⟩
        have itm : ∀ (i : Nat) (v : Value), items[i]? = some v → ∃ p, ks[i]? = some p ∧ v = .ref p.1 := fun i v hv => by
          have q : items.toList[i]? = some v := by rw [Array.getElem?_toList]; exact hv
          rw [eqs, List.getElem?_map] at q
          cases e : ks[i]? with
          | none => rw [e] at q; cases q
          | some p =>
            rw [e] at q
            exact ⟨p, rfl, (Option.some.inj q).symm⟩
        have nothing : ∀ b, s.heap.objs.size ≤ b → s.heap.get? b = none := fun b hb => by
          cases q : s.heap.get? b with
          | none => rfl
          | some o => exact absurd (Nat.lt_of_lt_of_le (Heap.lt_size q) hb) (Nat.lt_irrefl _)
        refine loop_in ((Walks.list calm3 _ l apart items).toS) s.heap.objs.size notIn ks isz D hD few itm s.heap hk (nothing _ (Nat.le_refl _)) (fun b hb => nothing b (by
            rw [List.mem_singleton.mp hb, sz1]
            exact Nat.le_succ _)) (by first | (show A.units + 1 + 1 + 1 + 8 < cLine; omega) | exact room | (simp [Around.in1] at *; omega)) (items.size - 0) 0 _ (by omega) (Nat.zero_le _)
          ⟨⟨_, Heap.get?_push_size _ rfl, rfl, rfl⟩, (lst1.push _)⟩ (fun b o e => Heap.get?_push_of_some _ (Heap.get?_push_of_some _ e)) ?start ?fin
        case start => exact ⟨[], #[], 0, _, nst_new (Heap.get?_push_of_some _ newS), Held.none ks⟩
        case fin =>
          intro s1 L es ep t hm S1 g1 kp
          obtain ⟨h1, g2, d1, tk1, os1⟩ := s1
          have eg : g2 = s.gens := hm.gens
          have ed : d1 = s.drawn := hm.drawn
          have eo : os1 = s.os := hm.os
          subst eg; subst ed; subst eo
          show wpAny _ _ _ _ _ _
          refine wpAny_pure ?_
          show wpAny _ _ (ret Value.none) _ _ _
          rw [isz] at g1
          exact wpAny_pure ⟨rfl, h1, tk1, L, es, ep, t, rfl, S1, g1, kp⟩
      · cases r₂ with
        | error e => exact hr₂
        | ok fl₂ =>
          cases fl₂ with
          | ret r =>
            obtain ⟨rfl, h1, tk, L, es, ep, t, rfl, S1, g1, kp⟩ := hr₂
            repeat (any_goals (first | assumption | wp_step))
            exact h _ _ _ _ _ _ S1 g1 kp
          | _ => exact hr₂.elim
    | _ => exact hr.elim
end
end Ns
/-! NsSort -/
set_option Elab.async false
set_option linter.all false
set_option maxRecDepth 100000
/-! sorting rows that are tuples of alike data, some of them empty -/
namespace Ns
open PySem PySem.Calls PySem.SeqAt PySem.W PyProof.Rows
section
variable {prog : Program} {w : World} {A : Around} {E : Value → Shared → Prop} {s : Shared}
theorem ask_tuple_lt {Q : Value → Shared → Prop} {l b : Addr} {xs ys : Array Value} {e r : Nat → Bool} {o1 o2 : Obj} {n1 n2 : Nat} (g1 : s.heap.get? l = some o1) (c1 : o1.cls = .type "tuple") (d1 : o1.data = .seq xs n1)
    (g2 : s.heap.get? b = some o2) (c2 : o2.cls = .type "tuple") (d2 : o2.data = .seq ys n2) (he : ∀ j (h1 : j < xs.size) (h2 : j < ys.size), EqAt A.in1 s xs[j] ys[j] (e j)) (hr : ∀ j (h1 : j < xs.size) (h2 : j < ys.size), e j = false → RcLt A.in1 s xs[j] ys[j] (r j))
    (h : Q (.bool (firstLt e r (decide (xs.size < ys.size)) (List.range (min xs.size ys.size)))) s) : wpAny (model prog w) A (call (.builtin "tuple.__lt__") [.ref l, .ref b]) Q E s := by
  obtain ⟨k1, q1, a1, s1⟩ := o1
  obtain ⟨k2, q2, a2, s2⟩ := o2
  simp only at c1 d1 c2 d2
  subst c1 d1 c2 d2
  exact call_meets F.slot_tuple_lt ⟨_, g1, rfl⟩ F.entry_tuple_lt (F.args_tuple_lt_2 _ _) (tuple_ltAt l b xs ys n1 n2 q1 q2 s1 s2 e r) ⟨g1, g2, he, hr, h⟩
/-- one tuple against another, by the type's own word or not -/
theorem row_lt {f : Bool} {ds es : List PyData} {a b : Value} {as bs : List Addr} {Q : Bool → Shared → Prop} (ra : Reads s.heap a (.tuple ds) as) (rb : Reads s.heap b (.tuple es) bs) (h : alike (.tuple ds) (.tuple es) = true)
    (hu : A.units + min (PyData.tuple ds).depth (PyData.tuple es).depth < cLine) (hq : Q (dataLt (.tuple ds) (.tuple es)) s) : wpAny (model prog w) A (oneLt' f a b) Q E s := by
  cases f with
  | false => exact oneLt_alike (fun z => nomatch z) ra rb h (fun z => nomatch z) hu hq
  | true =>
    have hal : alikeAll ds es = true := by simpa [alike] using h
    cases ra with
    | @tuple l o vs n _ _ g1 g2 g3 g4 =>
      cases rb with
      | @tuple m o2 ws n2 _ _ k1 k2 k3 k4 =>
        have z1 : vs.size = ds.length := by simpa using ReadsAll.length _ _ _ g4
        have z2 : ws.size = es.length := by simpa using ReadsAll.length _ _ _ k4
        rw [dataLt_tuple, ← firstLt_toks ds es hal, ← z1, ← z2] at hq
        rw [oneLt'_eq]
        simp only [if_true]
        refine wpAny_bind (wpAny_cRoomFor (room_here hu) ?_)
        refine wpAny_bind (wpAny_callSpecialIfBound?_slot (T := "tuple") ⟨_, g1, g2⟩ F.slot_tuple_lt (ask_tuple_lt (e := pairEq ds es) (r := fun j => dataLt (ds.getD j .none) (es.getD j .none)) g1 g2 g3 k1 k2 k3 (fun j j1 j2 => ?_) (fun j j1 j2 hj => ?_) ?_))
        · have q := eqAt_alikeAll ds es A.in1 s vs.toList ws.toList _ _ g4 k4 hal (room_in hu) j (by simpa using j1) (by simpa using j2)
          simpa using q
        · have q := rcLt_alikeAll ds es A.in1 s vs.toList ws.toList _ _ g4 k4 hal (room_in hu) j (by simpa using j1) (by simpa using j2) hj
          simpa using q
        · exact wpAny_truthy_bool hq
/-- does the tuple have an item -/
def full : PyData → Bool
  | .tuple (_ :: _) => true
  | _ => false
theorem firsts_any {M : Model} : ∀ {vs : List Value} {ds : List PyData} {Q : List (Option Value) → Shared → Prop}, EachIs (fun v d => ∃ as, Reads s.heap v d as) vs ds → (∀ d, d ∈ ds → ∃ xs, d = .tuple xs) →
    (∀ os : List (Option Value), os.map (·.isSome) = ds.map full → Q os s) → wpAny M A (vs.mapM firstOfTuple') Q E s
  | [], _, Q, .nil, _, h => by rw [List.mapM_nil]; exact wpAny_pure (h [] rfl)
  | v :: vs, d :: ds, Q, .cons ⟨as, ra⟩ r, ht, h => by
    obtain ⟨xs, rfl⟩ := ht d List.mem_cons_self
    cases ra with
    | @tuple a o its n _ _ g1 g2 g3 g4 =>
      rw [List.mapM_cons]
      refine wpAny_bind ?_
      rw [kas_first_eq]
      refine wpAny_bind (Looks.here (show Looks M s.heap (typeOf (.ref a)) o.cls from (Looks.ld g1).andThen .now) ?_)
      rw [g2, if_neg (by first | decide | simp)]
      refine wpAny_bind (listItems_at g1 g3 (wpAny_pure ?_))
      refine wpAny_bind (firsts_any r (fun d hd => ht d (List.mem_cons_of_mem _ hd)) fun os e => wpAny_pure (h _ ?_))
      have z : (its[0]?).isSome = full (.tuple xs) := by
        have l := ReadsAll.length _ _ _ g4
        cases xs with
        | nil =>
          have l2 : its.size = 0 := by simpa using l
          rw [Array.getElem?_eq_none (by omega)]
          rfl
        | cons x xs =>
          have l2 : its.size = xs.length + 1 := by simpa using l
          rw [Array.getElem?_eq_getElem (by omega)]
          rfl
      rw [List.map_cons, List.map_cons, e, z]
/-- the kind that sorting finds where a tuple is empty -/
theorem kind_any {M : Model} {v0 : Value} {d0 : PyData} {vs : List Value} {ds : List PyData} {Q : SortKind → Shared → Prop} (e : EachIs (fun v d => ∃ as, Reads s.heap v d as) (v0 :: vs) (d0 :: ds)) (ht : ∀ d, d ∈ d0 :: ds → ∃ xs, d = .tuple xs)
    (hno : (d0 :: ds).all full = false) (h : Q (if full d0 = true then general' else oneType') s) : wpAny M A (keyKind' (v0 :: vs).toArray) Q E s := by
  rw [keyKind'_eq, List.mapM_toArray, map_eq_pure_bind]
  refine wpAny_bind (wpAny_bind (firsts_any e ht fun os ho => wpAny_pure ?_))
  have hall : (os.toArray.all fun x => x.isSome) = false := by
    have q : os.all (fun x => x.isSome) = (d0 :: ds).all full := by
      have z := congrArg (fun l => l.all id) ho
      simpa [List.all_map, Function.comp] using z
    rw [List.all_toArray, q, hno]
  rw [if_neg (by rw [hall]; exact Bool.false_ne_true)]
  cases os with
  | nil => simp at ho
  | cons o1 os =>
    have h1 : o1.isSome = full d0 := by simpa using (List.cons.inj ho).1
    have h2 : (((o1 :: os).toArray)[0]?.bind id).isSome = full d0 := by
      rw [← h1]
      simp
    by_cases hf : full d0 = true
    · rw [if_pos (by rw [h2]; exact hf)]
      rw [if_pos hf] at h
      exact wpAny_pure h
    · rw [if_neg (by rw [h2]; exact hf)]
      rw [if_neg hf] at h
      rw [oneTypeOnly'_eq, List.mapM_toArray, map_eq_pure_bind]
      have ty : ∀ v ∈ v0 :: vs, Looks M s.heap (typeOf v) (.type "tuple") := fun v hv => by
        obtain ⟨d, hd, as, ra⟩ := e.left v hv
        obtain ⟨xs, rfl⟩ := ht d hd
        cases ra with
        | @tuple a o its n _ _ g1 g2 g3 g4 =>
          have q : Looks M s.heap (typeOf (.ref a)) o.cls := (Looks.ld g1).andThen .now
          rw [g2] at q
          exact q
      refine wpAny_bind (wpAny_bind (wpAny_bind (kas_mapM (r := Value.type "tuple") _ (fun v hv Q2 hq => (ty v hv).here hq) (wpAny_pure ?_))))
      have all2 : ((List.map (fun _ => Value.type "tuple") (v0 :: vs)).toArray.all fun x => x == Value.type "tuple") = true := by
        simp only [List.all_toArray, List.all_map, List.all_eq_true]
        intro _ _
        exact beq_self_eq_true _
      have at0 : (List.map (fun _ => Value.type "tuple") (v0 :: vs)).toArray[0]? = some (Value.type "tuple") := by simp
      rw [at0]
      simp only [all2, if_true]
      refine wpAny_pure ?_
      simp only [Option.isSome_some, if_true]
      exact wpAny_pure h
/-- rows can be sorted, empty ones among them -/
theorem rowsSort {vs : List Value} {ds : List PyData} (e : EachIs (fun v d => ∃ as, Reads s.heap v d as) vs ds) (hal : AllAlike ds) (ht : ∀ d, d ∈ ds → ∃ xs, d = .tuple xs) (hu : ∀ d, d ∈ ds → A.units + d.depth < cLine) : SortsAt prog w A s (dataKind s.heap ds) vs := by
  by_cases hne : ds.all full = true
  · refine SortsAt.data e hal (.inl fun d hd => ?_) hu
    obtain ⟨xs, rfl⟩ := ht d hd
    have q := List.all_eq_true.mp hne _ hd
    cases xs with
    | nil => cases q
    | cons x xs => exact ⟨x, xs, rfl⟩
  have hno : ds.all full = false := by simpa using hne
  refine ⟨fun v hv => ?_, ?_⟩
  · obtain ⟨d, hd, as, r⟩ := e.left v hv
    exact ⟨_, dataKind_some hal hd r⟩
  cases e with
  | nil => cases hno
  | @cons v0 d0 vs ds r0 rs =>
    have lt : ∀ f : Bool, ∀ (E : Value → Shared → Prop) (x y : Value) (a b : (dataKind s.heap (d0 :: ds)).α) {Q : Bool → Shared → Prop}, (dataKind s.heap (d0 :: ds)).keyOf x = some a → (dataKind s.heap (d0 :: ds)).keyOf y = some b →
        Q ((dataKind s.heap (d0 :: ds)).blt a b) s → wpAny (model prog w) A (oneLt' f x y) Q E s := by
      intro f E x y a b Q ha hb hq
      obtain ⟨d, as, hd, ra, rfl⟩ := dataKind_inv ha
      obtain ⟨d2, bs, hd2, rb, rfl⟩ := dataKind_inv hb
      have hdd := hal d hd d2 hd2
      have room : A.units + min d.depth d2.depth < cLine := Nat.lt_of_le_of_lt (Nat.add_le_add_left (Nat.min_le_left _ _) _) (hu d hd)
      obtain ⟨xs, rfl⟩ := ht d hd
      obtain ⟨ys, rfl⟩ := ht d2 hd2
      exact row_lt ra rb hdd room hq
    refine ⟨if full d0 = true then general' else oneType', ?_, fun h2 E Q hq => kind_any (.cons r0 rs) ht hno hq⟩
    intro E x y a b Q ha hb hq
    by_cases hf : full d0 = true
    · rw [if_pos hf]
      exact lt false E x y a b ha hb hq
    · rw [if_neg hf, keyLt'_oneType]
      exact lt true E x y a b ha hb hq
end
section
variable {prog : Program} {w : World} {A : Around} {E : Value → Shared → Prop} {s : Shared} {β : Type} {enc : β → PyData} {R : Value → β → Prop} {vs : List Value} {bs : List β}
/-- sorted(xs), xs a list of such rows -/
theorem sorted_rows {l : Addr} {Q : Value → Shared → Prop} (hl : s.heap.IsList l vs.toArray) (e : EachIs R vs bs) (er : EachIs (fun v b => ∃ as, Reads s.heap v (enc b) as) vs bs) (hal : AllAlike (bs.map enc)) (ht : ∀ d, d ∈ bs.map enc → ∃ xs, d = .tuple xs) (hL : bs.length ≤ sizeLine)
    (hu : ∀ b, b ∈ bs → A.units + 2 + (enc b).depth < cLine) (h : ∀ out, out.length = bs.length → EachIs R out (bs.mergeSort (dataLe false enc)) → Q (.ref (s.heap.objs.size + 1)) { s with heap := sortedAll s.heap vs (List.toArray out) }) :
    wpAny (model prog w) A (call (.builtin "sorted") [.ref l]) Q E s := by
  have er2 : EachIs (fun v b => ∃ as, Reads (sortingHeap (copyHeap s.heap vs) (s.heap.objs.size + 1) vs) v (enc b) as) vs bs := er.mono fun _ _ ⟨as, r⟩ => ⟨as, PyProof.Rows.Reads.keeps (fun _ _ => sorting_copy_old) r⟩
  exact sorted_vals hl (rowsSort (s := { s with heap := sortingHeap (copyHeap s.heap vs) (s.heap.objs.size + 1) vs }) (each_map (R := fun v d => ∃ as, Reads (sortingHeap (copyHeap s.heap vs) (s.heap.objs.size + 1) vs) v d as) enc er2) hal ht (bound_map hu)) (by rw [e.length]; exact hL)
    (h _ (by rw [sortVals_length false rfl]; exact e.length) (sortVals_data false e er2 hal))
end
end Ns
/-! NsRow -/
set_option Elab.async false
set_option linter.all false
set_option maxRecDepth 100000
/-! wishes: tuples of pairs of ints; as keys, as data, in the heap; their order -/
namespace Ns
open PySem PySem.Spec PySem.Calls PySem.SeqAt PySem.W PyProof.Rows
abbrev Word : Type := Int × Int
abbrev Wish : Type := List Word
def kWord (p : Word) : NestedKey := .tup [.num p.1, .num p.2]
def kWish (r : Wish) : NestedKey := .tup (r.map kWord)
def dWord (p : Word) : PyData := .tuple [.int p.1, .int p.2]
def dWish (r : Wish) : PyData := .tuple (r.map dWord)
def unWord : NestedKey → Word
  | .tup [.num a, .num b] => (a, b)
  | _ => (0, 0)
def unWish : NestedKey → Wish
  | .tup ks => ks.map unWord
  | _ => []
theorem unWish_k (r : Wish) : unWish (kWish r) = r := by
  show (r.map kWord).map unWord = r
  rw [List.map_map]
  exact (List.map_congr_left fun p _ => rfl).trans (List.map_id r)
theorem kWish_inj {a b : Wish} (h : kWish a = kWish b) : a = b := by rw [← unWish_k a, h, unWish_k]
theorem numK_wish : ∀ r : Wish, numKs (r.map kWord) = true
  | [] => rfl
  | p :: r => by
    show (numK (kWord p) && numKs (r.map kWord)) = true
    rw [numK_wish r]
    rfl
theorem depth_words : ∀ r : Wish, NestedKey.depthAll (r.map kWord) ≤ 1
  | [] => Nat.zero_le _
  | p :: r => by
    have h := depth_words r
    show max (NestedKey.depth (kWord p)) (NestedKey.depthAll (r.map kWord)) ≤ 1
    have z : NestedKey.depth (kWord p) = 1 := rfl
    rw [z]
    exact Nat.max_le.mpr ⟨Nat.le_refl _, h⟩
theorem data_words : ∀ r : Wish, PyData.depthAll (r.map dWord) ≤ 1
  | [] => Nat.zero_le _
  | p :: r => by
    have h := data_words r
    have z : PyData.depth (dWord p) ≤ 1 := by simp [dWord, PyData.depth, PyData.depthAll]
    simp only [List.map_cons, PyData.depthAll]
    exact Nat.max_le.mpr ⟨z, h⟩
theorem data_wish (r : Wish) : (dWish r).depth ≤ 2 := by
  have h := data_words r
  simp only [dWish, PyData.depth]
  omega
/-! in the heap -/
def WordAt (h : Heap) (v : Value) (p : Word) : Prop := ∃ (a : Addr) (o : Obj) (t1 t2 : Tok) (n : Nat), v = .ref a ∧ h.get? a = some o ∧ o.cls = .type "tuple" ∧ o.data = .seq #[.int p.1 t1, .int p.2 t2] n
def WishAt (h : Heap) (a : Addr) (r : Wish) : Prop := ∃ (o : Obj) (vs : Array Value) (n : Nat), h.get? a = some o ∧ o.cls = .type "tuple" ∧ o.data = .seq vs n ∧ EachIs (WordAt h) vs.toList r
theorem WordAt.keep {h h1 : Heap} (k : ∀ b o, h.get? b = some o → o.cls = .type "tuple" → h1.get? b = some o) {v : Value} {p : Word} (x : WordAt h v p) : WordAt h1 v p := by
  obtain ⟨a, o, t1, t2, n, e, g, c, d⟩ := x
  exact ⟨a, o, t1, t2, n, e, k a o g c, c, d⟩
theorem WishAt.keep {h h1 : Heap} (k : ∀ b o, h.get? b = some o → o.cls = .type "tuple" → h1.get? b = some o) {a : Addr} {r : Wish} (x : WishAt h a r) : WishAt h1 a r := by
  obtain ⟨o, vs, n, g, c, d, e⟩ := x
  exact ⟨o, vs, n, k a o g c, c, d, e.mono fun v p q => q.keep k⟩
theorem words_key {h : Heap} : ∀ {vs : List Value} {r : Wish}, EachIs (WordAt h) vs r → NestedAll h (r.map kWord) vs
  | _, _, .nil => .nil
  | _, _, .cons ⟨a, o, t1, t2, n, e, g, c, d⟩ q => by
    subst e
    exact .cons (.tup g c d (.cons (.int _ _) (.cons (.int _ _) .nil))) (words_key q)
theorem words_data {h : Heap} : ∀ {vs : List Value} {r : Wish}, EachIs (WordAt h) vs r → ∃ as, ReadsAll h vs (r.map dWord) as
  | _, _, .nil => ⟨[], .nil⟩
  | _, _, .cons ⟨a, o, t1, t2, n, e, g, c, d⟩ q => by
    subst e
    obtain ⟨as, z⟩ := words_data q
    exact ⟨_, .cons (.tuple g c d (.cons (.int _ _) (.cons (.int _ _) .nil))) z⟩
theorem WishAt.key {h : Heap} {a : Addr} {r : Wish} (x : WishAt h a r) : IsN h (kWish r) a := by
  obtain ⟨o, vs, n, g, c, d, e⟩ := x
  refine ⟨.tup g c d (words_key e), ?_, numK_wish r⟩
  have q := depth_words r
  show NestedKey.depthAll (r.map kWord) + 1 ≤ 8
  omega
theorem WishAt.data {h : Heap} {a : Addr} {r : Wish} (x : WishAt h a r) : ∃ as, Reads h (.ref a) (dWish r) as := by
  obtain ⟨o, vs, n, g, c, d, e⟩ := x
  obtain ⟨as, z⟩ := words_data e
  exact ⟨as, .tuple g c d z⟩
theorem WishAt.inj {h : Heap} {a : Addr} {r q : Wish} (x : WishAt h a r) (y : WishAt h a q) : r = q := kWish_inj (x.key.inj y.key)
/-! their order -/
theorem alike_words : ∀ a b : Wish, alikeAll (a.map dWord) (b.map dWord) = true
  | [], [] => rfl
  | [], _ :: _ => rfl
  | _ :: _, [] => rfl
  | p :: a, q :: b => by
    show (alike (dWord p) (dWord q) && alikeAll (a.map dWord) (b.map dWord)) = true
    rw [alike_words a b]
    rfl
theorem alike_wish (a b : Wish) : alike (dWish a) (dWish b) = true := by
  show alikeAll (a.map dWord) (b.map dWord) = true
  exact alike_words a b
/-- a before b -/
def wlt (a b : Wish) : Bool := dataLt (dWish a) (dWish b)
theorem toks_words : ∀ a b : Wish, keyToksAll (a.map dWord) = keyToksAll (b.map dWord) → a = b
  | [], [], _ => rfl
  | [], q :: b, h => by simp [keyToksAll] at h
  | p :: a, [], h => by simp [keyToksAll] at h
  | p :: a, q :: b, h => by
    simp only [List.map_cons, keyToksAll, dWord, keyToks, List.cons_append, List.nil_append, List.append_assoc, List.cons.injEq, Sum.inl.injEq, true_and] at h
    obtain ⟨h1, h2, h3⟩ := h
    rw [toks_words a b h3]
    exact congrArg (· :: b) (Prod.ext h1 h2)
theorem wlt_self (a : Wish) : wlt a a = false := lex_irrefl _
theorem wlt_trans {a b c : Wish} (h1 : wlt a b = true) (h2 : wlt b c = true) : wlt a c = true := lex_trans _ _ _ h1 h2
theorem wlt_total {a b : Wish} (h1 : wlt a b = false) (h2 : wlt b a = false) : a = b := toks_words a b (lex_total _ _ h1 h2)
theorem wlt_le {a b : Wish} (h : wlt b a = false) : wlt a b = true ∨ a = b := by
  cases e : wlt a b with
  | true => exact .inl rfl
  | false => exact .inr (wlt_total e h)
/-- rows in ascending order, each once -/
abbrev Asc (l : List Wish) : Prop := l.Pairwise fun a b => wlt a b = true
theorem Asc.nodup {l : List Wish} (h : Asc l) : l.Nodup := h.imp fun {a b} q e => by rw [e, wlt_self] at q; cases q
theorem Asc.uniq : ∀ {l m : List Wish}, Asc l → Asc m → (∀ x, x ∈ l ↔ x ∈ m) → l = m
  | [], [], _, _, _ => rfl
  | [], y :: m, _, _, h => by have := (h y).mpr List.mem_cons_self; cases this
  | x :: l, [], _, _, h => by have := (h x).mp List.mem_cons_self; cases this
  | x :: l, y :: m, hl, hm, h => by
    obtain ⟨l1, l2⟩ := List.pairwise_cons.mp hl
    obtain ⟨m1, m2⟩ := List.pairwise_cons.mp hm
    have e : x = y := by
      rcases List.mem_cons.mp ((h x).mp List.mem_cons_self) with z | z
      · exact z
      rcases List.mem_cons.mp ((h y).mpr List.mem_cons_self) with q | q
      · exact q.symm
      have c := wlt_trans (m1 x z) (l1 y q)
      rw [wlt_self] at c
      cases c
    subst e
    refine congrArg (x :: ·) (Asc.uniq l2 m2 fun z => ⟨fun hz => ?_, fun hz => ?_⟩)
    · rcases List.mem_cons.mp ((h z).mp (List.mem_cons_of_mem _ hz)) with q | q
      · have c := l1 z hz
        rw [q, wlt_self] at c
        cases c
      · exact q
    · rcases List.mem_cons.mp ((h z).mpr (List.mem_cons_of_mem _ hz)) with q | q
      · have c := m1 z hz
        rw [q, wlt_self] at c
        cases c
      · exact q
section
variable {β : Type} (f : β → Wish)
/-- what mergeSort leaves of items with different rows -/
theorem merged {l : List β} (nd : (l.map f).Nodup) : (l.mergeSort (dataLe false fun b => dWish (f b))).Perm l ∧ Asc ((l.mergeSort (dataLe false fun b => dWish (f b))).map f) := by
  have pm := List.mergeSort_perm l (dataLe false fun b => dWish (f b))
  refine ⟨pm, ?_⟩
  have tr : ∀ a b c : β, dataLe false (fun b => dWish (f b)) a b = true → dataLe false (fun b => dWish (f b)) b c = true → dataLe false (fun b => dWish (f b)) a c = true := by
    intro a b c h1 h2
    have e1 : wlt (f b) (f a) = false := by simpa [dataLe_eq, wlt] using h1
    have e2 : wlt (f c) (f b) = false := by simpa [dataLe_eq, wlt] using h2
    have e3 : wlt (f c) (f a) = false := by
      cases e : wlt (f c) (f a) with
      | false => rfl
      | true =>
        rcases wlt_le e1 with z | z
        · rw [wlt_trans e z] at e2; cases e2
        · rw [z, e2] at e; cases e
    simpa [dataLe_eq, wlt] using e3
  have to : ∀ a b : β, (dataLe false (fun b => dWish (f b)) a b || dataLe false (fun b => dWish (f b)) b a) = true := by
    intro a b
    cases e : wlt (f b) (f a) with
    | false =>
      have z : dataLe false (fun b => dWish (f b)) a b = true := by simpa [dataLe_eq, wlt] using e
      rw [z]; rfl
    | true =>
      have z : wlt (f a) (f b) = false := by
        cases e2 : wlt (f a) (f b) with
        | false => rfl
        | true =>
          have c := wlt_trans e e2
          rw [wlt_self] at c; cases c
      have z2 : dataLe false (fun b => dWish (f b)) b a = true := by simpa [dataLe_eq, wlt] using z
      rw [z2]
      simp
  have srt := List.pairwise_mergeSort tr to l
  have nd2 : ((l.mergeSort (dataLe false fun b => dWish (f b))).map f).Nodup := (pm.map f).nodup_iff.mpr nd
  have both := srt.and (List.pairwise_map.mp nd2)
  refine List.pairwise_map.mpr (both.imp fun {a b} h => ?_)
  have e1 : wlt (f b) (f a) = false := by simpa [dataLe_eq, wlt] using h.1
  rcases wlt_le e1 with z | z
  · exact z
  · exact absurd z h.2
end
end Ns
/-! NsRule -/
set_option Elab.async false
set_option linter.all false
set_option maxRecDepth 100000
set_option maxHeartbeats 2000000
namespace Ns
open PySem PySem.Spec PySem.Calls PySem.SeqAt PySem.W PyProof.Rows L2
abbrev WRow : Type := Addr × Wish
def asKey (p : WRow) : Row := (p.1, kWish p.2)
theorem perm_back {α β : Type} (g : α → β) {vs ws : List β} (h : vs.Perm ws) : ∀ l : List α, ws = l.map g → ∃ m : List α, m.Perm l ∧ vs = m.map g := by
  induction h with
  | nil =>
    intro l e
    cases l with
    | nil => exact ⟨[], List.Perm.refl _, rfl⟩
    | cons y l => cases e
  | cons x _ ih =>
    intro l e
    cases l with
    | nil => cases e
    | cons y l =>
      obtain ⟨e1, e2⟩ := List.cons.inj e
      obtain ⟨m, hm, e3⟩ := ih l e2
      exact ⟨y :: m, hm.cons y, by rw [List.map_cons, e1, e3]⟩
  | swap x y t =>
    intro l e
    cases l with
    | nil => cases e
    | cons a l =>
      cases l with
      | nil => cases (List.cons.inj e).2
      | cons b l =>
        obtain ⟨e1, e2⟩ := List.cons.inj e
        obtain ⟨e3, e4⟩ := List.cons.inj e2
        exact ⟨b :: a :: l, List.Perm.swap a b l, by rw [List.map_cons, List.map_cons, e1, e3, e4]⟩
  | trans _ _ ih1 ih2 =>
    intro l e
    obtain ⟨m, hm, e1⟩ := ih2 l e
    obtain ⟨n, hn, e2⟩ := ih1 m e1
    exact ⟨n, hn.trans hm, e2⟩
theorem each_self {α : Type} {R : Value → α → Prop} (g : α → Value) : ∀ l : List α, (∀ x ∈ l, R (g x) x) → EachIs R (l.map g) l
  | [], _ => .nil
  | x :: l, h => .cons (h x List.mem_cons_self) (each_self g l fun y hy => h y (List.mem_cons_of_mem _ hy))
theorem each_refs {α : Type} (g : α → Value) : ∀ {vs : List Value} {l : List α}, EachIs (fun v x => v = g x) vs l → vs = l.map g
  | _, _, .nil => rfl
  | _, _, .cons e q => by rw [e, each_refs g q, List.map_cons]
section
variable {P : Program} {w : World} {A : Around} {E : Value → Shared → Prop} {s : Shared}
/-- sorted(set) of wishes -/
theorem sorted_nset {a : Addr} {M : List WRow} {es : Array (Int × Value)} {ep : Nat} {t : SetTable} {Q : Value → Shared → Prop} (S : NSt w s.heap a (M.map asKey) es ep t) (hh : A.handled = none) (hk : ∀ p ∈ M, WishAt s.heap p.1 p.2) (hu : A.units + 4 < cLine)
    (hQ : ∀ s1 p (out : Array Value) (c : Nat) (N : List WRow), (∀ b o, s.heap.get? b = some o → s1.heap.get? b = some o) → s1.gens = s.gens → s1.os = s.os → s.heap.objs.size ≤ p →
      s1.heap.get? p = some (seqObj "list" out c) → out.toList = N.map (fun q => Value.ref q.1) → N.Perm M → Asc (N.map (·.2)) → Q (.ref p) s1) :
    wpAny (model P w) A (call (.builtin "sorted") [.ref a]) Q E s := by
  obtain ⟨o, ho, hex, hd⟩ := S.obj
  have few := S.few
  have hl := rows_len S.row
  rw [List.length_map] at hl few
  have small : es.size < scanBound := by unfold scanBound; omega
  have ats : SetAt s.heap a es ep t := ⟨o, ho, hex.1, hd⟩
  refine Calls.call_function_entry kind_sorted plain_sorted entry_sorted (args_sorted1 _) ?_
  unfold Builtin.«sorted»
  refine wpAny_bind (m := checkCount "sorted" 1 1 _) (wpAny_pure ?_)
  refine wpAny_bind (collect_set (A := A.in1) hh ats S.fit small S.tab.ris S.ld fun s1 vs k1 hz g1 o1 pm => ?_)
  have hes : es.toList.map (·.2) = M.map fun q => Value.ref q.1 := by
    rw [S.row]
    unfold rw' asKey
    rw [List.map_map, List.map_map] <;> rfl
  rw [hes] at pm
  obtain ⟨M0, pm0, e0⟩ := perm_back _ pm M rfl
  subst e0
  have len0 : (M0.map fun q => Value.ref q.1).length ≤ 76 := by
    rw [List.length_map, pm0.length_eq]
    exact few
  have nd : (M0.map (·.2)).Nodup := by
    refine (pm0.map (·.2)).nodup_iff.mpr ?_
    have q := S.dis
    rw [List.map_map] at q
    have q2 : ((M.map (·.2)).map kWish).Nodup := by rw [List.map_map]; exact q
    exact nodup_of_map q2
  refine wpAny_bind (wpAny_newList ?_ (by rw [sizeLine_eq]; omega))
  have hoL : (s1.heap.push (seqObj "list" (M0.map fun q => Value.ref q.1).toArray 0)).get? s1.heap.objs.size = some (seqObj "list" (M0.map fun q => Value.ref q.1).toArray 0) := Heap.get?_push_size _ rfl
  have kept : ∀ p ∈ M0, WishAt (sortingHeap (s1.heap.push (seqObj "list" (M0.map fun q => Value.ref q.1).toArray 0)) s1.heap.objs.size (M0.map fun q => Value.ref q.1)) p.1 p.2 := fun p hp =>
    (hk p (pm0.mem_iff.mp hp)).keep fun b u e _ => by
      have q := k1 b u e
      exact sortingHeap_old (Nat.ne_of_lt (Heap.lt_size q)) (Heap.get?_push_of_some _ q)
  have reads : EachIs (fun v (b : WRow) => ∃ as, Reads (sortingHeap (s1.heap.push (seqObj "list" (M0.map fun q => Value.ref q.1).toArray 0)) s1.heap.objs.size (M0.map fun q => Value.ref q.1)) v (dWish b.2) as) (M0.map fun q => Value.ref q.1) M0 :=
    each_self _ _ fun p hp => (kept p hp).data
  have alike_all : AllAlike (M0.map fun b => dWish b.2) := AllAlike.of fun a b => alike_wish a.2 b.2
  refine wpAny_bind (wpAny_holding (wpAny_call_entry slot_list_sort ⟨_, hoL, rfl⟩ entry_list_sort (list_sort_vals (κ := dataKind (sortingHeap (s1.heap.push (seqObj "list" (M0.map fun q => Value.ref q.1).toArray 0)) s1.heap.objs.size (M0.map fun q => Value.ref q.1)) (M0.map fun b => dWish b.2)) hoL
    (rowsSort (s := { s1 with heap := sortingHeap (s1.heap.push (seqObj "list" (M0.map fun q => Value.ref q.1).toArray 0)) s1.heap.objs.size (M0.map fun q => Value.ref q.1) }) (each_map (R := fun v d => ∃ as, Reads (sortingHeap (s1.heap.push (seqObj "list" (M0.map fun q => Value.ref q.1).toArray 0)) s1.heap.objs.size (M0.map fun q => Value.ref q.1)) v d as) (fun b : WRow => dWish b.2) reads) alike_all (fun d hd => ?_) (fun d hd => ?_))
    (by rw [sizeLine_eq]; omega) ⟨.none, rfl, ?_⟩) (args_list_sort _)))
  · obtain ⟨b, _, rfl⟩ := List.mem_map.mp hd
    exact ⟨_, rfl⟩
  · obtain ⟨b, _, rfl⟩ := List.mem_map.mp hd
    have q := data_wish b.2
    show A.units + 1 + 1 + (dWish b.2).depth < cLine
    omega
  · have out := sortVals_data (h' := sortingHeap (s1.heap.push (seqObj "list" (M0.map fun q => Value.ref q.1).toArray 0)) s1.heap.objs.size (M0.map fun q => Value.ref q.1)) (R := fun v (b : WRow) => v = Value.ref b.1) (enc := fun b : WRow => dWish b.2) false (each_self _ _ fun p _ => rfl) reads alike_all
    have e1 := each_refs _ out
    obtain ⟨pm2, asc⟩ := merged (fun b : WRow => b.2) nd
    generalize M0.mergeSort (dataLe false fun b => dWish b.2) = N at out e1 pm2 asc
    rw [e1]
    obtain ⟨c, hc⟩ := sortedHeap_at (vs := M0.map fun q => Value.ref q.1) (out := (N.map fun q => Value.ref q.1).toArray) hoL
    refine wpAny_pure ⟨_, rfl, hQ _ s1.heap.objs.size _ c N (fun b u e => ?_) g1 o1 hz hc (by simp) (pm2.trans pm0) asc⟩
    have q := k1 b u e
    have hlt := Heap.lt_size q
    show (sortedHeap (s1.heap.push (seqObj "list" (M0.map fun q => Value.ref q.1).toArray 0)) s1.heap.objs.size _ _).get? b = some u
    rw [sortedHeap_old (Nat.ne_of_lt hlt) (by rw [size_push']; exact Nat.lt_succ_of_lt hlt)]
    exact Heap.get?_push_of_some _ q
end
end Ns
/-! NsHp -/
set_option Elab.async false
set_option linter.all false
set_option maxRecDepth 100000
set_option maxHeartbeats 2000000
namespace Ns
open PySem PySem.Spec PySem.Calls PySem.SeqAt PySem.W PyProof.Rows L2
/-! the same in the layer's heap -/
def WordH (K : PySem.W.Frag) (H : Hp) (x : V) (p : Word) : Prop := ∃ a, x = .ref a ∧ H a = some (.tup [.int p.1, .int p.2])
def WishH (K : PySem.W.Frag) (H : Hp) (a : Addr) (r : Wish) : Prop := ∃ xs, SqT K H a xs ∧ EachV (WordH K H) xs r
where
  EachV (R : V → Word → Prop) : List V → Wish → Prop
  | [], [] => True
  | x :: xs, p :: r => R x p ∧ EachV R xs r
  | _, _ => False
structure NSet0 (w : World) (h : Heap) (a : Addr) (L : List Row) : Prop where
  ex : ∃ (es : Array (Int × Value)) (ep : Nat) (t : SetTable), (∃ o, h.get? a = some o ∧ o.ExactSet ∧ o.data = .set es ep t) ∧ es.toList = rw' w L ∧ TabOk t (hsh w L) ∧ (L.map (·.2)).Nodup ∧ t.plain = true ∧
    (w.params.followText "set-order" = true ∨ t.led = true) ∧ L.length * 5 < t.mask * 3
def NSetO (w : World) (a : Addr) (L : List Row) : HO := .ext fun h => NSet0 w h a L
theorem NSt.bare {w : World} {h : Heap} {a : Addr} {L : List Row} {es : Array (Int × Value)} {ep : Nat} {t : SetTable} (S : NSt w h a L es ep t) : NSet0 w h a L := ⟨es, ep, t, S.obj, S.row, S.tab, S.dis, S.pl, S.ld, S.rm⟩
theorem NSet0.full {w : World} {h : Heap} {a : Addr} {L : List Row} (S : NSet0 w h a L) (hk : ∀ p ∈ L, IsN h p.2 p.1) : ∃ es ep t, NSt w h a L es ep t := by
  obtain ⟨es, ep, t, h1, h2, h3, h4, h5, h6, h7⟩ := S.ex
  exact ⟨es, ep, t, h1, h2, h3, h4, hk, h5, h6, h7⟩
theorem nset_ok {P : Program} {w : World} {H : Hp} {h : Heap} {a : Addr} {L : List Row} (S : NSet0 w h a L) : ObjOk P w H h a (NSetO w a L) := by
  have ⟨es, ep, t, ⟨o, ho, r⟩, q⟩ := S.ex
  refine ⟨S, ⟨o, ho⟩, fun h1 h2 p k => ?_⟩
  have ⟨es2, ep2, t2, ⟨o2, ho2, r2⟩, q2⟩ := NSet0.ex p
  exact ⟨es2, ep2, t2, ⟨o2, k o2 ho2, r2⟩, q2⟩
theorem refs_v {α : Type} (g : α → Addr) : ∀ {l : List α} {us : List Value}, Vals (l.map fun p => V.ref (g p)) us → us = l.map fun p => Value.ref (g p)
  | [], _, .nil => rfl
  | p :: l, _, .cons r q => by
    cases r
    rw [refs_v g q] <;> rfl
theorem v_refs {α : Type} (g : α → Addr) : ∀ l : List α, Vals (l.map fun p => V.ref (g p)) (l.map fun p => Value.ref (g p))
  | [] => .nil
  | p :: l => .cons rfl (v_refs g l)
section
variable {X : Cx} {pins : List (Addr × Obj)} {σ : L2.St} {H : Hp} {s : Shared}
theorem word_at (I : Inv X pins σ H s) {x : V} {u : Value} {p : Word} (h : WordH X.K H x p) (r : RelV x u) : WordAt s.heap u p := by
  obtain ⟨a, rfl, hT0⟩ := h
  have hT : SqT X.K H a [.int p.1, .int p.2] := SqT.of hT0
  obtain rfl : u = Value.ref a := r
  obtain ⟨its, rv, ⟨o, ho, hc, n, hd⟩, _⟩ := I.tuple hT
  obtain ⟨u1, u2, rfl, ⟨t1, rfl⟩, ⟨t2, rfl⟩⟩ := vals2 rv
  exact ⟨a, o, t1, t2, n, rfl, ho, hc, hd⟩
theorem words_at (I : Inv X pins σ H s) : ∀ {xs : List V} {us : List Value} {r : Wish}, WishH.EachV (WordH X.K H) xs r → Vals xs us → EachIs (WordAt s.heap) us r
  | [], _, [], _, .nil => .nil
  | [], _, _ :: _, h, _ => h.elim
  | _ :: _, _, [], h, _ => h.elim
  | x :: xs, _, p :: r, h, .cons rx rr => .cons (word_at I h.1 rx) (words_at I h.2 rr)
theorem wish_at (I : Inv X pins σ H s) {a : Addr} {r : Wish} (h : WishH X.K H a r) : WishAt s.heap a r := by
  obtain ⟨xs, hT, he⟩ := h
  obtain ⟨its, rv, ⟨o, ho, hc, n, hd⟩, _⟩ := I.tuple hT
  exact ⟨o, its.toArray, n, ho, hc, hd, by simpa using words_at I he rv⟩
/-- set(xs), xs a list of wishes, at most 76 different ones -/
def rSetW (K : PySem.W.Frag) (w : World) : List V → Hp → VK → Prop := fun xs H Q => ∃ (l : Addr) (rs : List WRow) (D : List Wish), xs = [V.ref l] ∧ SqL K H l (rs.map fun p => V.ref p.1) ∧ (∀ p ∈ rs, WishH K H p.1 p.2) ∧ (∀ p ∈ rs, p.2 ∈ D) ∧ D.length ≤ 76 ∧
  ∀ a (M : List WRow), H a = none → (∀ p ∈ M, p ∈ rs) → (∀ p ∈ rs, p.2 ∈ M.map (·.2)) → Q (.ref a) (upd H a (NSetO w a (M.map asKey)))
theorem unrow {rs : List WRow} {L : List Row} (h : ∀ p ∈ L, p ∈ rs.map asKey) : ∃ M : List WRow, L = M.map asKey ∧ ∀ p ∈ M, p ∈ rs := by
  induction L with
  | nil => exact ⟨[], rfl, fun p hp => nomatch hp⟩
  | cons q L ih =>
    obtain ⟨M, e, hM⟩ := ih fun p hp => h p (List.mem_cons_of_mem _ hp)
    obtain ⟨p, hp, ep⟩ := List.mem_map.mp (h q List.mem_cons_self)
    refine ⟨p :: M, by rw [List.map_cons, ep, e], fun z hz => ?_⟩
    rcases List.mem_cons.mp hz with c | c
    · rw [c]; exact hp
    · exact hM z c
theorem cr_setW (hc : X.calm = true) (hu : X.A.units + 64 < cLine) : CallR X (.type "set") (rSetW X.K X.w) := by
  intro pins s σ H xs us Q I r h
  obtain ⟨l, rs, D, rfl, hl, hk, hD, few, q⟩ := h
  rw [Vals.ref1 r]
  obtain ⟨its, rv, pl, hz⟩ := I.list hl
  have hn : H s.heap.objs.size = none := I.hok.fresh (Nat.le_refl _)
  refine make_set (P := X.prog) (w := X.w) (rs.map asKey) (I.ok.hd hc) pl.isList (by rw [List.map_map]; have z := refs_v (fun p : WRow => p.1) rv; simp only [List.toList_toArray] at z ⊢; exact z) (fun p hp => ?_) (D.map kWish) (fun p hp => ?_) (by rw [List.length_map]; exact few) (by omega) fun h1 tk L es ep t S g k => ?_
  · obtain ⟨p0, hp0, rfl⟩ := List.mem_map.mp hp
    exact (wish_at I (hk p0 hp0)).key
  · obtain ⟨p0, hp0, rfl⟩ := List.mem_map.mp hp
    exact List.mem_map.mpr ⟨p0.2, hD p0 hp0, rfl⟩
  · obtain ⟨M, rfl, hM⟩ := unrow fun p hp => List.mem_of_mem_take (g.sub p hp)
    refine ⟨.ref s.heap.objs.size, upd H s.heap.objs.size (NSetO X.w s.heap.objs.size (M.map asKey)), I.laid (t' := tk) k (Nat.le_refl _) (nset_ok S.bare), rfl, q _ M hn hM fun p hp => ?_⟩
    have z := g.all (asKey p) (by rw [List.take_length]; exact List.mem_map.mpr ⟨p, hp, rfl⟩)
    rw [List.map_map] at z
    obtain ⟨m, hm, e⟩ := List.mem_map.mp z
    exact List.mem_map.mpr ⟨m, hm, kWish_inj e⟩
/-- sorted(set) of wishes -/
def rSortSetW (K : PySem.W.Frag) (w : World) : List V → Hp → VK → Prop := fun vs H Q => ∃ (a : Addr) (M : List WRow), vs = [V.ref a] ∧ H a = some (NSetO w a (M.map asKey)) ∧ (∀ p ∈ M, WishH K H p.1 p.2) ∧
  ∀ (N : List WRow) (p : Addr), N.Perm M → Asc (N.map (·.2)) → N.length ≤ 76 → H p = none → Q (.ref p) (upd H p (.lst (N.map fun q => V.ref q.1)))
theorem cr_sortSetW (hc : X.calm = true) (hu : X.A.units + 64 < cLine) : CallR X (.builtin "sorted") (rSortSetW X.K X.w) := by
  intro pins s σ H vs us Q I r h
  obtain ⟨a, M, rfl, ha, hk, q⟩ := h
  have S0 : NSet0 X.w s.heap a (M.map asKey) := (I.hok a _ ha).1
  obtain ⟨es, ep, t, S⟩ := S0.full fun p hp => by
    obtain ⟨p0, hp0, rfl⟩ := List.mem_map.mp hp
    exact (wish_at I (hk p0 hp0)).key
  have few := S.few
  rw [List.length_map] at few
  rw [Vals.ref1 r]
  refine sorted_nset S (I.ok.hd hc) (fun p hp => wish_at I (hk p hp)) (by omega) fun s1 p out c N k g o hp hg hout pm asc => ?_
  have hlen : (N.map fun q => V.ref q.1).length ≤ sizeLine := by rw [List.length_map, pm.length_eq, sizeLine_eq]; omega
  have hn : H p = none := I.hok.fresh hp
  have hv : Vals (N.map fun q => V.ref q.1) out.toList := by rw [hout]; exact v_refs (fun q : WRow => q.1) N
  have J : Inv X pins σ (upd H p (.lst (N.map fun q => V.ref q.1))) { s with heap := s1.heap, gens := s1.gens, drawn := s1.drawn, toks := s1.toks } :=
    I.call (ch := []) (Un.laid k hp hn) (I.hok.laid k hp ⟨hlen, out.toList, c, hv, hg⟩) (by rw [g]; exact I.bare) (fun _ z => nomatch z)
  have e : s1 = { s with heap := s1.heap, gens := s1.gens, drawn := s1.drawn, toks := s1.toks } := by
    cases s1
    cases s
    cases o
    rfl
  refine ⟨.ref p, _, by rw [e]; exact J, rfl, q N p pm asc (by rw [pm.length_eq]; exact few) hn⟩
end
end Ns
/-! NsDc -/
set_option Elab.async false
set_option linter.all false
set_option maxRecDepth 100000
set_option maxHeartbeats 2000000
/-! a dict comprehension whose keys are tuples -/
namespace Ns
open PySem PySem.Spec PyProof.Rows L2
theorem setT {X : Cx} {pins : List (Addr × Obj)} {σ : L2.St} {H : Hp} {s : Shared} {E : Value → Shared → Prop} {D b : Addr} {kvs : List (List Key × V)} {k : List Key} {v : V} {r : Value} {Q : Unit → Shared → Prop} (hu : X.A.units + 1 < cLine) (I : Inv X pins σ H s) (hD : H D = some (.dT kvs)) (hz : kvs.length < sizeLine)
    (hb : H b = some (.tup (k.map kV))) (rv : RelV v r) (h : ∀ s1, Inv X pins σ (upd H D (.dT (putK kvs k v))) s1 → Q () s1) : wpAny (model X.prog X.w) X.A (dictSet D (.ref b) r) Q E s := by
  obtain ⟨z, hd, xs, rel, dd⟩ := dt_of I.hok hD
  have few : xs.length ≤ sizeLine := by rw [← Paired.length rel]; exact z
  have len : (putK kvs k v).length ≤ sizeLine := by have := length_putK kvs k v; omega
  refine wpAny_dictSet_heap (hsz := few) (knd := tupleKind (mixKind X.prog X.w)) (by show X.A.units < cLine; omega) (key_of I.hok hb) dd fun h1 d1 hs => h _ ?_
  obtain ⟨o, es, ep, g1, g2, g3, g4, _, g5⟩ := d1
  refine d_write I (by rw [hD]; exact True.intro) hs ⟨o, g1⟩ ⟨len, hd, _, (rel.put k hb rv).keeps fun c ys ec => ?_, o, es, ep, g1, g2, g3, g4, g5⟩
  rw [upd_ne (ne_of ec hD (fun q => nomatch q))]
  exact ec
section
variable {X : Cx}
def tDt (wi : TI) (g : TG) (tt : TT) (tk tv : TE) (vs : List Nat) : TE := fun σ H Q => wi σ H fun J H1 => ∀ D, H1 D = none → ∃ W : Nat → Nat → Hp → Prop, (∃ m, W 0 m (upd H1 D (.dT []))) ∧ ∀ i m H, W i m H →
  (J.stop i H ∧ Q (.ref D) H) ∨ (J.go i H ∧ ∃ Nw : Hp → Prop, (∀ H', Nw H' → ∃ m', m' < m ∧ W (i + 1) m' H') ∧ ∀ x H', J.yld i H x H' → g x (wipe σ vs) H' fun σ2 H2 => wipe σ2 vs = wipe σ vs ∧ tt σ2 H2 fun b H3 =>
    if b = true then tk σ2 H3 fun y H4 => tv σ2 H4 fun z Hh => ∃ kvs k c, y = .ref c ∧ Hh c = some (.tup (k.map kV)) ∧ Hh D = some (.dT kvs) ∧ kvs.length < sizeLine ∧ Nw (upd Hh D (.dT (putK kvs k z))) else Nw H3)
theorem dt_core {pins : List (Addr × Obj)} {s : Shared} {σ : L2.St} {H : Hp} {Q : VK} {kk vv trg src : Expr} {tests : List Expr} {blk : Scope} {own : List (Str × Nat)} {plc plc2 : Pos} {wi : TI} {g : TG} {tt : TT} {tk tv : TE} {use : Option (Value → Sem Unit)} {Qf : Value → Shared → Prop}
    (hu : X.A.units + 1 < cLine) (hc : X.calm = true) (hN : X.N.Nodup) (I : Inv X pins σ H s) (okI : PI X trg src wi) (ok : BlkOk X.N X.env.scope blk own)
    (okG : ∀ (s : Shared) (H : Hp) (C : Addr) (cs : List (Str × Addr)) (lent : List Addr), PG (X.blk s H blk (compEnvC blk cs C X.env) lent) trg g) (okT : ∀ (s : Shared) (H : Hp) (C : Addr) (cs : List (Str × Addr)) (lent : List Addr), PTs (X.blk s H blk (compEnvC blk cs C X.env) lent) tests tt)
    (okK : ∀ (s : Shared) (H : Hp) (C : Addr) (cs : List (Str × Addr)) (lent : List Addr), PE (X.blk s H blk (compEnvC blk cs C X.env) lent) kk tk)
    (okE : ∀ (s : Shared) (H : Hp) (C : Addr) (cs : List (Str × Addr)) (lent : List Addr), PE (X.blk s H blk (compEnvC blk cs C X.env) lent) vv tv) (hs : ∀ x, foldedSetIterable src X.env x = pure x)
    (h : tDt wi g tt tk tv (own.map (·.2)) σ H Q)
    (back : ∀ D C s1 m H1, Inv X pins σ H1 s1 → Q (.ref D) H1 → s1.heap.Ns C m → FpOk X pins H1 C → compPost (model X.prog X.w) X.A X.xe use Qf (.ref D) C (.ok .next) s1) :
    wpAny (model X.prog X.w) X.A (comprehension (.DictComp kk vv [⟨trg, src, tests, 0⟩] blk plc) blk X.env plc2 newDict false (eval src X.env) use) Qf X.xe s := by
  have cells : ∀ y ∈ blk.names, y.2 = .free → ∃ c, X.env.cells.lookup y.1 = some c := fun y hy e => by
    rcases ok.free y hy e with k | k
    · exact I.ok.has _ (.inl k)
    · exact I.ok.has _ (.inr k)
  refine wpAny_comprehension_free (use := use) rfl hs (closure_ok cells) ok.kind (fun y hy e => by rw [ok.uniq y hy, e])
    (thn (okI.run pins s σ H _ I h) fun xv s1 hx => thn hx fun iv s2 h2 => ?_)
  obtain ⟨it, lent, ph, J, H2, e, I2, T, ph2, f2, q⟩ := h2
  subst e
  refine wpAny_newObj_type (newEnv_comp ?_)
  generalize hD : s2.heap.objs.size = D
  have noD : H2 D = none := I2.hok.fresh (Nat.le_of_eq hD)
  obtain ⟨W, ⟨mu, wd⟩, eachT⟩ := q D noD
  generalize e3 : ({ s2 with heap := s2.heap.push { cls := .type "dict", data := .dict #[] } } : Shared) = s3
  have I3 : Inv X pins σ (upd H2 D (.dT [])) s3 := by
    rw [← e3]
    refine I2.laid (t' := s2.toks) (fun b o z => Heap.get?_push_of_some _ z) (Nat.le_of_eq hD) ?_
    rw [← hD]
    exact dt_empty s2.heap I2.big
  have h3 : s3.heap = s2.heap.push { cls := .type "dict", data := .dict #[] } := by rw [← e3]
  have lows : ∀ b ∈ lent, b < s2.heap.objs.size := fun b hb => by
    obtain ⟨o, z, _⟩ := T.obj _ _ ph2 b hb
    exact Heap.lt_size z
  have f3 : ∀ b ∈ lent, FpOk X pins (upd H2 D (.dT [])) b ∧ b < s3.heap.objs.size := fun b hb => by
    have low := lows b hb
    refine ⟨⟨?_, (f2 b hb).2⟩, by rw [h3, Heap.size_push]; exact Nat.lt_succ_of_lt low⟩
    rw [upd_ne (by rw [← hD]; exact Nat.ne_of_lt low)]
    exact (f2 b hb).1
  have ph3 : ph 0 s3.heap := T.keep _ _ _ ph2 fun b _ o z => by rw [h3]; exact Heap.get?_push_of_some _ z
  have I4 := block_start I3 ok hN f3
  have rg := okG s3 (upd H2 D (.dT [])) s3.heap.objs.size (cellsFrom (s3.heap.objs.size + 1) blk.names (cloFrom X.env.cells blk.names [])) lent
  have rt := okT s3 (upd H2 D (.dT [])) s3.heap.objs.size (cellsFrom (s3.heap.objs.size + 1) blk.names (cloFrom X.env.cells blk.names [])) lent
  have rk := okK s3 (upd H2 D (.dT [])) s3.heap.objs.size (cellsFrom (s3.heap.objs.size + 1) blk.names (cloFrom X.env.cells blk.names [])) lent
  have re := okE s3 (upd H2 D (.dT [])) s3.heap.objs.size (cellsFrom (s3.heap.objs.size + 1) blk.names (cloFrom X.env.cells blk.names [])) lent
  show codeAny _ _ (.compStart (.DictComp kk vv [⟨trg, src, tests, 0⟩] blk plc) 0 (.ref it) (.ref D) (compEnvC blk (cellsFrom (s3.heap.objs.size + 1) blk.names (cloFrom X.env.cells blk.names [])) s3.heap.objs.size X.env)) (compPost (model X.prog X.w) X.A X.xe use Qf (.ref D) s3.heap.objs.size) { s3 with heap := pushCells (s3.heap.push { cls := .type "dict", data := .dict #[] }) blk.names }
  have none3 : ∀ b ∈ lent, (upd H2 D (.dT [])) b = none := fun b hb => (f3 b hb).1.1
  generalize hce : compEnvC blk (cellsFrom (s3.heap.objs.size + 1) blk.names (cloFrom X.env.cells blk.names [])) s3.heap.objs.size X.env = ev at I4 rg rt rk re ⊢
  have evL : ev.locals = s3.heap.objs.size := by subst hce; rfl
  generalize hH3 : upd H2 D (.dT []) = H3 at I3 I4 rg rt rk re wd none3 f3
  generalize e4 : ({ s3 with heap := pushCells (s3.heap.push { cls := .type "dict", data := .dict #[] }) blk.names } : Shared) = s4 at I4 ⊢
  have ph4 : ph 0 s4.heap := T.keep _ _ _ ph3 fun b _ o z => by rw [← e4]; exact pushCells_keeps _ _ _ _ (Heap.get?_push_of_some _ z)
  have stat : ∀ {σ1 : L2.St} {H1 : Hp} {s1 : Shared}, Inv (X.blk s3 H3 blk ev lent) [] σ1 H1 s1 → (∀ b ∈ lent, H1 b = none) → ∀ b ∈ lent, FpOk (X.blk s3 H3 blk ev lent) [] H1 b := fun {σ1 H1 s1} J hn b hb =>
    ⟨hn b hb, (J.ok.exf b hb).1, J.ok.exfs b hb, .inl hb, fun x c z => (J.ok.exf b hb).2 x c z, fun p hp => absurd (show p ∈ ([] : List (Addr × Obj)) ++ [] from hp) (by simp)⟩
  have loop : codeAny (model X.prog X.w) X.A (.compLoop (.DictComp kk vv [⟨trg, src, tests, 0⟩] blk plc) 0 (.ref it) (.ref D) ev) (compPost (model X.prog X.w) X.A X.xe use Qf (.ref D) s3.heap.objs.size) s4 := by
    refine compLoop_anyD (fun n s1 => ∃ i H1, Inv (X.blk s3 H3 blk ev lent) [] (wipe σ (own.map (·.2))) H1 s1 ∧ ph i s1.heap ∧ (∀ b ∈ lent, H1 b = none) ∧ W i n H1) ?_ mu ⟨0, H3, I4, ph4, none3, wd⟩
    rintro n sa ⟨i, Hh, I5, ph5, n5, wd5⟩
    rcases eachT i n Hh wd5 with ⟨stop, atEnd⟩ | ⟨go, Nw, hNw, step⟩
    · refine thnF (T.done (X.blk s3 H3 blk ev lent) rfl rfl rfl hc i [] sa _ Hh (fun _ _ => False) I5 (stat I5 n5) ph5 stop) fun r sb ⟨hr, I6⟩ => ?_
      subst hr
      have I7 : Inv X pins σ Hh sb := I3.call' (ch := lent) I6.os I6.base I6.hok I6.bare fun b hb => ⟨(f3 b hb).1.2.2.2.1, (f3 b hb).1.2.1, (f3 b hb).1.2.2.2.2.1, (f3 b hb).1.2.2.2.2.2⟩
      have nC : Hh s3.heap.objs.size = none := by
        have z : Hh ev.locals = none := I6.free
        rw [evL] at z
        exact z
      obtain ⟨m, hn, _⟩ := I6.loc
      have hn2 : sb.heap.Ns ev.locals m := hn
      rw [evL] at hn2
      exact back D s3.heap.objs.size sb m Hh I7 atEnd hn2 (I3.fpOk (Nat.le_refl _) nC)
    · refine thnF (T.item (X.blk s3 H3 blk ev lent) rfl rfl rfl hc i [] sa _ Hh (fun _ _ => False) I5 (stat I5 n5) ph5 go) fun r sb ⟨u, hr, h6⟩ => ?_
      subst hr
      refine thnF h6 fun _ sc ⟨x, Hj, I7, r7, y7, ph7, n7⟩ => ?_
      refine thnF (rg.run _ sc _ Hj x u _ (I7.pinned (stat I7 n7) (T.obj _ _ ph7)) r7 (step x Hj y7)) fun _ s8 ⟨σ8, H8, I8, hw8, q8⟩ => ?_
      refine thnF (rt.run _ s8 σ8 H8 _ I8 q8) fun b s9 ⟨H9, I9, q9⟩ => ?_
      have fin : ∀ {s1 : Shared} {H1 : Hp}, Inv (X.blk s3 H3 blk ev lent) ([] ++ pinsAt lent sc.heap) σ8 H1 s1 → Nw H1 → ∃ m, m < n ∧ ∃ i H1, Inv (X.blk s3 H3 blk ev lent) [] (wipe σ (own.map (·.2))) H1 s1 ∧ ph i s1.heap ∧ (∀ b ∈ lent, H1 b = none) ∧ W i m H1 := fun {s1 H1} J nx => by
        obtain ⟨m1, hm, w1⟩ := hNw H1 nx
        have pin1 : ∀ b ∈ lent, ∀ o, sc.heap.get? b = some o → s1.heap.get? b = some o ∧ H1 b = none := fun b hb o z =>
          let y := J.pin (b, o) (List.mem_append_right _ (List.mem_append_right _ (mem_pinsAt hb z)))
          ⟨y.1, y.2.1⟩
        have lenW : (wipe σ (own.map (·.2))).length = σ8.length := by rw [← hw8, wipe_length]
        refine ⟨m1, hm, i + 1, H1, (J.unpinned (pins := [])).weak lenW (fun j v z => ?_), T.keep _ _ _ ph7 fun b hb o z => (pin1 b hb o z).1, fun b hb => ?_, w1⟩
        · rw [← hw8] at z
          exact (wipe_some z).1
        · obtain ⟨o, z, _⟩ := T.obj _ _ ph7 b hb
          exact (pin1 b hb o z).2
      cases b with
      | false =>
        simp only [Bool.false_eq_true, if_false] at q9 ⊢
        exact fin I9 q9
      | true =>
        simp only [if_true] at q9 ⊢
        refine thnF (rk.run _ s9 σ8 H9 _ I9 q9) fun z s10 ⟨yk, H10, I10, r10, q10⟩ => ?_
        refine thnF (re.run _ s10 σ8 H10 _ I10 q10) fun z2 s11 ⟨yv, H11, I11, r11, kvs, k, c, ek, hc11, hD11, hz11, nx⟩ => ?_
        subst ek
        obtain rfl : z = Value.ref c := r10
        exact setT (X := X.blk s3 H3 blk ev lent) hu I11 hD11 hz11 hc11 r11 fun s12 I12 => fin I12 nx
  exact codeAny_compStart_dict loop (T.self X.A 0 _ _ _ ph4 loop)
theorem pe_dt {kk vv trg src : Expr} {tests : List Expr} {blk : Scope} {own : List (Str × Nat)} {plc : Pos} {wi : TI} {g : TG} {tt : TT} {tk tv : TE} (hu : X.A.units + 1 < cLine) (hc : X.calm = true) (hN : X.N.Nodup) (okI : PI X trg src wi) (ok : BlkOk X.N X.env.scope blk own)
    (okG : ∀ (s : Shared) (H : Hp) (C : Addr) (cs : List (Str × Addr)) (lent : List Addr), PG (X.blk s H blk (compEnvC blk cs C X.env) lent) trg g) (okT : ∀ (s : Shared) (H : Hp) (C : Addr) (cs : List (Str × Addr)) (lent : List Addr), PTs (X.blk s H blk (compEnvC blk cs C X.env) lent) tests tt)
    (okK : ∀ (s : Shared) (H : Hp) (C : Addr) (cs : List (Str × Addr)) (lent : List Addr), PE (X.blk s H blk (compEnvC blk cs C X.env) lent) kk tk)
    (okE : ∀ (s : Shared) (H : Hp) (C : Addr) (cs : List (Str × Addr)) (lent : List Addr), PE (X.blk s H blk (compEnvC blk cs C X.env) lent) vv tv) (hs : ∀ x, foldedSetIterable src X.env x = pure x := by intro _; rfl) :
    PE X (.DictComp kk vv [⟨trg, src, tests, 0⟩] blk plc) (tDt wi g tt tk tv (own.map (·.2))) := by
  refine ⟨fun pins s σ H Q I h => ?_⟩
  rw [arm_eval_DictComp]
  refine dt_core hu hc hN I okI ok okG okT okK okE hs h fun D C s1 m H1 J q hn f => ⟨m, hn, fun h2 sb => ?_⟩
  obtain ⟨f0, f1, f2, f3, f4, f5⟩ := f
  exact ⟨.ref D, H1, J.turned (t' := s1.toks) (fun b o hb z => (sb.2 b hb).trans z) f0 f1 f3 f4 f5, rfl, q⟩
theorem dt_tup {K : PySem.W.Frag} {a : Addr} {xs : List V} {g : TG} {tt : TT} {tk tv : TE} {vs : List Nat} {σ : L2.St} {H1 : Hp} {D : Addr} {Qd : Hp → Prop} (Pv : Nat → Hp → Prop) (h0 : Pv 0 (upd H1 D (.dT []))) (lenW : ∀ i H, i ≤ xs.length → Pv i H → SqT K H a xs)
    (hs : ∀ i x H, xs[i]? = some x → Pv i H → g x (wipe σ vs) H fun σ2 H2 => wipe σ2 vs = wipe σ vs ∧ tt σ2 H2 fun b H3 =>
      if b = true then tk σ2 H3 fun y H4 => tv σ2 H4 fun z Hh => ∃ kvs k c, y = .ref c ∧ Hh c = some (.tup (k.map kV)) ∧ Hh D = some (.dT kvs) ∧ kvs.length < sizeLine ∧ Pv (i + 1) (upd Hh D (.dT (putK kvs k z))) else Pv (i + 1) H3) (hd : ∀ H, Pv xs.length H → Qd H) :
    ∃ W : Nat → Nat → Hp → Prop, (∃ m, W 0 m (upd H1 D (.dT []))) ∧ ∀ i m H, W i m H →
      ((Itt K a).stop i H ∧ Qd H) ∨ ((Itt K a).go i H ∧ ∃ Nw : Hp → Prop, (∀ H', Nw H' → ∃ m', m' < m ∧ W (i + 1) m' H') ∧ ∀ x H', (Itt K a).yld i H x H' → g x (wipe σ vs) H' fun σ2 H2 => wipe σ2 vs = wipe σ vs ∧ tt σ2 H2 fun b H3 =>
        if b = true then tk σ2 H3 fun y H4 => tv σ2 H4 fun z Hh => ∃ kvs k c, y = .ref c ∧ Hh c = some (.tup (k.map kV)) ∧ Hh D = some (.dT kvs) ∧ kvs.length < sizeLine ∧ Nw (upd Hh D (.dT (putK kvs k z))) else Nw H3) := by
  refine ⟨fun i m H => m + i = xs.length ∧ Pv i H, ⟨xs.length, rfl, h0⟩, ?_⟩
  rintro i m H ⟨hm, p⟩
  have st := lenW i H (by omega) p
  by_cases lt : i < xs.length
  · refine .inr ⟨⟨xs, xs[i], st, by simp [lt]⟩, Pv (i + 1), fun H' p' => ⟨m - 1, by omega, by omega, p'⟩, fun x H' y => ?_⟩
    obtain ⟨e, y⟩ := y
    subst e
    exact hs i x _ (y xs st) p
  · obtain rfl : i = xs.length := by omega
    exact .inl ⟨⟨xs, st, Nat.le_refl _⟩, hd H p⟩
end
end Ns
/-! NsMerge -/
set_option Elab.async false
set_option linter.all false
set_option maxRecDepth 100000
set_option maxHeartbeats 2000000
namespace PySem
open Sem (wp)
open PyProof.Rows
section
variable {prog : Program} {w : World} {K : Type} [DecidableEq K] {knd : KeyKind prog w K} {A : Around} {E : Value → Shared → Prop} {s : Shared}
theorem ns_dictPut {d : Addr} {kvs : List (K × Value)} {k : K} {key v : Value} {Q : Unit → Shared → Prop} (hkey : knd.is k key = true) (hm : s.heap.DictOf knd d kvs)
    (hQ : ∀ h', h'.DictOf knd d (stored kvs k v) → Heap.SameBut d s.heap h' → Q () { s with heap := h' })
    (hsz : kvs.length ≤ sizeLine := by size_fits) :
    wpAny (model prog w) A (dictPut d (knd.hash k) key v) Q E s := by
  obtain ⟨o, es, ep, ho, hc, hd, hk, hp, hn⟩ := hm
  have hes : es.size ≤ sizeLine := by
    have e1 := hp.length
    have e2 : es.toList.length = es.size := by simp
    omega
  unfold dictPut
  refine wpAny_bind (wpAny_dictFind_of hkey ho hd hk ?_)
  have hidx : (es.findIdx? fun e => knd.is k e.key) = kvs.findIdx? fun kv => decide (kv.1 = k) := by
    rw [← hp.findIdx k]; obtain ⟨l⟩ := es; simp
  cases hi : es.findIdx? fun e => knd.is k e.key with
  | some i =>
    refine wpAny_updateDict ho hd (hQ _ ⟨_, _, ep, Heap.get?_update_self _ ho (Obj.isFreed_of_dict (Obj.data_mapDict hd _)),
      hc.mapDict _, Obj.data_mapDict hd _, hk.modify _ _, ?_, ?_⟩ (Heap.SameBut.update ..))
    · rw [stored, if_pos (any_of_findIdx_some (hidx ▸ hi))]
      have hl : (es.toList.findIdx? fun e => knd.is k e.key) = some i := by rw [← hi]; obtain ⟨l⟩ := es; simp
      have := hp.modify hn hl v
      obtain ⟨l⟩ := es
      simpa using this
    · rw [stored, if_pos (any_of_findIdx_some (hidx ▸ hi)), keys_map_store]; exact hn
  | none =>
    have hnot : k ∉ kvs.map (·.1) := not_mem_of_findIdx_none (hidx ▸ hi)
    have hany : ¬ (kvs.any fun kv => decide (kv.1 = k)) = true := by
      rw [List.any_eq_true]; rintro ⟨kv, hkv, he⟩
      exact hnot (List.mem_map.mpr ⟨kv, hkv, of_decide_eq_true he⟩)
    refine wpAny_updateDictKeys (hz := hes) ho hd (hQ _ ⟨_, _, ep + 1, Heap.get?_update_self _ ho (Obj.isFreed_of_dict (Obj.data_mapDictKeys hd _)),
      hc.mapDictKeys _, Obj.data_mapDictKeys hd _, hk.push hkey _, ?_, ?_⟩ (Heap.SameBut.update ..))
    · rw [stored, if_neg hany]
      have := hp.append hkey (knd.hash k) v
      obtain ⟨l⟩ := es
      simpa using this
    · rw [stored, if_neg hany, List.map_append, List.nodup_append]
      refine ⟨hn, by simp, ?_⟩
      intro a ha b hb
      simp only [List.map_cons, List.map_nil, List.mem_singleton] at hb
      subst hb
      exact fun e => hnot (e ▸ ha)
theorem ns_merge {d o : Addr} {kvs more : List (K × Value)} {Q : Unit → Shared → Prop} (hv : ∀ k v, knd.is k v = true → carriedByValue v = true) (hdo : d ≠ o) (hoS : (o == sysModules) = false)
    (hd : s.heap.DictOf knd d kvs) (ho : s.heap.DictOf knd o more)
    (hQ : ∀ h', h'.DictOf knd d (merged kvs more) → h'.DictOf knd o more → Heap.SameBut d s.heap h' → Q () { s with heap := h' })
    (hsz : kvs.length + more.length ≤ sizeLine := by size_fits) :
    wpAny (model prog w) A (mergeMapping d (.ref o) false) Q E s := by
  obtain ⟨od, esd, epd, hod, hcd, hdd, hkd, hpd, hnd⟩ := id hd
  obtain ⟨oo, eso, epo, hoo, hco, hdo', hko, hpo, hno⟩ := id ho
  unfold mergeMapping
  refine wpAny_bind (wpAny_isInstance ho.typeIs (b := true) (by kernel_rfl) ?_)
  have loop : wpAny (model prog w) A (do
      let __do_lift ← dictEntries o
      let size : Nat := __do_lift.size
      let epoch ← dictEpoch o
      forIn (List.range size) PUnit.unit fun i (_ : PUnit) => (do
          let l' ← dictEntries o
          match l'[i]? with
            | some e => do
              holding [e.key, e.val] (dictPut d e.hash e.key e.val)
              let ep' ← dictEpoch o
              if (ep' != epoch) = true then do
                  (unsupported "dict.changed-during-merge" : Sem PUnit)
                  pure (ForInStep.yield PUnit.unit)
                else pure (ForInStep.yield PUnit.unit)
            | _ => do
              (unsupported "dict.changed-during-merge" : Sem PUnit)
              pure (ForInStep.yield PUnit.unit) : Sem (ForInStep PUnit))
      pure ()) Q E s := by
    have hlen : more.length = eso.size := by rw [← hpo.length]; simp
    refine wpAny_bind (wpAny_dictEntries hoo hdo' ?_)
    refine wpAny_bind (wpAny_dictEpoch hoo hdo' ?_)
    refine wpAny_bind ?_
    rw [List.range_eq_range']
    refine wpAny_forIn_list _
      (fun rest _ s' => ∃ h' i, s' = { s with heap := h' } ∧ rest = List.range' i (eso.size - i) ∧ i ≤ eso.size ∧ h'.DictOf knd d (merged kvs (more.take i)) ∧ h'.get? o = some oo ∧ Heap.SameBut d s.heap h')
      _ ?_ ?_ _ _ ⟨s.heap, 0, rfl, by simp, Nat.zero_le _, by simpa [merged] using hd, hoo, Heap.SameBut.refl _ _⟩
    · rintro x rest b s' ⟨h', i, rfl, hr, hi, hd', hoo', hs'⟩
      have hlt : i < eso.size := by
        rcases Nat.lt_or_ge i eso.size with h | h
        · exact h
        · rw [Nat.sub_eq_zero_of_le h] at hr; simp at hr
      obtain ⟨rfl, hrest⟩ : x = i ∧ rest = List.range' (i + 1) (eso.size - (i + 1)) := by
        have e : eso.size - i = (eso.size - (i + 1)) + 1 := by omega
        rw [e, List.range'_succ] at hr
        injection hr with h1 h2
        exact ⟨h1, h2⟩
      refine wpAny_bind (wpAny_dictEntries hoo' hdo' ?_)
      rw [Array.getElem?_eq_getElem hlt]
      obtain ⟨kv, hkv⟩ : ∃ kv, more[x]? = some kv := ⟨more[x]'(by rw [hlen]; exact hlt), List.getElem?_eq_getElem _⟩
      obtain ⟨k, v⟩ := kv
      obtain ⟨hkey, hval⟩ := hpo.get? (e := eso[x]) (by simp [hlt]) hkv
      obtain ⟨k', hkey', hhash⟩ := hko eso[x] (Array.getElem_mem hlt)
      obtain rfl : k' = k := knd.inj _ _ _ hkey' hkey
      show wpAny _ _ (holding [eso[x].key, eso[x].val] (dictPut d eso[x].hash eso[x].key eso[x].val) >>= _) _ _ _
      rw [hhash, hval]
      have hmx : (merged kvs (more.take x)).length ≤ sizeLine := by
        have e1 := merged_length_le kvs (more.take x)
        have e2 : (more.take x).length ≤ more.length := by rw [List.length_take]; omega
        omega
      refine wpAny_bind (wpAny_holding (ns_dictPut (hsz := hmx) hkey hd' fun h'' hd'' hs'' => ?_))
      have hoo'' : h''.get? o = some oo := (hs''.2 o (Ne.symm hdo)).trans hoo'
      refine wpAny_bind (wpAny_dictEpoch hoo'' hdo' ?_)
      rw [if_neg (by simp)]
      exact wpAny_pure ⟨h'', x + 1, rfl, hrest, hlt, by rw [merged_take_succ kvs more x (k', v) hkv]; exact hd'', hoo'', hs'.trans hs''⟩
    · rintro b s' ⟨h', i, rfl, hr, hi, hd', hoo', hs'⟩
      have hin : i = eso.size := by
        rcases Nat.lt_or_ge i eso.size with h | h
        · have e : eso.size - i = (eso.size - (i + 1)) + 1 := by omega
          rw [e, List.range'_succ] at hr; exact nomatch hr
        · exact Nat.le_antisymm hi h
      refine wpAny_pure (hQ h' ?_ ⟨oo, eso, epo, hoo', hco, hdo', hko, hpo, hno⟩ hs')
      rw [hin, ← hlen, List.take_length] at hd'; exact hd'
  rw [if_pos rfl]
  refine wpAny_bind (wpAny_specialOf ho.typeIs F.slot_dict_iter.lookup (wpAny_bind (wpAny_pure ?_)))
  have e1 : ((some (Value.builtin "dict.__iter__") : Option Value) == some (.builtin "dict.__iter__")) = true := by decide +kernel
  rw [e1]
  dsimp only
  rw [if_neg (by rw [hoS]; exact Bool.false_ne_true)]
  refine wpAny_bind (wpAny_dictEntries hod hdd ?_)
  split
  · refine wpAny_bind (wpAny_dictEntries hoo hdo' ?_)
    refine wpAny_bind ?_
    rw [← Array.forIn_toList]
    refine wpAny_forIn_list _ (fun rest _ s' => s' = s ∧ ∀ x ∈ rest, x ∈ eso.toList) _ ?_ ?_ _ _ ⟨rfl, fun x hx => hx⟩
    · rintro x rest b s' ⟨rfl, hr⟩
      obtain ⟨k', hkey', _⟩ := hko x (Array.mem_toList_iff.mp (hr x List.mem_cons_self))
      have hc := hv _ _ hkey'
      cases hkk : x.key with
      | ref a => rw [hkk] at hc; cases hc
      | _ => exact wpAny_pure ⟨rfl, fun y hy => hr y (List.mem_cons_of_mem _ hy)⟩
    · rintro b s' ⟨rfl, _⟩
      exact loop
  · exact loop
end
end PySem
/-! NsDisp -/
set_option Elab.async false
set_option linter.all false
set_option maxRecDepth 100000
set_option maxHeartbeats 2000000
namespace L2
open PySem PySem.Spec PyProof.Rows
/-- {**m, k: v} of a dict m with keys ints and texts; d the new dict, e a dict that holds the pair meanwhile -/
def tDStar (tm tk tv : TE) : TE := fun σ H Q => ∀ d, H d = none → tm σ (upd H d (.dK [])) fun x H1 => ∃ (a : Addr) (kvs : List (Key × V)), x = .ref a ∧ a ≠ d ∧ H1 a = some (.dK kvs) ∧ H1 d = some (.dK []) ∧ kvs.length + 1 ≤ sizeLine ∧
  ∀ e, (upd H1 d (.dK kvs)) e = none → tk σ (upd (upd H1 d (.dK kvs)) e (.dK [])) fun y H2 => tv σ H2 fun z H3 => ∃ k : Key, y = kV k ∧ H3 e = some (.dK []) ∧ H3 d = some (.dK kvs) ∧
    Q (.ref d) (upd (upd H3 e (.dK [(k, z)])) d (.dK (putK kvs k z)))
theorem carried_mix {P : Program} {w : World} (k : Key) (v : Value) (h : (mixKind P w).is k v = true) : carriedByValue v = true := by
  first
    | exact mixKind_carried h
    | exact (mixKind P w).carried h
    | (cases v <;> first | rfl | (exfalso; revert h; cases k <;> (intro h; cases h)))
theorem pe_dstar {X : Cx} {om k v : Expr} {tm tk tv : TE} {pos : Pos} (hm : PE X om tm) (hk : PE X k tk) (hv : PE X v tv) : PE X (.Dict [none, some k] [om, v] pos) (tDStar tm tk tv) := by
  refine ⟨fun pins s σ H Q I q => ?_⟩
  have pps : PPs X pos [some k] [v] [(tk, tv)] := pps_cons hk hv pps_nil
  have hn := I.hok.fresh (Nat.le_refl s.heap.objs.size)
  have I1 := I.laid (a := s.heap.objs.size) (o := .dK []) (h' := s.heap.push { cls := .type "dict", data := .dict #[] }) (t' := s.toks) (fun _ _ q => Heap.get?_push_of_some _ q) (Nat.le_refl _) (dk_empty s.heap I.big)
  rw [arm_eval_Dict]
  refine wpAny_bind (wpAny_standAt ?_)
  show wpAny _ _ (dictDisplay [(none, do let x ← eval om X.env; standAt pos; pure x), (some (eval k X.env), do let x ← eval v X.env; standAt pos; pure x)]) _ _ _
  unfold dictDisplay
  dsimp only
  rw [List.forIn_cons]
  simp only [List.isEmpty_nil, if_true, pure_bind, bind_assoc]
  refine wpAny_bind (wpAny_alloc ?_)
  refine wpAny_bind (wpAny_holding (wpAny_bind (thn (hm.run pins _ σ _ _ I1 (q _ hn)) fun u s2 hh => wpAny_bind (wpAny_standAt (wpAny_pure ?_)))))
  obtain ⟨x, H1, I2, rx, a, kvs, rfl, nad, ea, ed, hl, q2⟩ := hh
  obtain rfl : u = Value.ref a := rx
  obtain ⟨z, hd, vs, rel, dd⟩ := dk_of I2.hok ea
  obtain ⟨z0, hd0, vs0, rel0, dd0⟩ := dk_of I2.hok ed
  cases rel0
  have lv := rel.length
  have nd : (vs.map (·.1)).Nodup := by obtain ⟨_, _, _, _, _, _, _, _, hnd⟩ := dd; exact hnd
  refine wpAny_bind (wpAny_onRaise (wpAny_tryCatch (wpAny_onRaise (wpAny_holding (ns_merge (knd := mixKind X.prog X.w) carried_mix (Ne.symm nad) hd dd0 dd (fun h' m1 m2 sb => ?_) (by rw [List.length_nil]; omega))))))
  rw [merged_nil_of_nodup vs nd] at m1
  have he : ∃ q, h'.get? s.heap.objs.size = some q := let ⟨q, _, _, hq, _⟩ := m1; ⟨q, hq⟩
  have I3 := d_write (t' := s2.toks) I2 (by rw [ed]; exact True.intro) sb he (dk_new z hd0 rel m1)
  have e17 : ((1 : Nat) == 17) = false := by decide
  simp only [List.forIn_cons, List.forIn_nil, List.nil_append, List.length_singleton, List.length_cons, List.length_nil, List.isEmpty_cons, pure_bind, bind_assoc, e17, Bool.false_eq_true, if_false, Nat.zero_add]
  have hn3 := I3.hok.fresh (Nat.le_refl h'.objs.size)
  have I4 := I3.laid (a := h'.objs.size) (o := .dK []) (h' := h'.push { cls := .type "dict", data := .dict #[] }) (t' := s2.toks) (fun _ _ q => Heap.get?_push_of_some _ q) (Nat.le_refl _) (dk_empty h' I3.big)
  have q3 : tPairs [(tk, tv)] σ (upd (upd H1 s.heap.objs.size (HO.dK kvs)) h'.objs.size (HO.dK [])) (fun ps H3 => match ps with
      | [(y, z)] => ∃ k : Key, y = kV k ∧ H3 h'.objs.size = some (HO.dK []) ∧ H3 s.heap.objs.size = some (HO.dK kvs) ∧
          Q (V.ref s.heap.objs.size) (upd (upd H3 h'.objs.size (HO.dK [(k, z)])) s.heap.objs.size (HO.dK (putK kvs k z)))
      | _ => False) := q2 _ hn3
  refine wpAny_bind (wpAny_holding (wpAny_subDict (knd := mixKind X.prog X.w) (by show 1 ≤ 15; omega) (thn (pps.run pins _ σ _ _ I4 q3) fun ws s5 hh5 => ?_)))
  obtain ⟨ps, H5, I5, relp, q5⟩ := hh5
  cases relp with
  | nil => exact q5.elim
  | @cons p pv ps2 ws2 r1 r2 =>
  cases r2 with
  | cons _ _ => exact q5.elim
  | nil =>
  obtain ⟨y, z1⟩ := p
  obtain ⟨k1, rfl, ee, ed5, q6⟩ := q5
  obtain ⟨rk, rz⟩ := r1
  obtain ⟨w1, w2⟩ := pv
  have cr : Carries (mixKind X.prog X.w) [(w1, w2)] [(k1, w2)] := ⟨kV_is rk, rfl, trivial⟩
  obtain ⟨_, hd6, vs6, rel6, dd6⟩ := dk_of I5.hok ee
  cases rel6
  refine ⟨_, cr, dd6, fun h6 m6 sb6 => ?_⟩
  have he6 : ∃ q, h6.get? h'.objs.size = some q := let ⟨q, _, _, hq, _⟩ := m6; ⟨q, hq⟩
  have rel1 : KV [(k1, z1)] [(k1, w2)] := .cons ⟨rfl, rz⟩ .nil
  have I6 := d_write (t' := s5.toks + [(w1, w2)].length) I5 (by rw [ee]; exact True.intro) sb6 he6 (dk_new (kvs := [(k1, z1)]) (vs := merged [] [(k1, w2)]) (by show 1 ≤ sizeLine; rw [sizeLine_eq]; decide) hd6 rel1 m6)
  have nde : s.heap.objs.size ≠ h'.objs.size := fun z => by
    rw [z, ee] at ed5
    have : ([] : List (Key × V)) = kvs := by injection ed5 with e; injection e
    have m7 := m1
    rw [z] at m7
    obtain ⟨q, _, _, hq, _⟩ := m7
    exact absurd (Heap.lt_size hq) (Nat.lt_irrefl _)
  have ed7 : (upd H5 h'.objs.size (HO.dK [(k1, z1)])) s.heap.objs.size = some (HO.dK kvs) := (upd_ne nde).trans ed5
  obtain ⟨z7, hd7, vs7, rel7, dd7⟩ := dk_of I6.hok ed7
  have lv7 := rel7.length
  refine wpAny_bind (wpAny_onRaise (wpAny_holding (ns_merge (knd := mixKind X.prog X.w) carried_mix nde hd6 dd7 m6 (fun h8 m8 m9 sb8 => wpAny_pure ?_) (by show vs7.length + 1 ≤ sizeLine; omega))))
  have he8 : ∃ q, h8.get? s.heap.objs.size = some q := let ⟨q, _, _, hq, _⟩ := m8; ⟨q, hq⟩
  have rel8 : KV (putK kvs k1 z1) (merged vs7 (merged [] [(k1, w2)])) := rel7.put k1 rz
  have hl8 : (putK kvs k1 z1).length ≤ sizeLine := by
    have := length_putK kvs k1 z1
    omega
  have I8 := d_write (t' := s5.toks + [(w1, w2)].length) I6 (by rw [ed7]; exact True.intro) sb8 he8 (dk_new (kvs := putK kvs k1 z1) hl8 hd7 rel8 m8)
  exact ⟨V.ref s.heap.objs.size, _, I8, rfl, q6⟩
end L2
/-! KtA -/
set_option Elab.async false
set_option linter.all false
set_option maxRecDepth 100000
set_option maxHeartbeats 2000000
namespace Ns
open PySem PySem.Spec PyProof.Rows L2
theorem sqT_same {K : PySem.W.Frag} {H H1 : Hp} {a : Addr} {xs : List V} (e : Same H H1) (h : SqT K H a xs) : SqT K H1 a xs := by
  rcases h with (h | ⟨o, h⟩) | h
  · exact .inl (.inl (e _ _ h))
  · exact .inl (.inr ⟨o, e _ _ h⟩)
  · exact .inr h
theorem WordH.same {K : PySem.W.Frag} {H H1 : Hp} {x : V} {p : Word} (e : Same H H1) (h : WordH K H x p) : WordH K H1 x p := by
  obtain ⟨a, rfl, h⟩ := h
  exact ⟨a, rfl, e _ _ h⟩
theorem eachV_mono {R S : V → Word → Prop} (h : ∀ x p, R x p → S x p) : ∀ {xs : List V} {r : Wish}, WishH.EachV R xs r → WishH.EachV S xs r
  | [], [], _ => trivial
  | [], _ :: _, z => z.elim
  | _ :: _, [], z => z.elim
  | x :: xs, p :: r, z => ⟨h x p z.1, eachV_mono h z.2⟩
theorem WishH.same {K : PySem.W.Frag} {H H1 : Hp} {a : Addr} {r : Wish} (e : Same H H1) (h : WishH K H a r) : WishH K H1 a r := by
  obtain ⟨xs, h1, h2⟩ := h
  exact ⟨xs, sqT_same e h1, eachV_mono (fun x p => WordH.same e) h2⟩
theorem eachV_len {R : V → Word → Prop} : ∀ {xs : List V} {r : Wish}, WishH.EachV R xs r → xs.length = r.length
  | [], [], _ => rfl
  | [], _ :: _, z => z.elim
  | _ :: _, [], z => z.elim
  | _ :: _, _ :: _, z => congrArg (· + 1) (eachV_len z.2)
theorem eachV_at {R : V → Word → Prop} : ∀ {xs : List V} {r : Wish} {i : Nat} {x : V}, WishH.EachV R xs r → xs[i]? = some x → ∃ p, r[i]? = some p ∧ R x p
  | [], _, _, _, _, h => by simp at h
  | _ :: _, [], _, _, z, _ => z.elim
  | y :: xs, p :: r, 0, x, z, h => by
    obtain rfl : y = x := Option.some.inj h
    exact ⟨p, rfl, z.1⟩
  | y :: xs, p :: r, i + 1, x, z, h => eachV_at (xs := xs) (r := r) z.2 h
theorem eachV_snoc {R : V → Word → Prop} : ∀ {xs : List V} {r : Wish} {x : V} {p : Word}, WishH.EachV R xs r → R x p → WishH.EachV R (xs ++ [x]) (r ++ [p])
  | [], [], _, _, _, h => ⟨h, trivial⟩
  | [], _ :: _, _, _, z, _ => z.elim
  | _ :: _, [], _, _, z, _ => z.elim
  | _ :: _, _ :: _, _, _, z, h => ⟨z.1, eachV_snoc z.2 h⟩
theorem same_new {H : Hp} {p : Addr} (h : H p = none) (o : HO) : Same H (upd H p o) := fun b u q => by rw [upd_ne (ne_of_none q h)]; exact q
/-- the row is a wish over n names, the names above last -/
def isR (n : Int) : Int → Wish → Bool
  | _, [] => true
  | last, p :: r => if p.1 ≤ last ∨ p.1 > n ∨ ¬ (p.2 = 0 ∨ p.2 = 1) then false else isR n p.1 r
theorem iteD {p A B : Prop} [Decidable p] (h : p) (ha : A) : if decide p = true then A else B := by rw [decide_eq_true h]; exact iteT ha
theorem iteND {p A B : Prop} [Decidable p] (h : ¬ p) (hb : B) : if decide p = true then A else B := by rw [decide_eq_false h]; exact iteF hb
/-- a statement that is not reached -/
theorem ps_no {X : Cx} {st : Stmt} : PS X st (fun _ _ _ => False) := ⟨fun _ _ _ _ _ _ h => h.elim⟩
end Ns
namespace Km
open PySem PySem.Spec PyProof.Rows L2 Ns
def top (i : Nat) : Stmt := PySem.Challenge.pw_papersorliars_k19_readings.main.body.getD i (.Pass ⟨0, 0, 0, 0⟩)
end Km
namespace Ns
open PySem PySem.Spec PyProof.Rows L2
/-- a line tree as far as its form goes -/
inductive LT where
  | wish (i : V)
  | frm (nm line : V) (l r : LT)
def LRep (K : PySem.W.Frag) (H : Hp) : V → LT → Prop
  | x, .wish i => ∃ a, x = .ref a ∧ H a = some (.tup [.str "wish", i])
  | x, .frm nm line l r => ∃ a vl vr, x = .ref a ∧ H a = some (.tup [.str "from", nm, line, vl, vr]) ∧ LRep K H vl l ∧ LRep K H vr r
theorem LRep.same {K : PySem.W.Frag} {H H1 : Hp} (e : Same H H1) : ∀ {t : LT} {x : V}, LRep K H x t → LRep K H1 x t
  | .wish i, x, ⟨a, h1, h2⟩ => ⟨a, h1, e _ _ h2⟩
  | .frm nm line l r, x, ⟨a, vl, vr, h1, h2, h4, h5⟩ => ⟨a, vl, vr, h1, e _ _ h2, h4.same e, h5.same e⟩
theorem wf_ne : ¬ (V.str "from" = V.str "wish") := by decide +kernel
theorem atI_of {xs : List V} {z : Int} {i : Nat} (e : z = (i : Int)) {x : V} (h : xs[i]? = some x) : atI xs z = some x := by
  rw [e]
  exact atI_nat h
end Ns
namespace Ns
open PySem PySem.Spec PyProof.Rows L2
abbrev Spot : Type := List Int × LT
def LT.size : LT → Nat
  | .wish _ => 1
  | .frm _ _ l r => l.size + r.size + 1
/-- root, then right, then left -/
def preR : List Int → LT → List Spot
  | pl, .wish i => [(pl, .wish i)]
  | pl, .frm nm line l r => (pl, .frm nm line l r) :: (preR (pl ++ [1]) r ++ preR (pl ++ [0]) l)
/-- left, then right, then root -/
def post : List Int → LT → List Spot
  | pl, .wish i => [(pl, .wish i)]
  | pl, .frm nm line l r => post (pl ++ [0]) l ++ post (pl ++ [1]) r ++ [(pl, .frm nm line l r)]
theorem preR_rev : ∀ (t : LT) (pl : List Int), (preR pl t).reverse = post pl t
  | .wish i, pl => rfl
  | .frm nm line l r, pl => by
    show ((pl, LT.frm nm line l r) :: (preR (pl ++ [1]) r ++ preR (pl ++ [0]) l)).reverse = post (pl ++ [0]) l ++ post (pl ++ [1]) r ++ [(pl, .frm nm line l r)]
    rw [List.reverse_cons, List.reverse_append, preR_rev l, preR_rev r]
theorem preR_len : ∀ (t : LT) (pl : List Int), (preR pl t).length = t.size
  | .wish i, pl => rfl
  | .frm nm line l r, pl => by
    show (preR (pl ++ [1]) r ++ preR (pl ++ [0]) l).length + 1 = l.size + r.size + 1
    rw [List.length_append, preR_len l, preR_len r, Nat.add_comm r.size]
/-- what a stack still gives, its top at the end -/
def preRs : List Spot → List Spot
  | [] => []
  | p :: ss => preRs ss ++ preR p.1 p.2
theorem preRs_snoc : ∀ (ss : List Spot) (p : Spot), preRs (ss ++ [p]) = preR p.1 p.2 ++ preRs ss
  | [], p => by simp [preRs]
  | q :: ss, p => by
    show preRs (ss ++ [p]) ++ preR q.1 q.2 = preR p.1 p.2 ++ (preRs ss ++ preR q.1 q.2)
    rw [preRs_snoc ss p, List.append_assoc]
def LItem (K : PySem.W.Frag) (H : Hp) (x : V) (p : Spot) : Prop := ∃ a b vx, x = .ref a ∧ H a = some (.tup [.ref b, vx]) ∧ H b = some (.tup (p.1.map V.int)) ∧ LRep K H vx p.2
def Items (K : PySem.W.Frag) (H : Hp) (xs : List V) (ps : List Spot) : Prop := xs.length = ps.length ∧ ∀ (i : Nat) x p, xs[i]? = some x → ps[i]? = some p → LItem K H x p
theorem LItem.same {K : PySem.W.Frag} {H H1 : Hp} (e : Same H H1) {x : V} {p : Spot} (h : LItem K H x p) : LItem K H1 x p := by
  obtain ⟨a, b, vx, h1, h2, h3, h4⟩ := h
  exact ⟨a, b, vx, h1, e _ _ h2, e _ _ h3, h4.same e⟩
theorem sqT_offL {K : PySem.W.Frag} {H : Hp} {o : Addr} {acc : List V} {u : HO} (e : H o = some (.lst acc)) {a : Addr} {ys : List V} (h : H a = some (.tup ys)) : (upd H o u) a = some (.tup ys) := (upd_ne (fun q => by rw [q, e] at h; cases h)).trans h
theorem LRep.off {K : PySem.W.Frag} {H : Hp} {o : Addr} {acc : List V} {u : HO} (e : H o = some (.lst acc)) : ∀ {t : LT} {x : V}, LRep K H x t → LRep K (upd H o u) x t
  | .wish i, x, ⟨a, h1, h2⟩ => ⟨a, h1, sqT_offL (K := K) e h2⟩
  | .frm nm line l r, x, ⟨a, vl, vr, h1, h2, h4, h5⟩ => ⟨a, vl, vr, h1, sqT_offL (K := K) e h2, h4.off e, h5.off e⟩
theorem LItem.off {K : PySem.W.Frag} {H : Hp} {o : Addr} {acc : List V} {u : HO} (e : H o = some (.lst acc)) {x : V} {p : Spot} (h : LItem K H x p) : LItem K (upd H o u) x p := by
  obtain ⟨a, b, vx, h1, h2, h3, h4⟩ := h
  exact ⟨a, b, vx, h1, sqT_offL (K := K) e h2, sqT_offL (K := K) e h3, h4.off e⟩
theorem Items.same {K : PySem.W.Frag} {H H1 : Hp} (e : Same H H1) {xs : List V} {ps : List Spot} (h : Items K H xs ps) : Items K H1 xs ps := ⟨h.1, fun i x p a b => (h.2 i x p a b).same e⟩
theorem Items.off {K : PySem.W.Frag} {H : Hp} {o : Addr} {acc : List V} {u : HO} (e : H o = some (.lst acc)) {xs : List V} {ps : List Spot} (h : Items K H xs ps) : Items K (upd H o u) xs ps := ⟨h.1, fun i x p a b => (h.2 i x p a b).off e⟩
theorem Items.nil {K : PySem.W.Frag} {H : Hp} : Items K H [] [] := ⟨rfl, fun i x p a => by simp at a⟩
theorem Items.snoc {K : PySem.W.Frag} {H : Hp} {xs : List V} {ps : List Spot} {x : V} {p : Spot} (h : Items K H xs ps) (hx : LItem K H x p) : Items K H (xs ++ [x]) (ps ++ [p]) := by
  refine ⟨by rw [List.length_append, List.length_append, h.1]; rfl, fun i y q h1 h2 => ?_⟩
  rcases Nat.lt_trichotomy i xs.length with c | c | c
  · rw [List.getElem?_append_left c] at h1
    rw [List.getElem?_append_left (by rw [← h.1]; exact c)] at h2
    exact h.2 i y q h1 h2
  · subst c
    rw [List.getElem?_append_right (Nat.le_refl _), Nat.sub_self] at h1
    rw [List.getElem?_append_right (by rw [h.1]; exact Nat.le_refl _), h.1, Nat.sub_self] at h2
    obtain rfl := Option.some.inj h1
    obtain rfl := Option.some.inj h2
    exact hx
  · have z := (List.getElem?_eq_some_iff.mp h1).1
    rw [List.length_append, List.length_singleton] at z
    omega
theorem Items.last {K : PySem.W.Frag} {H : Hp} {xs : List V} {ps : List Spot} {p : Spot} (h : Items K H xs (ps ++ [p])) : ∃ y, xs[xs.length - 1]? = some y ∧ LItem K H y p ∧ Items K H xs.dropLast ps := by
  have l := h.1
  rw [List.length_append, List.length_singleton] at l
  have hy : xs[xs.length - 1]? = some xs[xs.length - 1] := List.getElem?_eq_getElem (by omega)
  refine ⟨_, hy, h.2 _ _ p hy ?_, by rw [List.length_dropLast]; omega, fun i x q h1 h2 => ?_⟩
  · rw [List.getElem?_append_right (by omega), show xs.length - 1 - ps.length = 0 by omega]
    rfl
  · have hlt : i < ps.length := (List.getElem?_eq_some_iff.mp h2).1
    rw [List.getElem?_dropLast, if_pos (by omega)] at h1
    exact h.2 i x q h1 (by rw [List.getElem?_append_left hlt]; exact h2)
theorem place_snoc {K : PySem.W.Frag} {H : Hp} {c t : Addr} {pl : List Int} {v : Int} {Q : VK} (hc : H c = some (.tup (pl.map V.int))) (ht : H t = some (.tup [.int v])) (hl : pl.length ≤ 1000)
    (q : ∀ p H', Same H H' → H' p = some (.tup ((pl ++ [v]).map V.int)) → Q (.ref p) H') : rCatA K (.ref c) (.ref t) H Q := by
  refine ⟨c, t, _, _, rfl, rfl, SqT.of hc, SqT.of ht, Nat.le_trans (show (pl.map V.int).length + 1 ≤ 2000 by rw [List.length_map]; omega) (by decide), fun e => ?_, fun _ e => (by cases e), fun _ _ p hp => ?_⟩
  · have e2 : pl = [] := by cases pl with | nil => rfl | cons a r => cases e
    subst e2
    exact q t H (Same.refl H) ht
  · refine q p _ (same_new hp _) ?_
    rw [upd_same, List.map_append]
    rfl
end Ns
namespace Ns
open PySem L2
theorem preRs_le : ∀ ss : List Spot, ss.length ≤ (preRs ss).length
  | [] => Nat.le_refl _
  | z :: r => by
    have ih := preRs_le r
    have h1 : 1 ≤ z.2.size := by cases z.2 <;> simp only [LT.size] <;> omega
    show r.length + 1 ≤ (preRs r ++ preR z.1 z.2).length
    rw [List.length_append, preR_len]
    omega
end Ns
namespace Ns
def LT.leaves : LT → Nat
  | .wish _ => 1
  | .frm _ _ l r => l.leaves + r.leaves
def LT.high : LT → Nat
  | .wish _ => 1
  | .frm _ _ l r => max l.high r.high + 1
theorem high_size : ∀ t : LT, t.high ≤ t.size
  | .wish _ => Nat.le_refl _
  | .frm _ _ l r => by
    have h1 := high_size l
    have h2 := high_size r
    show max l.high r.high + 1 ≤ l.size + r.size + 1
    have := Nat.max_le.mpr ⟨Nat.le_trans h1 (Nat.le_add_right l.size r.size), Nat.le_trans h2 (Nat.le_add_left r.size l.size)⟩
    omega
end Ns
namespace Km
open PySem PySem.Spec PyProof.Rows L2 Ns
abbrev sUp : Stmt := top 5
theorem fw_ne : ¬ (V.str "wish" = V.str "from") := by decide +kernel
def spUp (K : PySem.W.Frag) : Sp := fun vs H Q _ => ∃ (x : V) (t : LT), vs = [x] ∧ LRep K H x t ∧ t.size ≤ 1000 ∧ ∀ o H' xs, Same H H' → H' o = some (.lst xs) → Items K H' xs (post [] t) → Q (.ref o) H'
theorem scUp : FnScope ["paper", "found", "nodes", "place", "node"] ["paper"] (defScope sUp) := ⟨rfl, rfl, rfl, by decide +kernel, rfl, by decide +kernel, by decide +kernel⟩
section
variable {P : Program} {w : World} {K : PySem.W.Frag} {mg : Str → Option Value} {base : Heap} {f : Addr} {fd : FuncData}
theorem ok_up {k : Nat} (F : Fun K "nodes_upwards" "nodes_upwards" sUp f fd) : FnOk P w K mg base CX0 (k + 1) f fd ["paper"] (spUp K) := by
  refine F.ok scUp (fun vs H Q E h => ?_) (fun cdv A outer s H vs Q E hr h => ?_)
  · obtain ⟨x, t, rfl, _⟩ := h
    rfl
  obtain ⟨x, t, rfl, hT, hsz, q⟩ := h
  have nd := scUp.nd
  refine ⟨_, pss_cons (ps_set (i := 1) nd rfl (Or.inl rfl) (pe_lst pa_nil))
    (pss_cons (ps_set (i := 2) nd rfl (Or.inl rfl) (pe_lst (pa_cons (pe_tup (pa_cons (pe_tup pa_nil) (pa_cons (pv 0) pa_nil))) pa_nil)))
    (pss_cons (ps_while PassesOwn.never (pt_truth (pv 2) (fun _ => rfl))
      (pss_cons (ps_asg (pe_bm0 PySem.F.plainAttrs_list PySem.F.slot_list_pop PySem.F.type_list_pop mt_pop (pv 2)) (pg_tup rfl (pgs_cons (pg_name (i := 3) nd rfl (Or.inl rfl)) (pgs_cons (pg_name (i := 4) nd rfl (Or.inl rfl)) pgs_nil))))
      (pss_cons (ps_expr (pe_bm PySem.F.plainAttrs_list PySem.F.slot_list_append PySem.F.type_list_append mt_append (pv 1) (pa_cons (pe_tup (pa_cons (pv 3) (pa_cons (pv 4) pa_nil))) pa_nil)))
      (pss_one (ps_if (pt_cmpR op_eq (pe_ix ix_tup (pv 4) pe_int (fun _ _ => rfl)) pe_str (nomark _))
        (pss_cons (ps_expr (pe_bm PySem.F.plainAttrs_list PySem.F.slot_list_append PySem.F.type_list_append mt_append (pv 2) (pa_cons (pe_tup (pa_cons (pe_op op_catA (pv 3) (pe_tup (pa_cons pe_int pa_nil))) (pa_cons (pe_ix ix_tup (pv 4) pe_int (fun _ _ => rfl)) pa_nil))) pa_nil)))
        (pss_one (ps_expr (pe_bm PySem.F.plainAttrs_list PySem.F.slot_list_append PySem.F.type_list_append mt_append (pv 2) (pa_cons (pe_tup (pa_cons (pe_op op_catA (pv 3) (pe_tup (pa_cons pe_int pa_nil))) (pa_cons (pe_ix ix_tup (pv 4) pe_int (fun _ _ => rfl)) pa_nil))) pa_nil)))))
        pss_nil)))))
    (pss_one (ps_ret (pe_revL (pv 1)))))), ?_⟩
  refine ⟨Nat.zero_le _, fun fo hfo => ?_⟩
  have s0 := same_new hfo (.lst [])
  refine ⟨Nat.zero_le _, fun t0 ht0 => ?_⟩
  have s1 := s0.trans (same_new ht0 (.tup []))
  refine ⟨_, rfl, by show 2 ≤ sizeLine; decide, fun t1 ht1 => ?_⟩
  have s2 := s1.trans (same_new ht1 (.tup [.ref t0, x]))
  refine ⟨by show 1 ≤ sizeLine; decide, fun so hso => ?_⟩
  have s3 := s2.trans (same_new hso (.lst [.ref t1]))
  have nfs : fo ≠ so := fun z => by rw [← z, upd_ne (ne_of_none (same_new ht0 _ _ _ upd_same) ht1), upd_ne (ne_of_none upd_same ht0), upd_same] at hso; cases hso
  have noso : H so = none := by
    cases e : H so with
    | none => rfl
    | some u => have z := s2 so u e; rw [hso] at z; cases z
  have keepF : ∀ {H' : Hp} {xs : List V}, Same H H' → Same H (upd H' fo (.lst xs)) := fun sm b z e => by
    rw [upd_ne (ne_of_none e hfo)]
    exact sm _ _ e
  have keepS : ∀ {H' : Hp} {xs : List V}, Same H H' → Same H (upd H' so (.lst xs)) := fun sm b z e => by
    rw [upd_ne (ne_of_none e noso)]
    exact sm _ _ e
  refine ⟨fun μ σ H' => ∃ (ss fs : List Spot) (xs ys : List V) (y3 y4 : Option V), σ = [some x, some (.ref fo), some (.ref so), y3, y4] ∧ H' fo = some (.lst xs) ∧ H' so = some (.lst ys) ∧ Items K H' xs fs ∧ Items K H' ys ss ∧ Same H H' ∧ fs ++ preRs ss = preR [] t ∧ (∀ p ∈ ss, p.1.length ≤ fs.length) ∧ μ = (preRs ss).length,
    ⟨_, [([], t)], [], [], [.ref t1], none, none, rfl, ?_, upd_same, Items.nil, ?_, s3, ?_, fun p hp => ?_, rfl⟩, ?_⟩
  · rw [upd_ne nfs, upd_ne (ne_of_none (same_new ht0 _ _ _ upd_same) ht1), upd_ne (ne_of_none upd_same ht0), upd_same]
  · have e1 : LItem K (upd (upd (upd (upd H fo (.lst [])) t0 (.tup [])) t1 (.tup [.ref t0, x])) so (.lst [.ref t1])) (.ref t1) ([], t) :=
      ⟨t1, t0, x, rfl, same_new hso _ _ _ upd_same, same_new hso _ _ _ (same_new ht1 _ _ _ upd_same), hT.same s3⟩
    exact Items.snoc Items.nil e1
  · simp [preRs]
  · rw [List.mem_singleton.mp hp]
    exact Nat.le_refl _
  rintro μ σ H1 ⟨ss, fs, xs, ys, y3, y4, rfl, eF, eS, iF, iS, sm, hpre, hpl, rfl⟩
  have tot := preR_len t []
  rw [← hpre, List.length_append] at tot
  refine ⟨_, rfl, !ys.isEmpty, .inl ⟨ys, .inl (.inl eS), rfl⟩, ?_⟩
  rcases List.eq_nil_or_concat ss with rfl | ⟨ss, p, rfl⟩
  · have hy : ys = [] := List.eq_nil_of_length_eq_zero iS.1
    subst hy
    refine iteF ?_
    have hp : fs = preR [] t := by simpa [preRs] using hpre
    refine ⟨_, rfl, fo, xs, rfl, .inl (.inl eF), fun o ho => ?_⟩
    refine q o _ xs.reverse (sm.trans (same_new ho _)) upd_same ?_
    rw [← preR_rev, ← hp]
    have iF2 := iF.same (same_new ho (.lst xs.reverse))
    refine ⟨by rw [List.length_reverse, List.length_reverse, iF.1], fun i z p h1 h2 => ?_⟩
    have hi : i < xs.length := by have := (List.getElem?_eq_some_iff.mp h1).1; rwa [List.length_reverse] at this
    rw [List.getElem?_reverse hi] at h1
    rw [List.getElem?_reverse (by rw [← iF.1]; exact hi), ← iF.1] at h2
    exact iF2.2 _ z p h1 h2
  · rw [List.concat_eq_append] at iS hpre hpl tot ⊢
    rw [preRs_snoc, List.length_append, preR_len] at tot
    rw [preRs_snoc] at hpre
    obtain ⟨y, hy, ⟨a, b, vx, rfl, ha, hb, hv⟩, iD⟩ := iS.last
    have hne : ys.isEmpty = false := by
      cases ys with
      | nil => simp at hy
      | cons z r => rfl
    have hpp := hpl p (List.mem_append_right _ (List.mem_singleton.mpr rfl))
    rw [hne]
    refine iteT ⟨_, fun σ1 H1 z => z, ?_⟩
    refine ⟨_, rfl, .inl ⟨rfl, _, .inl (.inl eS)⟩, so, ys, _, rfl, rfl, eS, hy, ?_⟩
    have ha2 := sqT_offL (K := K) (u := .lst ys.dropLast) eS ha
    have hb2 := sqT_offL (K := K) (u := .lst ys.dropLast) eS hb
    have hv2 := hv.off (u := .lst ys.dropLast) eS
    have iF2 := iF.off (u := .lst ys.dropLast) eS
    have iD2 := iD.off (u := .lst ys.dropLast) eS
    have eF2 : (upd H1 so (.lst ys.dropLast)) fo = some (.lst xs) := (upd_ne nfs).trans eF
    have eS2 : (upd H1 so (.lst ys.dropLast)) so = some (.lst ys.dropLast) := upd_same
    have sm2 : Same H (upd H1 so (.lst ys.dropLast)) := keepS sm
    generalize upd H1 so (.lst ys.dropLast) = H2 at ha2 hb2 hv2 iF2 iD2 eF2 eS2 sm2
    refine ⟨a, _, rfl, SqT.of ha2, rfl, _, _, rfl, _, _, rfl, rfl, ?_⟩
    refine ⟨.ref fo, rfl, .inl ⟨rfl, _, .inl (.inl eF2)⟩, _, rfl, _, rfl, by show 2 ≤ sizeLine; decide, fun t2 ht2 => ?_⟩
    have s23 := same_new ht2 (.tup [.ref b, vx])
    have eF3 := s23 _ _ eF2
    have lx := iF2.1
    refine ⟨fo, _, _, rfl, rfl, eF3, Nat.lt_of_le_of_lt (show xs.length ≤ 1000 by omega) (by decide), ?_⟩
    have hb4 := sqT_offL (K := K) (u := .lst (xs ++ [.ref t2])) eF3 (s23 _ _ hb2)
    have hv4 := (hv2.same s23).off (u := .lst (xs ++ [.ref t2])) eF3
    have it4 : LItem K (upd (upd H2 t2 (.tup [.ref b, vx])) fo (.lst (xs ++ [.ref t2]))) (.ref t2) p := ⟨t2, b, vx, rfl, sqT_offL (K := K) eF3 upd_same, hb4, hv4⟩
    have iF4 := ((iF2.same s23).off (u := .lst (xs ++ [.ref t2])) eF3).snoc it4
    have iD4 := (iD2.same s23).off (u := .lst (xs ++ [.ref t2])) eF3
    have eF4 : (upd (upd H2 t2 (.tup [.ref b, vx])) fo (.lst (xs ++ [.ref t2]))) fo = some (.lst (xs ++ [.ref t2])) := upd_same
    have eS4 : (upd (upd H2 t2 (.tup [.ref b, vx])) fo (.lst (xs ++ [.ref t2]))) so = some (.lst ys.dropLast) := (upd_ne nfs.symm).trans (s23 _ _ eS2)
    have sm4 : Same H (upd (upd H2 t2 (.tup [.ref b, vx])) fo (.lst (xs ++ [.ref t2]))) := keepF (sm2.trans s23)
    generalize upd (upd H2 t2 (.tup [.ref b, vx])) fo (.lst (xs ++ [.ref t2])) = H4 at hb4 hv4 it4 iF4 iD4 eF4 eS4 sm4
    obtain ⟨pl, nod⟩ := p
    have hss : ∀ z ∈ ss, z.1.length ≤ (fs ++ [(pl, nod)]).length := fun z hz => by
      have := hpl z (List.mem_append_left _ hz)
      rw [List.length_append]
      exact Nat.le_trans this (Nat.le_add_right _ _)
    cases nod with
    | wish i =>
      obtain ⟨c, rfl, hc⟩ := hv4
      refine ⟨_, rfl, c, _, 0, _, rfl, rfl, SqT.of hc, atI_nat (j := 0) rfl, rfl, _, rfl, iteND fw_ne ?_⟩
      refine ⟨_, ?_, ss, fs ++ [(pl, .wish i)], _, _, _, _, rfl, eF4, eS4, iF4, iD4, sm4, ?_, hss, rfl⟩
      · rw [preRs_snoc, List.length_append]
        show _ < 1 + _
        omega
      · rw [← hpre, List.append_assoc]
        rfl
    | frm nm line l r =>
      have hv5 := hv4
      obtain ⟨c, vl, vr, rfl, hc, hL, hR⟩ := hv5
      refine ⟨_, rfl, c, _, 0, _, rfl, rfl, SqT.of hc, atI_nat (j := 0) rfl, rfl, _, rfl, iteD rfl ?_⟩
      have ly := iD4.1
      refine ⟨.ref so, rfl, .inl ⟨rfl, _, .inl (.inl eS4)⟩, _, rfl, by show 1 ≤ sizeLine; decide, fun t3 ht3 => ?_⟩
      refine place_snoc (same_new ht3 _ _ _ hb4) upd_same (show pl.length ≤ 1000 by have : pl.length ≤ fs.length := hpp; omega) fun p3 H5 s5 e5 => ?_
      have s45 := (same_new ht3 (.tup [.int 0])).trans s5
      refine ⟨_, rfl, c, _, 3, _, rfl, rfl, SqT.of (s45 _ _ hc), atI_nat (j := 3) rfl, by show 2 ≤ sizeLine; decide, fun t4 ht4 => ?_⟩
      have s56 := same_new ht4 (.tup [.ref p3, vl])
      have s46 := s45.trans s56
      have eS6 := s46 _ _ eS4
      refine ⟨so, _, _, rfl, rfl, eS6, Nat.lt_of_le_of_lt (show ys.dropLast.length ≤ 1000 by have := preRs_le ss; omega) (by decide), ?_⟩
      have itL : LItem K (upd (upd H5 t4 (.tup [.ref p3, vl])) so (.lst (ys.dropLast ++ [.ref t4]))) (.ref t4) (pl ++ [0], l) := ⟨t4, p3, vl, rfl, sqT_offL (K := K) eS6 upd_same, sqT_offL (K := K) eS6 (s56 _ _ e5), (hL.same s46).off eS6⟩
      have iD7 := ((iD4.same s46).off (u := .lst (ys.dropLast ++ [.ref t4])) eS6).snoc itL
      have iF7 := (iF4.same s46).off (u := .lst (ys.dropLast ++ [.ref t4])) eS6
      have eF7 : (upd (upd H5 t4 (.tup [.ref p3, vl])) so (.lst (ys.dropLast ++ [.ref t4]))) fo = some (.lst (xs ++ [.ref t2])) := (upd_ne nfs).trans (s46 _ _ eF4)
      have hb7 := sqT_offL (K := K) (u := .lst (ys.dropLast ++ [.ref t4])) eS6 (s46 _ _ hb4)
      have hc7 := sqT_offL (K := K) (u := .lst (ys.dropLast ++ [.ref t4])) eS6 (s46 _ _ hc)
      have hR7 := (hR.same s46).off (u := .lst (ys.dropLast ++ [.ref t4])) eS6
      have sm7 : Same H (upd (upd H5 t4 (.tup [.ref p3, vl])) so (.lst (ys.dropLast ++ [.ref t4]))) := keepS (sm4.trans s46)
      have eS7 : (upd (upd H5 t4 (.tup [.ref p3, vl])) so (.lst (ys.dropLast ++ [.ref t4]))) so = some (.lst (ys.dropLast ++ [.ref t4])) := upd_same
      generalize upd (upd H5 t4 (.tup [.ref p3, vl])) so (.lst (ys.dropLast ++ [.ref t4])) = H7 at itL iD7 iF7 eF7 hb7 hc7 hR7 sm7 eS7
      refine ⟨.ref so, rfl, .inl ⟨rfl, _, .inl (.inl eS7)⟩, _, rfl, by show 1 ≤ sizeLine; decide, fun t5 ht5 => ?_⟩
      refine place_snoc (same_new ht5 _ _ _ hb7) upd_same (show pl.length ≤ 1000 by have : pl.length ≤ fs.length := hpp; omega) fun p5 H8 s8 e8 => ?_
      have s78 := (same_new ht5 (.tup [.int 1])).trans s8
      refine ⟨_, rfl, c, _, 4, _, rfl, rfl, SqT.of (s78 _ _ hc7), atI_nat (j := 4) rfl, by show 2 ≤ sizeLine; decide, fun t6 ht6 => ?_⟩
      have s89 := same_new ht6 (.tup [.ref p5, vr])
      have s79 := s78.trans s89
      have eS9 := s79 _ _ eS7
      refine ⟨so, _, _, rfl, rfl, eS9, Nat.lt_of_le_of_lt (show (ys.dropLast ++ [V.ref t4]).length ≤ 1001 by have := preRs_le ss; rw [List.length_append]; show _ + 1 ≤ _; omega) (by decide), ?_⟩
      have itR : LItem K (upd (upd H8 t6 (.tup [.ref p5, vr])) so (.lst (ys.dropLast ++ [.ref t4] ++ [.ref t6]))) (.ref t6) (pl ++ [1], r) := ⟨t6, p5, vr, rfl, sqT_offL (K := K) eS9 upd_same, sqT_offL (K := K) eS9 (s89 _ _ e8), (hR7.same s79).off eS9⟩
      have iD9 := ((iD7.same s79).off (u := .lst (ys.dropLast ++ [.ref t4] ++ [.ref t6])) eS9).snoc itR
      have iF9 := (iF7.same s79).off (u := .lst (ys.dropLast ++ [.ref t4] ++ [.ref t6])) eS9
      refine ⟨_, ?_, ss ++ [(pl ++ [0], l)] ++ [(pl ++ [1], r)], fs ++ [(pl, .frm nm line l r)], _, _, _, _, rfl, (upd_ne nfs).trans (s79 _ _ eF7), upd_same, iF9, iD9, keepS (sm7.trans s79), ?_, fun z hz => ?_, rfl⟩
      · rw [preRs_snoc, preRs_snoc, preRs_snoc]
        simp only [List.length_append, preR_len]
        show _ < (l.size + r.size + 1) + _
        omega
      · rw [preRs_snoc, preRs_snoc, ← hpre, List.append_assoc]
        show fs ++ ([(pl, Ns.LT.frm nm line l r)] ++ (preR (pl ++ [1]) r ++ (preR (pl ++ [0]) l ++ preRs ss))) = fs ++ (((pl, Ns.LT.frm nm line l r) :: (preR (pl ++ [1]) r ++ preR (pl ++ [0]) l)) ++ preRs ss)
        simp
      · have hp3 : pl.length ≤ fs.length := hpp
        rcases List.mem_append.mp hz with hz | hz
        · rcases List.mem_append.mp hz with hz | hz
          · exact hss z hz
          · rw [List.mem_singleton.mp hz, List.length_append, List.length_append]
            show pl.length + 1 ≤ fs.length + 1
            omega
        · rw [List.mem_singleton.mp hz, List.length_append, List.length_append]
          show pl.length + 1 ≤ fs.length + 1
          omega
end
end Km
namespace Km
open PySem PySem.Spec PyProof.Rows L2 Ns
abbrev sCell : Stmt := top 17
abbrev sDraws : Stmt := top 18
/-- the built-ins that no name of the text hides -/
structure Blt (mg : Str → Option Value) : Prop where
  mlen : mg "len" = none
  mint : mg "int" = none
  mran : mg "range" = none
  mabs : mg "abs" = none
theorem small200 {n : Nat} (h : n ≤ 200000) : n < sizeLine := Nat.lt_of_le_of_lt h (by decide)
/-! ### _law_cell(script, k) -/
def spCell (K : PySem.W.Frag) : Sp := fun vs H Q _ => ∃ (a : Addr) (ns : List Int) (k : Nat), vs = [.ref a, .int (k : Int)] ∧ SqL K H a (ns.map V.int) ∧ Q (.int (ns.getD k 0)) H
theorem scCell : FnScope ["_law_script", "_law_k"] ["_law_script", "_law_k"] (defScope sCell) := ⟨rfl, rfl, rfl, by decide +kernel, rfl, by decide +kernel, by decide +kernel⟩
section
variable {P : Program} {w : World} {K : PySem.W.Frag} {mg : Str → Option Value} {base : Heap} {f : Addr} {fd : FuncData}
theorem ok_cell {k : Nat} (T : Blt mg) (F : Fun K "_law_cell" "_law_cell" sCell f fd) : FnOk P w K mg base CX0 (k + 1) f fd ["_law_script", "_law_k"] (spCell K) := by
  refine F.ok scCell (fun vs H Q E h => ?_) (fun cdv A outer s H vs Q E hr h => ?_)
  · obtain ⟨a, ns, k, rfl, _⟩ := h
    rfl
  obtain ⟨a, ns, k, rfl, hS, q⟩ := h
  refine ⟨_, pss_cons (ps_if (pt_cmpR op_lt (pv 1) (pe_callB call_len_seq rfl T.mlen PySem.boot_len (pa_cons (pv 0) pa_nil)) (nomark _)) (pss_one (ps_ret (pe_ix ix_list (pv 0) (pv 1) (fun _ _ => rfl)))) pss_nil)
    (pss_one (ps_ret pe_int)), ?_⟩
  refine ⟨_, rfl, _, rfl, a, _, rfl, .inl hS, _, _, rfl, rfl, _, rfl, ?_⟩
  rw [List.length_map]
  by_cases h : k < ns.length
  · rw [decide_eq_true (by omega)]
    have e : (ns.map V.int)[k]? = some (.int (ns.getD k 0)) := by
      rw [List.getElem?_map, List.getElem?_eq_getElem h, List.getD_eq_getElem?_getD, List.getElem?_eq_getElem h]
      rfl
    exact iteT ⟨_, rfl, _, rfl, a, _, _, _, rfl, rfl, hS, atI_nat e, q⟩
  · rw [decide_eq_false (by omega)]
    refine iteF ?_
    have e : ns.getD k 0 = 0 := by
      rw [List.getD_eq_getElem?_getD, List.getElem?_eq_none (by omega)]
      rfl
    rw [e] at q
    exact q
/-! ### _law_draws(cell, many): slots cell many draws rest k state other -/
def spDraws : Sp := fun vs H Q _ => ∃ (z : Int) (m : Nat), vs = [.int z, .int (m : Int)] ∧ m ≤ 1000 ∧
  ∀ (ds : List Int) (o : Addr) (H' : Hp), ds.length = m → (∀ d ∈ ds, 0 ≤ d ∧ d < 60) → Same H H' → H' o = some (.lst (ds.map V.int)) → Q (.ref o) H'
theorem scDraws : FnScope ["_law_cell_here", "_law_many", "_law_draws_here", "_law_rest", "_law_k", "_law_state", "_law_other"] ["_law_cell_here", "_law_many"] (defScope sDraws) := ⟨rfl, rfl, rfl, by decide +kernel, rfl, by decide +kernel, by decide +kernel⟩
theorem ok_draws {k : Nat} (T : Blt mg) (F : Fun K "_law_draws" "_law_draws" sDraws f fd) : FnOk P w K mg base CX0 (k + 1) f fd ["_law_cell_here", "_law_many"] spDraws := by
  refine F.ok scDraws (fun vs H Q E h => ?_) (fun cdv A outer s H vs Q E hr h => ?_)
  · obtain ⟨z, m, rfl, _⟩ := h
    rfl
  obtain ⟨z, m, rfl, hm, q⟩ := h
  have nd := scDraws.nd
  refine ⟨_, pss_cons (ps_set (i := 2) nd rfl (Or.inl rfl) (pe_lst pa_nil))
    (pss_cons (ps_set (i := 3) nd rfl (Or.inl rfl) (pe_callB call_abs rfl T.mabs PyProof.Rows.boot_abs (pa_cons (pv 0) pa_nil)))
    (pss_cons (ps_if (pt_cmpR op_ge (pv 3) (pe_op op_pow pe_int pe_int) (nomark _))
      (pss_cons (ps_for PassesOwn.never rfl (pi_range1 rfl T.mran (pa_cons (pv 1) pa_nil)) (pg_name (i := 4) nd rfl (Or.inl rfl))
        (pss_cons (ps_expr (pe_bm PySem.F.plainAttrs_list PySem.F.slot_list_append PySem.F.type_list_append mt_append (pv 2) (pa_cons (pe_op op_mod (pv 3) pe_int) pa_nil)))
          (pss_one (ps_set (i := 3) nd rfl (Or.inl rfl) (pe_op op_fdiv (pv 3) pe_int)))))
        (pss_one (ps_ret (pv 2)))) pss_nil)
    (pss_cons (ps_set (i := 5) nd rfl (Or.inl rfl) (pe_op op_add (pv 3) pe_int))
    (pss_cons (ps_for PassesOwn.never rfl (pi_range1 rfl T.mran (pa_cons (pv 1) pa_nil)) (pg_name (i := 4) nd rfl (Or.inl rfl))
        (pss_cons (ps_set (i := 5) nd rfl (Or.inl rfl) (pe_op op_mod (pe_callTy call_int1 rfl T.mint PyProof.Rows.boot_int (pa_cons (pe_op op_add (pe_op op_add (pe_op op_mul (pv 5) pe_int) (pe_op op_mul pe_int (pv 4))) pe_int) pa_nil)) pe_int))
        (pss_cons (ps_set (i := 6) nd rfl (Or.inl rfl) (pe_op op_mod (pe_callTy call_int1 rfl T.mint PyProof.Rows.boot_int (pa_cons (pe_op op_add (pe_op op_mul (pv 5) pe_int) (pv 4)) pa_nil)) pe_int))
          (pss_one (ps_expr (pe_bm PySem.F.plainAttrs_list PySem.F.slot_list_append PySem.F.type_list_append mt_append (pv 2) (pa_cons (pe_op op_mod (pe_op op_fdiv (pv 6) pe_int) pe_int) pa_nil)))))))
    (pss_one (ps_ret (pv 2))))))), ?_⟩
  refine ⟨Nat.zero_le _, fun o ho => ?_⟩
  refine ⟨_, rfl, z, rfl, _, rfl, _, _, rfl, rfl, ⟨by decide, by decide, by decide⟩, _, _, rfl, rfl, _, rfl, ?_⟩
  have s1 : Same H (upd H o (.lst [])) := same_new ho _
  have lens : ∀ {ds : List Int} {i : Nat}, ds.length = i → i < m → (ds.map V.int).length < sizeLine := fun e h => by
    rw [List.length_map, e]
    exact small200 (by omega)
  have done : ∀ {ds : List Int} {d : Int}, (∀ x ∈ ds, 0 ≤ x ∧ x < 60) → 0 ≤ d ∧ d < 60 → ∀ x ∈ ds ++ [d], 0 ≤ x ∧ x < 60 := fun h1 h2 x hx => by
    rcases List.mem_append.mp hx with hx | hx
    · exact h1 x hx
    · rw [List.mem_singleton.mp hx]; exact h2
  have keep : ∀ {H' : Hp} {xs : List V}, Same H H' → Same H (upd H' o (.lst xs)) := fun sm b x e => by
    rw [upd_ne (ne_of_none e ho)]
    exact sm _ _ e
  refine ite2 (fun c => ?_) (fun c => ?_)
  · refine ⟨_, rfl, (m : Int), rfl, by omega, by omega, for_range (n := m) (fun i σ H' => ∃ (r : Int) (y : Option V) (ds : List Int), σ = [some (.int z), some (.int (m : Int)), some (.ref o), some (.int r), y, none, none] ∧ ds.length = i ∧ (∀ d ∈ ds, 0 ≤ d ∧ d < 60) ∧ Same H H' ∧ H' o = some (.lst (ds.map V.int)))
      ⟨_, none, [], rfl, rfl, (fun d hd => by cases hd), s1, upd_same⟩ ?_ ?_⟩
    · rintro i σ H' hi ⟨r, y, ds, rfl, hl, hd, sm, eo⟩
      refine ⟨.ref o, rfl, .inl ⟨rfl, _, .inl (.inl eo)⟩, _, rfl, _, _, rfl, rfl, (by show (0 : Int) < 60; decide), o, _, _, rfl, rfl, eo, lens hl hi, ?_⟩
      refine ⟨_, rfl, _, _, rfl, rfl, ⟨by decide, by decide⟩, ?_⟩
      refine ⟨_, _, ds ++ [r % 60], rfl, by rw [List.length_append, hl]; rfl, done hd ⟨by omega, by omega⟩, keep sm, ?_⟩
      rw [upd_same, List.map_append]
      rfl
    · rintro σ H' ⟨r, y, ds, rfl, hl, hd, sm, eo⟩
      exact ⟨_, rfl, q ds o H' hl hd sm eo⟩
  · have c' : ¬ (if z < 0 then -z else z) ≥ (10 : Int) ^ (18 : Int).toNat := of_decide_eq_false (Bool.eq_false_iff.mpr c)
    have c2 : (if z < 0 then -z else z) < 1000000000000000000 := by
      have e : (10 : Int) ^ (18 : Int).toNat = 1000000000000000000 := by decide
      rw [e] at c'
      omega
    have c3 : 0 ≤ (if z < 0 then -z else z) := by split <;> omega
    refine ⟨_, rfl, _, _, rfl, rfl, _, rfl, (m : Int), rfl, by omega, by omega, for_range (n := m) (fun i σ H' => ∃ (r st : Int) (y y6 : Option V) (ds : List Int), σ = [some (.int z), some (.int (m : Int)), some (.ref o), some (.int r), y, some (.int st), y6] ∧ (0 ≤ st ∧ st < 2000000000000000000) ∧ ds.length = i ∧ (∀ d ∈ ds, 0 ≤ d ∧ d < 60) ∧ Same H H' ∧ H' o = some (.lst (ds.map V.int)))
      ⟨_, _, none, none, [], rfl, ⟨by omega, by omega⟩, rfl, (fun d hd => by cases hd), s1, upd_same⟩ ?_ ?_⟩
    · rintro i σ H' hi ⟨r, st, y, y6, ds, rfl, hst, hl, hd, sm, eo⟩
      refine ⟨_, rfl, _, _, rfl, rfl, .inl ⟨by omega, by omega⟩, _, rfl, _, _, rfl, rfl, .inl ⟨by decide, by decide⟩, _, _, rfl, rfl, _, _, rfl, rfl, .inl ⟨_, rfl, _, _, rfl, rfl, (by show (0 : Int) < 2147483647; decide), ?_⟩⟩
      refine ⟨_, rfl, _, _, rfl, rfl, .inl ⟨by omega, by omega⟩, _, rfl, _, _, rfl, rfl, .inl ⟨_, rfl, _, _, rfl, rfl, (by show (0 : Int) < 1000003; decide), ?_⟩⟩
      refine ⟨.ref o, rfl, .inl ⟨rfl, _, .inl (.inl eo)⟩, _, rfl, _, _, rfl, rfl, ⟨by decide, by decide⟩, _, _, rfl, rfl, (by show (0 : Int) < 60; decide), o, _, _, rfl, rfl, eo, lens hl hi, ?_⟩
      refine ⟨_, _, _, _, ds ++ [((st * 48271 + 12345 * (0 + (i : Int)) + 7) % 2147483647 * 69621 + (0 + (i : Int))) % 1000003 / 3 % 60], rfl, ⟨by omega, by omega⟩, by rw [List.length_append, hl]; rfl, done hd ⟨Int.emod_nonneg _ (by decide), Int.emod_lt_of_pos _ (by decide)⟩, keep sm, ?_⟩
      rw [upd_same, List.map_append]
      rfl
    · rintro σ H' ⟨r, st, y, y6, ds, rfl, hst, hl, hd, sm, eo⟩
      exact ⟨_, rfl, q ds o H' hl hd sm eo⟩
end
end Km
namespace Km
open PySem PySem.Spec PyProof.Rows L2 Ns
abbrev sSeed : Stmt := top 19
def spSeed (K : PySem.W.Frag) : Sp := fun vs H Q _ => ∃ (a : Addr) (ns : List Int) (k : Nat), vs = [.ref a, .int (k : Int)] ∧ SqL K H a (ns.map V.int) ∧ k ≤ 1000 ∧ ∀ z : Int, 0 ≤ z → Q (.int z) H
theorem scSeed : FnScope ["_law_script", "_law_k", "_law_first", "_law_seed_here", "_law_cell_here"] ["_law_script", "_law_k"] (defScope sSeed) := ⟨rfl, rfl, rfl, by decide +kernel, rfl, by decide +kernel, by decide +kernel⟩
section
variable {P : Program} {w : World} {K : PySem.W.Frag} {mg : Str → Option Value} {base : Heap} {f : Addr} {fd : FuncData}
theorem ok_seed {fC : Addr} {fdC : FuncData} (T : Blt mg) (F : Fun K "_law_seed" "_law_seed" sSeed f fd)
    (GC : FnOk P w K mg base CX0 1 fC fdC ["_law_script", "_law_k"] (spCell K)) (kC : PySem.W.keepIn K (.ref fC) = true) (bC : Binds K fdC ["_law_script", "_law_k"] []) (mC : mg "_law_cell" = some (.ref fC)) :
    FnOk P w K mg base CX0 2 f fd ["_law_script", "_law_k"] (spSeed K) := by
  refine F.ok scSeed (fun vs H Q E h => ?_) (fun cdv A outer s H vs Q E hr h => ?_)
  · obtain ⟨a, ns, k, rfl, _⟩ := h
    rfl
  obtain ⟨a, ns, k, rfl, hS, hk, q⟩ := h
  have nd := scSeed.nd
  refine ⟨_, pss_cons (ps_set (i := 2) nd rfl (Or.inl rfl) (pe_callB call_abs rfl T.mabs PyProof.Rows.boot_abs (pa_cons (pe_call GC hr rfl mC kC bC .nil pass0 (pa_cons (pv 0) (pa_cons (pv 1) pa_nil))) pa_nil)))
    (pss_cons (ps_if (pt_cmpR op_ge (pv 2) (pe_op op_pow pe_int pe_int) (nomark _)) (pss_one (ps_ret (pv 2))) pss_nil)
    (pss_cons (ps_set (i := 3) nd rfl (Or.inl rfl) (pe_op op_add pe_int (pv 1)))
    (pss_cons (ps_for PassesOwn.never rfl (pi_list (pv 0)) (pg_name (i := 4) nd rfl (Or.inl rfl))
      (pss_one (ps_set (i := 3) nd rfl (Or.inl rfl) (pe_op op_mod (pe_callTy call_int1 rfl T.mint PyProof.Rows.boot_int (pa_cons (pe_op op_add (pe_op op_mul (pv 3) pe_int) (pe_callB call_abs rfl T.mabs PyProof.Rows.boot_abs (pa_cons (pv 4) pa_nil))) pa_nil)) pe_int))))
    (pss_one (ps_ret (pv 3)))))), ?_⟩
  refine ⟨_, rfl, _, rfl, a, ns, k, rfl, hS, _, rfl, ?_⟩
  generalize ns.getD k 0 = z0
  have h0 : 0 ≤ (if z0 < 0 then -z0 else z0) := by split <;> omega
  refine ⟨_, rfl, _, _, rfl, rfl, ⟨by decide, by decide, by decide⟩, _, _, rfl, rfl, _, rfl, ?_⟩
  refine ite2 (fun c => ⟨_, rfl, q _ h0⟩) (fun c => ?_)
  refine ⟨_, rfl, _, _, rfl, rfl, _, rfl, a, rfl, ⟨_, hS⟩, for_list (K := K) (xs := ns.map V.int) (fun i σ H1 => ∃ (z : Int) (y : Option V), σ = [some (.ref a), some (.int (k : Int)), some (.int (if z0 < 0 then -z0 else z0)), some (.int z), y] ∧ 0 ≤ z ∧ z < 1000000000000 ∧ H1 = H)
    ⟨_, none, rfl, by omega, by omega, rfl⟩ (fun i σ H1 _ ⟨_, _, _, _, _, e⟩ => by rw [e]; exact hS) ?_ ?_⟩
  · rintro i x σ H1 hi ⟨z, y, rfl, p0, p1, rfl⟩
    obtain ⟨c1, rfl⟩ : ∃ c1, x = V.int c1 := by
      rw [List.getElem?_map] at hi
      cases e : ns[i]? with
      | none => rw [e] at hi; cases hi
      | some v => rw [e] at hi; exact ⟨v, (Option.some.inj hi).symm⟩
    refine ⟨_, rfl, _, _, rfl, rfl, .inl ⟨by omega, by omega⟩, _, rfl, _, rfl, _, _, rfl, rfl, .inl ⟨_, rfl, _, _, rfl, rfl, (by show (0 : Int) < 999999999989; decide), ?_⟩⟩
    exact ⟨_, _, rfl, Int.emod_nonneg _ (by decide), Int.lt_trans (Int.emod_lt_of_pos _ (by decide)) (by decide), rfl⟩
  · rintro σ H1 ⟨z, y, rfl, p0, p1, rfl⟩
    exact ⟨_, rfl, q z p0⟩
end
end Km
/-! KtD -/
set_option Elab.async false
set_option linter.all false
set_option maxRecDepth 100000
set_option maxHeartbeats 2000000
/-! dicts whose keys are places; what a reading is -/
namespace Ns
open PySem PySem.Spec PyProof.Rows L2
abbrev Pl : Type := List Int
def kk (pl : Pl) : List Key := pl.map Sum.inl
theorem kk_map (pl : Pl) : (kk pl).map kV = pl.map V.int := by
  unfold kk
  rw [List.map_map]
  rfl
theorem kk_inj {a b : Pl} (h : kk a = kk b) : a = b := by
  induction a generalizing b with
  | nil => cases b with
    | nil => rfl
    | cons x r => cases h
  | cons y r ih => cases b with
    | nil => cases h
    | cons x s =>
      have h1 := List.cons.inj h
      rw [Sum.inl.inj h1.1, ih h1.2]
abbrev KVs : Type := List (List Key × V)
/-- a node: its place, and whether it is a leaf -/
abbrev Nd : Type := Pl × Bool
def kvN (ns : List Nd) : KVs := ns.map fun p => (kk p.1, V.bl p.2)
def kvR (ps : List Pl) : KVs := ps.map fun p => (kk p, V.bl true)
def lkp : List Nd → Pl → Option Bool
  | [], _ => none
  | p :: r, pl => if p.1 = pl then some p.2 else lkp r pl
theorem val_N (pl : Pl) : ∀ ns : List Nd, valV (kvN ns) (kk pl) = (lkp ns pl).map V.bl
  | [] => rfl
  | p :: r => by
    show valV ((kk p.1, V.bl p.2) :: kvN r) (kk pl) = Option.map V.bl (if p.1 = pl then some p.2 else lkp r pl)
    by_cases c : p.1 = pl
    · rw [if_pos c, valV_pos (p := (kk p.1, V.bl p.2)) (congrArg kk c)]
      rfl
    · rw [if_neg c, valV_neg (p := (kk p.1, V.bl p.2)) (fun e => c (kk_inj e)), val_N pl r]
theorem val_R (pl : Pl) : ∀ ps : List Pl, valV (kvR ps) (kk pl) = if pl ∈ ps then some (V.bl true) else none
  | [] => rfl
  | p :: r => by
    show valV ((kk p, V.bl true) :: kvR r) (kk pl) = _
    by_cases c : p = pl
    · rw [if_pos (by rw [c]; exact List.mem_cons_self), valV_pos (p := (kk p, V.bl true)) (congrArg kk c)]
    · rw [valV_neg (p := (kk p, V.bl true)) (fun e => c (kk_inj e)), val_R pl r]
      by_cases d : pl ∈ r
      · rw [if_pos d, if_pos (List.mem_cons_of_mem _ d)]
      · rw [if_neg d, if_neg (fun e => by rcases List.mem_cons.mp e with e | e; exact c e.symm; exact d e)]
theorem lkp_none {pl : Pl} : ∀ {ns : List Nd}, pl ∉ ns.map (·.1) → lkp ns pl = none
  | [], _ => rfl
  | p :: r, h => by
    show (if p.1 = pl then some p.2 else lkp r pl) = none
    rw [if_neg (fun e => h (by rw [List.map_cons, e]; exact List.mem_cons_self))]
    exact lkp_none (fun e => h (by rw [List.map_cons]; exact List.mem_cons_of_mem _ e))
theorem lkp_some {pl : Pl} {b : Bool} : ∀ {ns : List Nd}, (ns.map (·.1)).Nodup → (pl, b) ∈ ns → lkp ns pl = some b
  | p :: r, nd, h => by
    show (if p.1 = pl then some p.2 else lkp r pl) = some b
    rw [List.map_cons, List.nodup_cons] at nd
    rcases List.mem_cons.mp h with e | e
    · rw [← e, if_pos rfl]
    · rw [if_neg (fun c => nd.1 (by rw [c]; exact List.mem_map.mpr ⟨_, e, rfl⟩)), lkp_some nd.2 e]
theorem lkp_mem {pl : Pl} {b : Bool} : ∀ {ns : List Nd}, lkp ns pl = some b → (pl, b) ∈ ns
  | p :: r, h => by
    have h2 : (if p.1 = pl then some p.2 else lkp r pl) = some b := h
    by_cases c : p.1 = pl
    · rw [if_pos c] at h2
      obtain rfl := Option.some.inj h2
      rw [← c]
      exact List.mem_cons_self
    · rw [if_neg c] at h2
      exact List.mem_cons_of_mem _ (lkp_mem h2)
theorem put_N {ns : List Nd} {pl : Pl} {b : Bool} (h : pl ∉ ns.map (·.1)) : putK (kvN ns) (kk pl) (V.bl b) = kvN (ns ++ [(pl, b)]) := by
  rw [putK_new _ (by rw [val_N, lkp_none h]; rfl)]
  unfold kvN
  rw [List.map_append]
  rfl
theorem put_R {ps : List Pl} {pl : Pl} (h : pl ∉ ps) : putK (kvR ps) (kk pl) (V.bl true) = kvR (ps ++ [pl]) := by
  rw [putK_new _ (by rw [val_R, if_neg h])]
  unfold kvR
  rw [List.map_append]
  rfl
/-- the fault of the place that is read behind ps -/
def stpF (ns : List Nd) (ps : List Pl) (pl : Pl) : Option Str :=
  if lkp ns pl = none then some "node" else if pl ∈ ps then some "again" else if lkp ns pl = some false ∧ (pl ++ [0] ∉ ps ∨ pl ++ [1] ∉ ps) then some "early" else none
/-- the first fault of what is left of a row, ps read -/
def faultF (ns : List Nd) : List Pl → List Pl → Option (Nat × Str)
  | ps, [] => if ps.length < ns.length then some (ps.length, "missing") else none
  | ps, pl :: r => match stpF ns ps pl with
    | some k => some (ps.length, k)
    | none => faultF ns (ps ++ [pl]) r
/-- the most that is held, held and room so far -/
def roomF (ns : List Nd) : Int → Int → List Pl → Int
  | _, m, [] => m
  | h, m, pl :: r => roomF ns (if lkp ns pl = some true then h + 1 else h - 1) (max m (if lkp ns pl = some true then h + 1 else h - 1)) r
/-- the nodes of a tree, upwards -/
def ndsOf : Pl → LT → List Nd
  | pl, .wish _ => [(pl, true)]
  | pl, .frm _ _ l r => ndsOf (pl ++ [0]) l ++ ndsOf (pl ++ [1]) r ++ [(pl, false)]
def LT.isW : LT → Bool
  | .wish _ => true
  | .frm _ _ _ _ => false
theorem post_nds : ∀ (t : LT) (pl : Pl), (post pl t).map (fun p => (p.1, p.2.isW)) = ndsOf pl t
  | .wish _, _ => rfl
  | .frm nm line l r, pl => by
    show (post (pl ++ [0]) l ++ post (pl ++ [1]) r ++ [(pl, LT.frm nm line l r)]).map _ = ndsOf (pl ++ [0]) l ++ ndsOf (pl ++ [1]) r ++ [(pl, false)]
    rw [List.map_append, List.map_append, post_nds l, post_nds r]
    rfl
theorem nds_len : ∀ (t : LT) (pl : Pl), (ndsOf pl t).length = t.size
  | .wish _, _ => rfl
  | .frm nm line l r, pl => by
    show (ndsOf (pl ++ [0]) l ++ ndsOf (pl ++ [1]) r ++ [(pl, false)]).length = l.size + r.size + 1
    rw [List.length_append, List.length_append, nds_len l, nds_len r]
    rfl
/-- all places lie below the root -/
theorem nds_pre : ∀ (t : LT) (pl q : Pl), q ∈ (ndsOf pl t).map (·.1) → ∃ s : Pl, q = pl ++ s
  | .wish _, pl, q, h => ⟨[], by rw [List.append_nil]; exact List.mem_singleton.mp h⟩
  | .frm nm line l r, pl, q, h => by
    have h2 : q ∈ (ndsOf (pl ++ [0]) l ++ ndsOf (pl ++ [1]) r ++ [(pl, false)]).map (·.1) := h
    rw [List.map_append, List.map_append] at h2
    rcases List.mem_append.mp h2 with h2 | h2
    · rcases List.mem_append.mp h2 with h2 | h2
      · obtain ⟨s, e⟩ := nds_pre l _ _ h2
        exact ⟨0 :: s, by rw [e, List.append_assoc]; rfl⟩
      · obtain ⟨s, e⟩ := nds_pre r _ _ h2
        exact ⟨1 :: s, by rw [e, List.append_assoc]; rfl⟩
    · exact ⟨[], by rw [List.append_nil]; exact List.mem_singleton.mp h2⟩
theorem pl_ne {pl : Pl} {s u : Pl} {a b : Int} (h : a ≠ b) : pl ++ [a] ++ s ≠ pl ++ [b] ++ u := fun e => by
  rw [List.append_assoc, List.append_assoc] at e
  exact h (List.cons.inj (List.append_cancel_left e)).1
theorem pl_up {pl : Pl} {s : Pl} {a : Int} : pl ++ [a] ++ s ≠ pl := fun e => by
  have := congrArg List.length e
  simp at this
theorem nds_nodup : ∀ (t : LT) (pl : Pl), ((ndsOf pl t).map (·.1)).Nodup
  | .wish _, pl => List.nodup_cons.mpr ⟨(fun h => nomatch h), List.nodup_nil⟩
  | .frm nm line l r, pl => by
    show ((ndsOf (pl ++ [0]) l ++ ndsOf (pl ++ [1]) r ++ [(pl, false)]).map (·.1)).Nodup
    rw [List.map_append, List.map_append]
    refine List.nodup_append.mpr ⟨List.nodup_append.mpr ⟨nds_nodup l _, nds_nodup r _, fun a ha b hb e => ?_⟩, List.nodup_cons.mpr ⟨(fun h => nomatch h), List.nodup_nil⟩, fun a ha b hb e => ?_⟩
    · obtain ⟨s, e1⟩ := nds_pre l _ _ ha
      obtain ⟨u, e2⟩ := nds_pre r _ _ hb
      rw [e1, e2] at e
      exact pl_ne (by decide) e
    · rw [show b = pl from List.mem_singleton.mp hb] at e
      rcases List.mem_append.mp ha with ha | ha
      · obtain ⟨s, e1⟩ := nds_pre l _ _ ha
        rw [e1] at e
        exact pl_up e
      · obtain ⟨s, e1⟩ := nds_pre r _ _ ha
        rw [e1] at e
        exact pl_up e
end Ns
/-! KtE -/
set_option Elab.async false
set_option linter.all false
set_option maxRecDepth 100000
set_option maxHeartbeats 2000000
namespace Ns
def LT.num : LT → Nat
  | .wish _ => 0
  | .frm _ _ l r => if l.num = r.num then l.num + 1 else max l.num r.num
theorem num_high : ∀ t : LT, t.num + 1 ≤ t.high
  | .wish _ => Nat.le_refl _
  | .frm _ _ l r => by
    have h1 := num_high l
    have h2 := num_high r
    show (if l.num = r.num then l.num + 1 else max l.num r.num) + 1 ≤ max l.high r.high + 1
    split <;> omega
end Ns
namespace Km
open PySem PySem.Spec PyProof.Rows L2 Ns
/-- more built-ins that no name of the text hides -/
structure Blt2 (mg : Str → Option Value) : Prop where
  mmax : mg "max" = none
  mmin : mg "min" = none
  mtup : mg "tuple" = none
  mlist : mg "list" = none
  menum : mg "enumerate" = none
  mrev : mg "reversed" = none
  misi : mg "isinstance" = none
  mstr : mg "str" = none
  mbool : mg "bool" = none
abbrev sJoin : Stmt := top 8
abbrev sBranch : Stmt := top 7
abbrev sNumber : Stmt := top 22
def spJoin : Sp := fun vs H Q _ => ∃ (a b : Nat), vs = [.int a, .int b] ∧ Q (.int ((if a = b then a + 1 else max a b : Nat) : Int)) H
theorem scJoin : FnScope ["first", "second"] ["first", "second"] (defScope sJoin) := ⟨rfl, rfl, rfl, by decide +kernel, rfl, by decide +kernel, by decide +kernel⟩
def spBranch (K : PySem.W.Frag) (n : Nat) : Sp := fun vs H Q _ => ∃ (x : V) (t : LT), vs = [x] ∧ LRep K H x t ∧ t.high ≤ n ∧ Q (.int (t.num : Int)) H
theorem scBranch : FnScope ["tree"] ["tree"] (defScope sBranch) := ⟨rfl, rfl, rfl, by decide +kernel, rfl, by decide +kernel, by decide +kernel⟩
theorem scNumber : FnScope ["_law_paper", "_law_less", "_law_more"] ["_law_paper"] (defScope sNumber) := ⟨rfl, rfl, rfl, by decide +kernel, rfl, by decide +kernel, by decide +kernel⟩
section
variable {P : Program} {w : World} {K : PySem.W.Frag} {mg : Str → Option Value} {base : Heap} {f : Addr} {fd : FuncData}
theorem ok_join {k : Nat} (T2 : Blt2 mg) (F : Fun K "joined_points" "joined_points" sJoin f fd) : FnOk P w K mg base CX0 (k + 1) f fd ["first", "second"] spJoin := by
  refine F.ok scJoin (fun vs H Q E h => ?_) (fun cdv A outer s H vs Q E hr h => ?_)
  · obtain ⟨a, b, rfl, _⟩ := h
    rfl
  obtain ⟨a, b, rfl, q⟩ := h
  refine ⟨_, pss_one (ps_ret (pe_ifExp (pt_cmpR op_eq (pv 0) (pv 1) (nomark _)) (pe_op op_add (pv 0) pe_int) (pe_callB (call_max2 rfl) rfl T2.mmax PyProof.Rows.boot_max (pa_cons (pv 0) (pa_cons (pv 1) pa_nil))))), ?_⟩
  refine ⟨_, rfl, _, rfl, rfl, _, rfl, ?_⟩
  by_cases c : a = b
  · subst c
    rw [if_pos rfl] at q
    exact iteD rfl ⟨_, rfl, _, _, rfl, rfl, q⟩
  · rw [if_neg c] at q
    refine iteND (fun e => c (by cases e; rfl)) ⟨_, rfl, _, rfl, _, _, rfl, ?_⟩
    have e : (if (b : Int) > (a : Int) then (b : Int) else (a : Int)) = ((max a b : Nat) : Int) := by
      split <;> omega
    rw [e]
    exact q
theorem ok_branch {n : Nat} {fJ : Addr} {fdJ : FuncData} (T : Blt mg) (F : Fun K "branching" "branching" sBranch f fd) (b : Binds K fd ["tree"] []) (m : mg "branching" = some (.ref f)) (G : FnOk P w K mg base CX0 (n + 1) f fd ["tree"] (spBranch K n))
    (GJ : FnOk P w K mg base CX0 1 fJ fdJ ["first", "second"] spJoin) (kJ : PySem.W.keepIn K (.ref fJ) = true) (bJ : Binds K fdJ ["first", "second"] []) (mJ : mg "joined_points" = some (.ref fJ)) :
    FnOk P w K mg base CX0 (n + 2) f fd ["tree"] (spBranch K (n + 1)) := by
  refine F.ok scBranch (fun vs H Q E h => ?_) (fun cdv A outer s H vs Q E hr h => ?_)
  · obtain ⟨x, t, rfl, _⟩ := h
    rfl
  obtain ⟨x, t, rfl, hT, hh, q⟩ := h
  refine ⟨_, pss_cons (ps_if (pt_cmpR op_eq (pe_callB call_len_seq rfl T.mlen PySem.boot_len (pa_cons (pv 0) pa_nil)) pe_int (nomark _)) (pss_one (ps_ret pe_int)) pss_nil)
    (pss_one (ps_ret (pe_call GJ (hr.mono (by omega)) rfl mJ kJ bJ .nil pass0 (pa_cons (pe_call G hr rfl m F.kp b .nil pass0 (pa_cons (pe_ix ix_tup (pv 0) (pe_un un_neg pe_int) (fun _ _ => rfl)) pa_nil)) (pa_cons (pe_call G hr rfl m F.kp b .nil pass0 (pa_cons (pe_ix ix_tup (pv 0) (pe_un un_neg pe_int) (fun _ _ => rfl)) pa_nil)) pa_nil))))), ?_⟩
  cases t with
  | wish i =>
    obtain ⟨a, rfl, ha⟩ := hT
    exact ⟨_, rfl, a, _, rfl, .inr (SqT.of ha), rfl, _, rfl, iteD rfl q⟩
  | frm nm line l r =>
    obtain ⟨a, vl, vr, rfl, ha, hL, hR⟩ := hT
    have h1 : max l.high r.high + 1 ≤ n + 1 := hh
    have h2 := Nat.le_max_left l.high r.high
    have h3 := Nat.le_max_right l.high r.high
    refine ⟨_, rfl, a, _, rfl, .inr (SqT.of ha), rfl, _, rfl, iteND (by show ¬ (V.int 5 = V.int 2); decide +kernel) ?_⟩
    refine ⟨_, rfl, _, rfl, a, _, _, _, rfl, rfl, SqT.of ha, rfl, vl, l, rfl, hL, by omega, ?_⟩
    refine ⟨_, rfl, _, rfl, a, _, _, _, rfl, rfl, SqT.of ha, rfl, vr, r, rfl, hR, by omega, _, _, rfl, q⟩
theorem branch0 {ps : List Str} : FnOk P w K mg base CX0 1 f fd ps (spBranch K 0) := by
  have no : ∀ vs H Q E, ¬ spBranch K 0 vs H Q E := fun vs H Q E h => by
    obtain ⟨x, t, _, _, h1, _⟩ := h
    cases t <;> simp [Ns.LT.high] at h1
  exact ⟨fun vs H Q E h => absurd h (no vs H Q E), fun A outer s H args us vs Q E _ _ _ _ h => absurd h (no vs H Q E)⟩
theorem all_branch {fJ : Addr} {fdJ : FuncData} (T : Blt mg) (F : Fun K "branching" "branching" sBranch f fd) (b : Binds K fd ["tree"] []) (m : mg "branching" = some (.ref f)) (GJ : FnOk P w K mg base CX0 1 fJ fdJ ["first", "second"] spJoin) (kJ : PySem.W.keepIn K (.ref fJ) = true) (bJ : Binds K fdJ ["first", "second"] []) (mJ : mg "joined_points" = some (.ref fJ)) : ∀ n : Nat, FnOk P w K mg base CX0 (n + 1) f fd ["tree"] (spBranch K n)
  | 0 => branch0
  | n + 1 => ok_branch T F b m (all_branch T F b m GJ kJ bJ mJ n) GJ kJ bJ mJ
theorem ok_number {n : Nat} (T2 : Blt2 mg) (F : Fun K "_law_number" "_law_number" sNumber f fd) (b : Binds K fd ["_law_paper"] []) (m : mg "_law_number" = some (.ref f)) (G : FnOk P w K mg base CX0 n f fd ["_law_paper"] (spBranch K n)) :
    FnOk P w K mg base CX0 (n + 1) f fd ["_law_paper"] (spBranch K (n + 1)) := by
  refine F.ok scNumber (fun vs H Q E h => ?_) (fun cdv A outer s H vs Q E hr h => ?_)
  · obtain ⟨x, t, rfl, _⟩ := h
    rfl
  obtain ⟨x, t, rfl, hT, hh, q⟩ := h
  have nd := scNumber.nd
  refine ⟨_, pss_cons (ps_if (pt_cmpR op_eq (pe_ix ix_tup (pv 0) pe_int (fun _ _ => rfl)) pe_str (nomark _)) (pss_one (ps_ret pe_int)) pss_nil)
    (pss_cons (ps_set (i := 1) nd rfl (Or.inl rfl) (pe_call G hr rfl m F.kp b .nil pass0 (pa_cons (pe_ix ix_tup (pv 0) pe_int (fun _ _ => rfl)) pa_nil)))
    (pss_cons (ps_set (i := 2) nd rfl (Or.inl rfl) (pe_call G hr rfl m F.kp b .nil pass0 (pa_cons (pe_ix ix_tup (pv 0) pe_int (fun _ _ => rfl)) pa_nil)))
    (pss_cons (ps_if (pt_cmpR op_eq (pv 1) (pv 2) (nomark _)) (pss_one (ps_ret (pe_op op_add (pv 1) pe_int))) pss_nil)
    (pss_one (ps_ret (pe_callB (call_max2 rfl) rfl T2.mmax PyProof.Rows.boot_max (pa_cons (pv 1) (pa_cons (pv 2) pa_nil)))))))), ?_⟩
  cases t with
  | wish i =>
    obtain ⟨a, rfl, ha⟩ := hT
    exact ⟨_, rfl, a, _, 0, _, rfl, rfl, SqT.of ha, atI_nat (j := 0) rfl, rfl, _, rfl, iteD rfl q⟩
  | frm nm line l r =>
    obtain ⟨a, vl, vr, rfl, ha, hL, hR⟩ := hT
    have h1 : max l.high r.high + 1 ≤ n + 1 := hh
    have h2 := Nat.le_max_left l.high r.high
    have h3 := Nat.le_max_right l.high r.high
    refine ⟨_, rfl, a, _, 0, _, rfl, rfl, SqT.of ha, atI_nat (j := 0) rfl, rfl, _, rfl, iteND wf_ne ?_⟩
    refine ⟨_, rfl, a, _, 3, _, rfl, rfl, SqT.of ha, atI_nat (j := 3) rfl, vl, l, rfl, hL, by omega, ?_⟩
    refine ⟨_, rfl, a, _, 4, _, rfl, rfl, SqT.of ha, atI_nat (j := 4) rfl, vr, r, rfl, hR, by omega, ?_⟩
    refine ⟨_, rfl, _, rfl, rfl, _, rfl, ?_⟩
    have q2 : Q (.int ((if l.num = r.num then l.num + 1 else max l.num r.num : Nat) : Int)) H := q
    by_cases c : l.num = r.num
    · rw [if_pos c] at q2
      rw [← c]
      exact iteD rfl ⟨_, rfl, _, _, rfl, rfl, q2⟩
    · rw [if_neg c] at q2
      refine iteND (fun e => c (by have := V.int.inj e; omega)) ⟨_, rfl, _, rfl, _, _, rfl, ?_⟩
      have e : (if (r.num : Int) > (l.num : Int) then (r.num : Int) else (l.num : Int)) = ((max l.num r.num : Nat) : Int) := by
        split <;> omega
      rw [e]
      exact q2
theorem number0 {ps : List Str} : FnOk P w K mg base CX0 0 f fd ps (spBranch K 0) := by
  have no : ∀ vs H Q E, ¬ spBranch K 0 vs H Q E := fun vs H Q E h => by
    obtain ⟨x, t, _, _, h1, _⟩ := h
    cases t <;> simp [Ns.LT.high] at h1
  exact ⟨fun vs H Q E h => absurd h (no vs H Q E), fun A outer s H args us vs Q E _ _ _ _ h => absurd h (no vs H Q E)⟩
theorem all_number (T2 : Blt2 mg) (F : Fun K "_law_number" "_law_number" sNumber f fd) (b : Binds K fd ["_law_paper"] []) (m : mg "_law_number" = some (.ref f)) : ∀ n : Nat, FnOk P w K mg base CX0 n f fd ["_law_paper"] (spBranch K n)
  | 0 => number0
  | n + 1 => ok_number T2 F b m (all_number T2 F b m n)
end
end Km
/-! KtF -/
set_option Elab.async false
set_option linter.all false
set_option maxRecDepth 100000
set_option maxHeartbeats 2000000
namespace Ns
open PySem PySem.Spec PyProof.Rows L2
/-- a dict comprehension over a list -/
theorem dt_list {K : PySem.W.Frag} {a : Addr} {xs : List V} {g : TG} {tt : TT} {tk tv : TE} {vs : List Nat} {σ : L2.St} {H1 : Hp} {D : Addr} {Qd : Hp → Prop} (Pv : Nat → Hp → Prop) (p0 : Pv 0 (upd H1 D (.dT []))) (at_ : ∀ i H, i ≤ xs.length → Pv i H → SqL K H a xs)
    (turn : ∀ i x H, xs[i]? = some x → Pv i H → g x (wipe σ vs) H fun σ2 H2 => wipe σ2 vs = wipe σ vs ∧ tt σ2 H2 fun b H3 =>
      if b = true then tk σ2 H3 fun y H4 => tv σ2 H4 fun z Hh => ∃ kvs k c, y = .ref c ∧ Hh c = some (.tup (k.map kV)) ∧ Hh D = some (.dT kvs) ∧ kvs.length < sizeLine ∧ Pv (i + 1) (upd Hh D (.dT (putK kvs k z))) else Pv (i + 1) H3) (fin : ∀ H, Pv xs.length H → Qd H) :
    ∃ W : Nat → Nat → Hp → Prop, (∃ m, W 0 m (upd H1 D (.dT []))) ∧ ∀ i m H, W i m H →
      ((Itl K a).stop i H ∧ Qd H) ∨ ((Itl K a).go i H ∧ ∃ Nw : Hp → Prop, (∀ H', Nw H' → ∃ m', m' < m ∧ W (i + 1) m' H') ∧ ∀ x H', (Itl K a).yld i H x H' → g x (wipe σ vs) H' fun σ2 H2 => wipe σ2 vs = wipe σ vs ∧ tt σ2 H2 fun b H3 =>
        if b = true then tk σ2 H3 fun y H4 => tv σ2 H4 fun z Hh => ∃ kvs k c, y = .ref c ∧ Hh c = some (.tup (k.map kV)) ∧ Hh D = some (.dT kvs) ∧ kvs.length < sizeLine ∧ Nw (upd Hh D (.dT (putK kvs k z))) else Nw H3) := by
  refine ⟨fun i m H => m + i = xs.length ∧ Pv i H, ⟨xs.length, rfl, p0⟩, fun i m H w => ?_⟩
  obtain ⟨hm, p⟩ := w
  have st := at_ i H (by omega) p
  rcases Nat.lt_or_ge i xs.length with lt | ge
  · have hx : xs[i]? = some xs[i] := List.getElem?_eq_getElem lt
    refine .inr ⟨⟨xs, xs[i], st, hx⟩, Pv (i + 1), fun H' p' => ⟨m - 1, by omega, by omega, p'⟩, fun x H' y => ?_⟩
    obtain ⟨rfl, y⟩ := y
    exact turn i x _ (y xs st) p
  · obtain rfl : i = xs.length := by omega
    exact .inl ⟨⟨xs, st, Nat.le_refl _⟩, fin H p⟩
end Ns
namespace Km
open PySem PySem.Spec PyProof.Rows L2 Ns
abbrev sByPlace : Stmt := top 11
def spByPlace (K : PySem.W.Frag) : Sp := fun vs H Q _ => ∃ (x : V) (t : LT), vs = [x] ∧ LRep K H x t ∧ t.size ≤ 1000 ∧ ∀ o H', Same H H' → H o = none → H' o = some (.dT (kvN (ndsOf [] t))) → Q (.ref o) H'
theorem scByPlace : FnScope ["paper", "place", "node"] ["paper"] (defScope sByPlace) := ⟨rfl, rfl, rfl, by decide +kernel, rfl, by decide +kernel, by decide +kernel⟩
section
variable {P : Program} {w : World} {K : PySem.W.Frag} {mg : Str → Option Value} {base : Heap} {f : Addr} {fd : FuncData}
theorem ok_byPlace {fU : Addr} {fdU : FuncData} (F : Fun K "leaves_by_place" "leaves_by_place" sByPlace f fd)
    (GU : FnOk P w K mg base CX0 1 fU fdU ["paper"] (spUp K)) (kU : PySem.W.keepIn K (.ref fU) = true) (bU : Binds K fdU ["paper"] []) (mU : mg "nodes_upwards" = some (.ref fU)) :
    FnOk P w K mg base CX0 2 f fd ["paper"] (spByPlace K) := by
  refine F.ok scByPlace (fun vs H Q E h => ?_) (fun cdv A outer s H vs Q E hr h => ?_)
  · obtain ⟨x, t, rfl, _⟩ := h
    rfl
  obtain ⟨x, t, rfl, hT, hsz, q⟩ := h
  have nd := scByPlace.nd
  have hu : (A.deeper (envOfC "leaves_by_place" (defScope sByPlace) s.heap.objs.size f cdv)).units + 1 < cLine := Nat.lt_of_le_of_lt (by omega) hr.units
  refine ⟨_, pss_one (ps_ret (pe_dt (own := [("place", 1), ("node", 2)]) (g := gTup K 2 (gCons (gName 1) (gCons (gName 2) gNil))) (tt := tYes) hu rfl nd (pi_list (pe_call GU hr rfl mU kU bU .nil pass0 (pa_cons (pv 0) pa_nil))) (blkOk_by (N := ["paper", "place", "node"]) (sc := defScope sByPlace) (by decide +kernel))
      (fun _ _ _ _ _ => pg_tup rfl (pgs_cons (pg_name (i := 1) nd rfl (Or.inl rfl)) (pgs_cons (pg_name (i := 2) nd rfl (Or.inl rfl)) pgs_nil))) (fun _ _ _ _ _ => pts_nil) (fun _ _ _ _ _ => pv 1)
      (fun _ _ _ _ _ => pe_cmpR op_eq (pe_ix (r := rIxT K) ix_tup (pv 2) pe_int (fun _ _ => rfl)) pe_str (nomark _)))), ?_⟩
  refine ⟨_, rfl, x, t, rfl, hT, hsz, fun o H1 xs s1 eo iX => ?_⟩
  refine ⟨o, rfl, ⟨xs, .inl (.inl eo)⟩, fun D hD => ?_⟩
  have ln : (ndsOf [] t).length = xs.length := by rw [← post_nds, List.length_map, iX.1]
  have l1000 : xs.length ≤ 1000 := by rw [← ln, nds_len]; exact hsz
  have ndp := nds_nodup t []
  refine dt_list (K := K) (xs := xs) (fun i H2 => H2 D = some (.dT (kvN ((ndsOf [] t).take i))) ∧ Same H1 H2) ⟨upd_same, same_new hD _⟩ (fun i H2 _ ⟨_, s2⟩ => .inl (.inl (s2 _ _ eo))) ?_ ?_
  · rintro i y H2 hi ⟨eD, s2⟩
    have hlt : i < (post [] t).length := by rw [← iX.1]; exact (List.getElem?_eq_some_iff.mp hi).1
    have hp : (post [] t)[i]? = some (post [] t)[i] := List.getElem?_eq_getElem hlt
    generalize (post [] t)[i] = p at hp
    have hq : (ndsOf [] t)[i]? = some (p.1, p.2.isW) := by rw [← post_nds, List.getElem?_map, hp]; rfl
    obtain ⟨a, c, vx, rfl, ha, hc, hv⟩ := (iX.2 i y p hi hp).same s2
    refine ⟨a, _, rfl, SqT.of ha, rfl, _, _, rfl, _, _, rfl, rfl, ?_⟩
    have tk : (ndsOf [] t).take (i + 1) = (ndsOf [] t).take i ++ [(p.1, p.2.isW)] := by rw [List.take_succ, hq]; rfl
    have new : p.1 ∉ ((ndsOf [] t).take i).map (·.1) := by
      have z : (((ndsOf [] t).take (i + 1)).map (·.1)).Nodup := (ndp.sublist ((List.take_sublist _ _).map _))
      rw [tk, List.map_append] at z
      exact fun e => (List.nodup_append.mp z).2.2 _ e _ (List.mem_singleton.mpr rfl) rfl
    have step : ∀ b : Bool, p.2.isW = b → ∃ kvs k c2, V.ref c = .ref c2 ∧ H2 c2 = some (.tup (k.map kV)) ∧ H2 D = some (.dT kvs) ∧ kvs.length < sizeLine ∧ ((upd H2 D (.dT (putK kvs k (.bl b)))) D = some (.dT (kvN ((ndsOf [] t).take (i + 1)))) ∧ Same H1 (upd H2 D (.dT (putK kvs k (.bl b))))) := by
      intro b eb
      refine ⟨_, kk p.1, c, rfl, by rw [kk_map]; exact hc, eD, Nat.lt_of_le_of_lt (show (kvN ((ndsOf [] t).take i)).length ≤ 1000 by unfold kvN; rw [List.length_map, List.length_take]; omega) (by decide), ?_, fun z u e => ?_⟩
      · rw [upd_same, put_N new, tk, eb]
      · rw [upd_ne (ne_of_none e hD)]
        exact s2 _ _ e
    refine ⟨rfl, ?_⟩
    obtain ⟨pl, nod⟩ := p
    cases nod with
    | wish i2 =>
      obtain ⟨d, rfl, hd⟩ := hv
      exact ⟨_, rfl, _, rfl, d, _, 0, _, rfl, rfl, SqT.of hd, atI_nat (j := 0) rfl, rfl, step _ (decide_eq_true rfl).symm⟩
    | frm nm line l r =>
      obtain ⟨d, vl, vr, rfl, hd, _, _⟩ := hv
      exact ⟨_, rfl, _, rfl, d, _, 0, _, rfl, rfl, SqT.of hd, atI_nat (j := 0) rfl, rfl, step _ (decide_eq_false wf_ne).symm⟩
  · rintro H2 ⟨eD, s2⟩
    rw [← ln, List.take_length] at eD
    refine q D H2 (s1.trans s2) ?_ eD
    cases e : H D with
    | none => rfl
    | some u => have z := s1 D u e; rw [hD] at z; cases z
end
end Km
/-! KtG -/
set_option Elab.async false
set_option linter.all false
set_option maxRecDepth 100000
set_option maxHeartbeats 2000000
namespace Ns
open PySem PySem.Spec PyProof.Rows L2
/-- a tuple of ints that was made -/
def PlH (H : Hp) (x : V) (pl : Pl) : Prop := ∃ b, x = .ref b ∧ H b = some (.tup (pl.map V.int))
theorem PlH.same {H H1 : Hp} {x : V} {pl : Pl} (e : Same H H1) (h : PlH H x pl) : PlH H1 x pl := by
  obtain ⟨b, h1, h2⟩ := h
  exact ⟨b, h1, e _ _ h2⟩
def stepV : Option Str → V
  | none => .non
  | some k => .str k
theorem snoc_ne {pl : Pl} {v : Int} : pl ++ [v] ≠ pl := fun e => by
  have := congrArg List.length e
  simp at this
theorem dget_N {H : Hp} {D b : Addr} {ns : List Nd} {pl : Pl} (e : H D = some (.dT (kvN ns))) (hb : H b = some (.tup (pl.map V.int))) : DGet H D (.ref b) ((lkp ns pl).map V.bl) := by
  have g := DGet.t (k := kk pl) e (by rw [kk_map]; exact hb)
  rw [val_N] at g
  exact g
theorem dget_R {H : Hp} {D b : Addr} {ps : List Pl} {pl : Pl} (e : H D = some (.dT (kvR ps))) (hb : H b = some (.tup (pl.map V.int))) : DGet H D (.ref b) (if pl ∈ ps then some (V.bl true) else none) := by
  have g := DGet.t (k := kk pl) e (by rw [kk_map]; exact hb)
  rw [val_R] at g
  exact g
end Ns
namespace Km
open PySem PySem.Spec PyProof.Rows L2 Ns
abbrev sStep : Stmt := top 12
def spStep : Sp := fun vs H Q _ => ∃ (L R : Addr) (x : V) (ns : List Nd) (ps : List Pl) (pl : Pl), vs = [.ref L, .ref R, x] ∧ H L = some (.dT (kvN ns)) ∧ H R = some (.dT (kvR ps)) ∧ PlH H x pl ∧ pl.length ≤ 1000 ∧ ∀ H', Same H H' → Q (stepV (stpF ns ps pl)) H'
theorem scStep : FnScope ["leaves", "read", "place"] ["leaves", "read", "place"] (defScope sStep) := ⟨rfl, rfl, rfl, by decide +kernel, rfl, by decide +kernel, by decide +kernel⟩
section
variable {P : Program} {w : World} {K : PySem.W.Frag} {mg : Str → Option Value} {base : Heap} {f : Addr} {fd : FuncData}
theorem ok_step {k : Nat} (F : Fun K "step_fault" "step_fault" sStep f fd) : FnOk P w K mg base CX0 (k + 1) f fd ["leaves", "read", "place"] spStep := by
  refine F.ok scStep (fun vs H Q E h => ?_) (fun cdv A outer s H vs Q E hr h => ?_)
  · obtain ⟨L, R, x, ns, ps, pl, rfl, _⟩ := h
    rfl
  obtain ⟨L, R, x, ns, ps, pl, rfl, eL, eR, ⟨b, rfl, hb⟩, hl, q⟩ := h
  have nd := scStep.nd
  have hu : (A.deeper (envOfC "step_fault" (defScope sStep) s.heap.objs.size f cdv)).units + 1 < cLine := Nat.lt_of_le_of_lt (by omega) hr.units
  refine ⟨_, pss_cons (ps_if (pt_cmp (pc_dnotin hu (pv 2) (pv 0))) (pss_one (ps_ret pe_str)) pss_nil)
    (pss_cons (ps_if (pt_cmp (pc_din hu (pv 2) (pv 1))) (pss_one (ps_ret pe_str)) pss_nil)
    (pss_cons (ps_if (PW.pt (pw_and (pt_not (pt_val (pe_dget hu (pv 0) (pv 2) (fun _ _ => rfl)))) (pw_and1 (PW.pt (pw_or (pt_cmp (pc_dnotin hu (pe_op op_catA (pv 2) (pe_tup (pa_cons pe_int pa_nil))) (pv 1))) (pw_or1 (pt_cmp (pc_dnotin hu (pe_op op_catA (pv 2) (pe_tup (pa_cons pe_int pa_nil))) (pv 1)))))))))
      (pss_one (ps_ret pe_str)) pss_nil)
    (pss_one (ps_ret pe_non)))), ?_⟩
  have q0 := q H (Same.refl H)
  refine ⟨_, rfl, _, rfl, L, _, rfl, dget_N eL hb, _, rfl, ?_⟩
  cases hk : lkp ns pl with
  | none =>
    refine iteT ?_
    have e : stpF ns ps pl = some ("node" : Str) := if_pos hk
    rw [e] at q0
    exact q0
  | some lf =>
    refine iteF ?_
    refine ⟨_, rfl, _, rfl, R, _, rfl, dget_R eR hb, _, rfl, ?_⟩
    have n1 : ¬ lkp ns pl = none := fun z => by rw [z] at hk; cases hk
    by_cases c : pl ∈ ps
    · rw [if_pos c]
      refine iteT ?_
      have e : stpF ns ps pl = some ("again" : Str) := by
        unfold stpF
        rw [if_neg n1, if_pos c]
      rw [e] at q0
      exact q0
    · rw [if_neg c]
      refine iteF ?_
      have g := dget_N eL hb
      rw [hk] at g
      refine ⟨_, rfl, _, rfl, L, _, rfl, g, _, rfl, ?_⟩
      cases lf with
      | true =>
        refine iteF (iteF ?_)
        have e : stpF ns ps pl = none := by
          unfold stpF
          rw [if_neg n1, if_neg c, hk]
          exact if_neg (fun z => by cases z.1)
        rw [e] at q0
        exact q0
      | false =>
        refine iteT ?_
        refine ⟨_, rfl, by show 1 ≤ sizeLine; decide, fun t1 ht1 => ?_⟩
        have s1 := same_new ht1 (.tup [V.int 0])
        refine place_snoc (s1 _ _ hb) upd_same hl fun p1 H2 s2 h2 => ?_
        have s12 := s1.trans s2
        refine ⟨_, rfl, R, _, rfl, dget_R (s12 _ _ eR) h2, _, rfl, ?_⟩
        by_cases c0 : pl ++ [0] ∈ ps
        · rw [if_pos c0]
          refine iteF ?_
          refine ⟨_, rfl, by show 1 ≤ sizeLine; decide, fun t3 ht3 => ?_⟩
          have s3 := same_new ht3 (.tup [V.int 1])
          have s13 := s12.trans s3
          refine place_snoc (s13 _ _ hb) upd_same hl fun p3 H4 s4 h4 => ?_
          have s14 := s13.trans s4
          have q4 := q H4 s14
          refine ⟨_, rfl, R, _, rfl, dget_R (s14 _ _ eR) h4, _, rfl, ?_⟩
          by_cases c1 : pl ++ [1] ∈ ps
          · rw [if_pos c1]
            refine iteF ?_
            have e : stpF ns ps pl = none := by
              unfold stpF
              rw [if_neg n1, if_neg c, hk]
              exact if_neg (fun z => by rcases z.2 with z | z; exact z c0; exact z c1)
            rw [e] at q4
            exact q4
          · rw [if_neg c1]
            refine iteT ?_
            have e : stpF ns ps pl = some ("early" : Str) := by
              unfold stpF
              rw [if_neg n1, if_neg c, hk]
              exact if_pos ⟨rfl, .inr c1⟩
            rw [e] at q4
            exact q4
        · rw [if_neg c0]
          refine iteT (iteT ?_)
          have q2 := q H2 s12
          have e : stpF ns ps pl = some ("early" : Str) := by
            unfold stpF
            rw [if_neg n1, if_neg c, hk]
            exact if_pos ⟨rfl, .inl c0⟩
          rw [e] at q2
          exact q2
end
end Km
/-! KtEn -/
set_option Elab.async false
set_option linter.all false
set_option maxRecDepth 100000
set_option maxHeartbeats 2000000
/-! for i, x in enumerate(t), t a tuple -/
namespace Ns
open PySem PySem.Spec PySem.Calls PyProof.Rows L2
theorem meets_enumB1 {v : Value} {o : Obj} {H : Heap → Prop} (B : Begins v o H) :
    Meets (Builtin.«enumerate.__new__» ⟨[.type "enumerate", v], []⟩) (fun _ R s => H s.heap ∧
      R (.ok (.ret (.ref (s.heap.push o).objs.size))) { s with heap := (s.heap.push o).push { cls := .type "enumerate", data := .fields #[.none, .bool false, .ref s.heap.objs.size, rawInt 0, .none, .none] } }) :=
  .of_wp fun prog w A R s h => by
    obtain ⟨hp, g, d, tk, os⟩ := s
    obtain ⟨hH, hR⟩ := h
    have hsub := sub_enumerate
    have step : ∀ {A' : Around} {E : Value → Shared → Prop} {Q : Value → Shared → Prop}, Q (.ref hp.objs.size) ⟨hp.push o, g, d, tk, os⟩ → wpAny (model prog w) A' (pyIter v) Q E ⟨hp, g, d, tk, os⟩ :=
      fun z => B.iter prog w _ _ ⟨hp, g, d, tk, os⟩ _ hH z
    wp_walk using step
    refine wpAny_stack_any fun st => wpAny_pure ?_
    split
    · rename_i c _ _ _ _ _
      cases (c == Value.type "enumerate") <;> wp_walk using step <;> exact ⟨_, rfl, hR⟩
    · wp_walk using step
      exact ⟨_, rfl, hR⟩
theorem enum_tuple {prog : Program} {w : World} {A : Around} {E : Value → Shared → Prop} {s : Shared} {v : Value} {o : Obj} {H : Heap → Prop} {Q : Value → Shared → Prop} (B : Begins v o H) (hH : H s.heap)
    (q : ∀ h', IsEnum h' (s.heap.objs.size + 1) s.heap.objs.size 0 .none → h'.get? s.heap.objs.size = some o → (∀ b u, s.heap.get? b = some u → h'.get? b = some u) → Q (.ref (s.heap.objs.size + 1)) { s with heap := h' }) :
    wpAny (model prog w) A (call (.type "enumerate") [v]) Q E s := by
  refine callType_new F.called_enumerate (by decide) (F.typeCall_enumerate_1 _) (F.newCall_enumerate_1 _) (fun obj => F.args_object_init_2 obj _) F.entry_enumerate_new (meets_enumB1 B) ⟨hH, ?_⟩
  have z1 : (s.heap.push o).objs.size = s.heap.objs.size + 1 := Heap.size_push ..
  show _ ∧ _
  rw [z1]
  have e1 := Heap.get?_push_size (s.heap.push o) (o := { cls := .type "enumerate", data := .fields #[.none, .bool false, .ref s.heap.objs.size, rawInt 0, .none, .none] }) rfl
  rw [z1] at e1
  exact ⟨⟨_, e1, rfl⟩, q _ e1 (Heap.get?_push_of_some _ (Heap.get?_push_size _ B.free)) fun b u x => Heap.get?_push_of_some _ (Heap.get?_push_of_some _ x)⟩
/-- the tuple at a, each item in a new pair -/
def ItET (K : PySem.W.Frag) (a : Addr) : It :=
  ⟨fun i H => ∃ (xs : List V) (x : V), SqT K H a xs ∧ xs[i]? = some x, fun i H v H' => ∃ T x, v = .ref T ∧ H T = none ∧ H' = upd H T (.tup [.int (i : Nat), x]) ∧ ∀ xs, SqT K H a xs → xs[i]? = some x, fun i H => ∃ xs : List V, SqT K H a xs ∧ xs.length = i⟩
theorem turn_enumT {P : Program} {w : World} {K : PySem.W.Frag} {elts : List Expr} {kk : Nat} {tpos : Pos} (a e it : Addr) (hae : a ≠ e) (hai : a ≠ it) :
    Turn P w K (.Tuple elts kk tpos) (ItET K a) [e, it] e (fun i h => (∃ old, IsEnum h e it ((i : Nat) : Int) old) ∧ h.IsTupleIter it a i ∧ e ≠ it) where
  mem := List.mem_cons_self
  obj := fun i h st b hb => by
    obtain ⟨⟨old, he⟩, ⟨o, ho, hc, hd⟩, _⟩ := st
    rcases List.mem_cons.mp hb with z | z
    · rw [z]; exact ⟨_, he, fun v q => nomatch q⟩
    · rw [List.mem_singleton.mp z]; exact ⟨o, ho, fun v q => by rw [hd] at q; cases q⟩
  keep := fun i h h' st k => by
    obtain ⟨⟨old, he⟩, hi, hne⟩ := st
    exact ⟨⟨old, k e List.mem_cons_self _ he⟩, hi.at fun o q => k it (List.mem_cons_of_mem _ List.mem_cons_self) o q, hne⟩
  item := by
    intro X hP hw hK hc i pins s σ H E I hf st hg
    subst hP hw hK
    obtain ⟨⟨old, he⟩, hit, hne⟩ := st
    obtain ⟨xs, x, hq, hx⟩ := hg
    obtain ⟨its, rv, p, hz⟩ := I.tuple hq
    obtain ⟨u, hu, ru⟩ := rv.get hx
    have lowE : e < s.heap.objs.size := Heap.lt_size he
    have lowI : it < s.heap.objs.size := by obtain ⟨_, q, _⟩ := hit; exact Heap.lt_size q
    have D := Draws.tuple (prog := X.prog) (w := X.w) (A := X.A.in1) (I.ok.hd hc) it a hai its.toArray
    have hlt : i < its.toArray.size := by
      have := (List.getElem?_eq_some_iff.mp hu).1
      simpa using this
    refine wpAny_pyNext_enum_itemD D he ⟨hit, (show s.heap.IsTuple a its.toArray from p)⟩ hlt hne (by simp only [List.mem_cons, List.not_mem_nil, or_false, not_or]; exact ⟨hne, fun z => hae z.symm⟩) fun x2 h' tk hx2 ho st2 hT hsz hk => ?_
    obtain rfl : x2 = u := by
      have z : its.toArray[i]? = some u := by simpa using hu
      rw [z] at hx2
      exact (Option.some.inj hx2).symm
    refine ⟨_, rfl, wpAny_letOwnedTupleGo_enum (s := { s with heap := h', toks := tk + 1 }) ho fun h'' he2 sb => ?_⟩
    have hT2 := (sb.2 _ (Nat.ne_of_gt lowE)).trans hT
    have new : ObjOk X.prog X.w (upd H s.heap.objs.size (.tup [.int (i : Nat), x])) h'' s.heap.objs.size (.tup [.int (i : Nat), x]) :=
      ⟨by show 2 ≤ sizeLine; decide, [.int i tk, x2], .cons ⟨_, rfl⟩ (.cons ru .nil), ⟨_, hT2, rfl, _, rfl⟩⟩
    have kept : ∀ b ob, b ∉ [e, it] → s.heap.get? b = some ob → h''.get? b = some ob := fun b ob hb q => by
      have h1 : b ≠ e := fun z => hb (by rw [z]; exact List.mem_cons_self)
      have h2 : b ≠ it := fun z => hb (by rw [z]; exact List.mem_cons_of_mem _ List.mem_cons_self)
      exact (sb.2 b h1).trans (hk b ob h1 h2 q)
    have I1 : Inv X pins σ (upd H s.heap.objs.size (.tup [.int (i : Nat), x])) { s with heap := h'', toks := tk + 1 } := I.turnedNew (ch := [e, it]) kept hf (Nat.le_refl _) new
    refine ⟨.ref s.heap.objs.size, _, I1, rfl, ⟨_, x, rfl, I.hok.fresh (Nat.le_refl _), rfl, fun ys hy => by rw [I.tuple_inj hy hq]; exact hx⟩, ⟨⟨x2, ?_⟩, st2.1.at fun o q => (sb.2 it (Ne.symm hne)).trans q, hne⟩, fun b hb => ?_⟩
    · rw [show ((i + 1 : Nat) : Int) = (i : Int) + 1 by omega]; exact he2
    · have low : b < s.heap.objs.size := by
        rcases List.mem_cons.mp hb with z | z
        · rw [z]; exact lowE
        · rw [List.mem_singleton.mp z]; exact lowI
      rw [upd_ne (Nat.ne_of_lt low)]
      exact (hf b hb).1
  done := by
    intro X hP hw hK hc i pins s σ H E I hf st hg
    subst hP hw hK
    obtain ⟨⟨old, he⟩, hit, hne⟩ := st
    obtain ⟨xs, hq, hx⟩ := hg
    obtain ⟨its, rv, p, hz⟩ := I.tuple hq
    obtain ⟨f0, f1, f2, f3, f4, f5⟩ := hf it (List.mem_cons_of_mem _ List.mem_cons_self)
    have hl := rv.length
    have D := Draws.tuple (prog := X.prog) (w := X.w) (A := X.A.in1) (I.ok.hd hc) it a hai its.toArray
    have hn : i = its.toArray.size := by rw [List.size_toArray, ← hl, hx]
    subst hn
    exact wpAny_pyNext_enum_endD D he ⟨hit, (show s.heap.IsTuple a its.toArray from p)⟩ fun h' eb => ⟨rfl, I.turned (t' := s.toks) (fun b o hb q => eb b o hb q) f0 f1 f3 f4 f5⟩
  self := fun A i s Q E st h => by
    obtain ⟨⟨_, he⟩, _⟩ := st
    exact wpAny_pyIter_enum he h
def iEnumT (K : PySem.W.Frag) (ta : TA) : TI := fun σ H R => ta σ H fun vs H1 => ∃ a xs, vs = [.ref a] ∧ SqT K H1 a xs ∧ R (ItET K a) H1
theorem pi_enumT {X : Cx} {e : Expr} {ta : TA} {p pos tpos : Pos} {elts : List Expr} {kk : Nat} (hg : Gl X "enumerate") (hm : X.mg "enumerate" = none) (ha : PA X [e] ta) (hs : starEach [e] X.env = [(false, eval e X.env)] := by rfl) :
    PI X (.Tuple elts kk tpos) (.Call (.Name "enumerate" p) [e] [] pos) (iEnumT X.K ta) := by
  refine ⟨fun pins s σ H R I h => ?_⟩
  refine Call_ (ld_blt I hg hm boot_enumerate (PyProof.Rows.callWith_type1 (thn (ha.run pos pins s σ H _ I h) fun us s1 z => ?_) hs rfl))
  obtain ⟨vs, H1, I1, r1, a, xs, ex, hq, q⟩ := z
  subst ex
  cases r1 with
  | cons r rr =>
    cases rr
    cases r
    obtain ⟨its, rv, pt, hz⟩ := I1.tuple hq
    have pt2 : s1.heap.IsTuple a its.toArray := pt
    have lowA : a < s1.heap.objs.size := by
      obtain ⟨o, ho, _⟩ := id pt2
      exact Heap.lt_size ho
    refine enum_tuple (begins_tuple a its.toArray) pt2 fun h' he hob hk => wpAny_pyIter_enum he ?_
    have I2 : Inv X pins σ H1 { s1 with heap := h' } := I1.kept (t' := s1.toks) hk
    refine ⟨s1.heap.objs.size + 1, [s1.heap.objs.size + 1, s1.heap.objs.size], _, _, H1, rfl, I2, turn_enumT a (s1.heap.objs.size + 1) s1.heap.objs.size (Nat.ne_of_lt (Nat.lt_succ_of_lt lowA)) (Nat.ne_of_lt lowA), ⟨⟨.none, he⟩, ⟨_, hob, rfl, rfl⟩, Nat.succ_ne_self _⟩, fun b hb => ?_, q⟩
    have hle : s1.heap.objs.size ≤ b := by
      rcases List.mem_cons.mp hb with z | z
      · rw [z]; exact Nat.le_add_right _ _
      · rw [List.mem_singleton.mp z]; exact Nat.le_refl _
    exact I1.fpOk hle (I1.hok.fresh hle)
theorem for_enumT {K : PySem.W.Frag} {a : Addr} {xs : List V} {g : TG} {tb : TS} {D : Ends} {σ : L2.St} {H : Hp} (Pv : Nat → L2.St → Hp → Prop) (p0 : Pv 0 σ H) (at_ : ∀ i σ H, i ≤ xs.length → Pv i σ H → SqT K H a xs)
    (turn : ∀ i x σ H, xs[i]? = some x → Pv i σ H → ∀ T, H T = none → g (.ref T) σ (upd H T (.tup [.int (i : Nat), x])) fun σ2 H2 => tb { D with nx := Pv (i + 1), ct := Pv (i + 1), bk := D.nx } σ2 H2) (fin : ∀ σ H, Pv xs.length σ H → D.nx σ H) :
    ∃ W : Nat → Nat → L2.St → Hp → Prop, (∃ m, W 0 m σ H) ∧ ∀ i m σ H, W i m σ H →
      ((ItET K a).stop i H ∧ D.nx σ H) ∨ ((ItET K a).go i H ∧ ∃ N : L2.St → Hp → Prop, (∀ σ' H', N σ' H' → ∃ m', m' < m ∧ W (i + 1) m' σ' H') ∧ ∀ x H', (ItET K a).yld i H x H' → g x σ H' fun σ2 H2 => tb { D with nx := N, ct := N, bk := D.nx } σ2 H2) := by
  refine ⟨fun i m σ H => m + i = xs.length ∧ Pv i σ H, ⟨xs.length, rfl, p0⟩, fun i m σ H w => ?_⟩
  obtain ⟨hm, p⟩ := w
  have st := at_ i σ H (by omega) p
  rcases Nat.lt_or_ge i xs.length with lt | ge
  · have hx : xs[i]? = some xs[i] := List.getElem?_eq_getElem lt
    refine .inr ⟨⟨xs, xs[i], st, hx⟩, Pv (i + 1), fun σ' H' p' => ⟨m - 1, by omega, by omega, p'⟩, fun x H' y => ?_⟩
    obtain ⟨T, y, rfl, hT, rfl, hy⟩ := y
    exact turn i y σ H (hy xs st) p T hT
  · obtain rfl : i = xs.length := by omega
    exact .inl ⟨⟨xs, st, rfl⟩, fin σ H p⟩
end Ns
/-! KtH -/
set_option Elab.async false
set_option linter.all false
set_option maxRecDepth 100000
set_option maxHeartbeats 2000000
namespace Ns
open PySem PySem.Spec PyProof.Rows L2
def PlsH (H : Hp) : List V → List Pl → Prop
  | [], [] => True
  | x :: xs, p :: ps => PlH H x p ∧ PlsH H xs ps
  | _, _ => False
theorem PlsH.same {H H1 : Hp} (e : Same H H1) : ∀ {xs : List V} {ps : List Pl}, PlsH H xs ps → PlsH H1 xs ps
  | [], [], _ => trivial
  | [], _ :: _, z => z.elim
  | _ :: _, [], z => z.elim
  | _ :: _, _ :: _, z => ⟨z.1.same e, PlsH.same e z.2⟩
theorem PlsH.app {H : Hp} : ∀ {xs ys : List V} {ps qs : List Pl}, PlsH H xs ps → PlsH H ys qs → PlsH H (xs ++ ys) (ps ++ qs)
  | [], _, [], _, _, h => h
  | [], _, _ :: _, _, z, _ => z.elim
  | _ :: _, _, [], _, z, _ => z.elim
  | _ :: _, _, _ :: _, _, z, h => ⟨z.1, PlsH.app z.2 h⟩
theorem PlsH.len {H : Hp} : ∀ {xs : List V} {ps : List Pl}, PlsH H xs ps → xs.length = ps.length
  | [], [], _ => rfl
  | [], _ :: _, z => z.elim
  | _ :: _, [], z => z.elim
  | _ :: _, _ :: _, z => congrArg (· + 1) (PlsH.len z.2)
theorem PlsH.at_ {H : Hp} : ∀ {xs : List V} {ps : List Pl} {i : Nat} {x : V}, PlsH H xs ps → xs[i]? = some x → ∃ p, ps[i]? = some p ∧ PlH H x p
  | [], [], _, _, _, h => by simp at h
  | [], _ :: _, _, _, z, _ => z.elim
  | _ :: _, [], _, _, z, _ => z.elim
  | y :: xs, q :: ps, 0, x, z, h => by
    obtain rfl : y = x := Option.some.inj h
    exact ⟨q, rfl, z.1⟩
  | y :: xs, q :: ps, i + 1, x, z, h => PlsH.at_ (xs := xs) (ps := ps) z.2 h
/-- a tuple of places -/
def RowP (K : PySem.W.Frag) (H : Hp) (o : Addr) (ps : List Pl) : Prop := ∃ xs, SqT K H o xs ∧ PlsH H xs ps
theorem RowP.same {K : PySem.W.Frag} {H H1 : Hp} {o : Addr} {ps : List Pl} (e : Same H H1) (h : RowP K H o ps) : RowP K H1 o ps := by
  obtain ⟨xs, h1, h2⟩ := h
  exact ⟨xs, sqT_same e h1, h2.same e⟩
theorem fault_go {ns : List Nd} {rd : List Pl} {pl : Pl} {r : List Pl} (h : stpF ns rd pl = none) : faultF ns rd (pl :: r) = faultF ns (rd ++ [pl]) r := by
  simp only [faultF, h]
theorem fault_at {ns : List Nd} {rd : List Pl} {pl : Pl} {r : List Pl} {k : Str} (h : stpF ns rd pl = some k) : faultF ns rd (pl :: r) = some (rd.length, k) := by
  simp only [faultF, h]
theorem stp_new {ns : List Nd} {rd : List Pl} {pl : Pl} (h : stpF ns rd pl = none) : pl ∉ rd := fun c => by
  unfold stpF at h
  split at h
  · cases h
  · first
      | cases h
      | (rw [if_pos c] at h; cases h)
end Ns
namespace Km
open PySem PySem.Spec PyProof.Rows L2 Ns
abbrev sReadF : Stmt := top 10
def spReadF (K : PySem.W.Frag) : Sp := fun vs H Q _ => ∃ (x : V) (o : Addr) (t : LT) (ps : List Pl), vs = [x, .ref o] ∧ LRep K H x t ∧ t.size ≤ 1000 ∧ RowP K H o ps ∧ ps.length ≤ 5000 ∧ (∀ p ∈ ps, p.length ≤ 1000) ∧
  (faultF (ndsOf [] t) [] ps = none → ∀ H', Same H H' → Q .non H') ∧ ∀ i k, faultF (ndsOf [] t) [] ps = some (i, k) → ∀ a H', Same H H' → H' a = some (.tup [.int (i : Nat), .str k]) → Q (.ref a) H'
abbrev nReadF : List Str := ["paper", "order", "leaves", "read", "at", "place", "kind"]
theorem scReadF : FnScope nReadF ["paper", "order"] (defScope sReadF) := ⟨rfl, rfl, rfl, by decide +kernel, rfl, by decide +kernel, by decide +kernel⟩
section
variable {P : Program} {w : World} {K : PySem.W.Frag} {mg : Str → Option Value} {base : Heap} {f : Addr} {fd : FuncData}
theorem ok_readF {fB fS : Addr} {fdB fdS : FuncData} (T : Blt mg) (T2 : Blt2 mg) (F : Fun K "reading_fault" "reading_fault" sReadF f fd)
    (GB : FnOk P w K mg base CX0 2 fB fdB ["paper"] (spByPlace K)) (kB : PySem.W.keepIn K (.ref fB) = true) (bB : Binds K fdB ["paper"] []) (mB : mg "leaves_by_place" = some (.ref fB))
    (GS : FnOk P w K mg base CX0 1 fS fdS ["leaves", "read", "place"] spStep) (kS : PySem.W.keepIn K (.ref fS) = true) (bS : Binds K fdS ["leaves", "read", "place"] []) (mS : mg "step_fault" = some (.ref fS)) :
    FnOk P w K mg base CX0 3 f fd ["paper", "order"] (spReadF K) := by
  refine F.ok scReadF (fun vs H Q E h => ?_) (fun cdv A outer s H vs Q E hr h => ?_)
  · obtain ⟨x, o, t, ps, rfl, _⟩ := h
    rfl
  obtain ⟨x, o, t, ps, rfl, hT, hsz, hP, h5, hl, qn, qs⟩ := h
  have nd := scReadF.nd
  have hu : (A.deeper (envOfC "reading_fault" (defScope sReadF) s.heap.objs.size f cdv)).units + 1 < cLine := Nat.lt_of_le_of_lt (by omega) hr.units
  refine ⟨_, pss_cons (ps_set (i := 2) nd rfl (Or.inl rfl) (pe_call GB hr rfl mB kB bB .nil pass0 (pa_cons (pv 0) pa_nil)))
    (pss_cons (ps_set (i := 3) nd rfl (Or.inl rfl) pe_dnewT)
    (pss_cons (ps_for PassesOwn.never rfl (pi_enumT rfl T2.menum (pa_cons (pv 1) pa_nil)) (pg_tup rfl (pgs_cons (pg_name (i := 4) nd rfl (Or.inl rfl)) (pgs_cons (pg_name (i := 5) nd rfl (Or.inl rfl)) pgs_nil)))
      (pss_cons (ps_set (i := 6) nd rfl (Or.inl rfl) (pe_call GS (hr.mono (by decide)) rfl mS kS bS .nil pass0 (pa_cons (pv 2) (pa_cons (pv 3) (pa_cons (pv 5) pa_nil)))))
      (pss_cons (ps_if (pt_cmp (pc_notN (pv 6))) (pss_one (ps_ret (pe_tup (pa_cons (pv 4) (pa_cons (pv 6) pa_nil))))) pss_nil)
      (pss_one (ps_dput hu (pv 3) (pv 5) pe_bl rfl)))))
    (pss_cons (ps_if (pt_cmpR op_lt (pe_callB call_len_dT rfl T.mlen PySem.boot_len (pa_cons (pv 3) pa_nil)) (pe_callB call_len_dT rfl T.mlen PySem.boot_len (pa_cons (pv 2) pa_nil)) (nomark _))
      (pss_one (ps_ret (pe_tup (pa_cons (pe_callB call_len_seq rfl T.mlen PySem.boot_len (pa_cons (pv 1) pa_nil)) (pa_cons pe_str pa_nil))))) pss_nil)
    (pss_one (ps_ret pe_non))))), ?_⟩
  refine ⟨_, rfl, x, t, rfl, hT, hsz, fun L H1 s1 nL eL => ?_⟩
  refine fun R hR => ?_
  have s2 := same_new hR (.dT [])
  obtain ⟨xs, hxs, eX⟩ := hP
  have lx := eX.len
  have s12 := s1.trans s2
  have nR : H R = none := by
    cases e : H R with
    | none => rfl
    | some u => have z := s1 R u e; rw [hR] at z; cases z
  refine ⟨_, rfl, o, xs, rfl, sqT_same s12 hxs, for_enumT (K := K) (xs := xs) (fun i σ H2 => ∃ (y4 y5 y6 : Option V), σ = [some x, some (.ref o), some (.ref L), some (.ref R), y4, y5, y6] ∧ Same H H2 ∧ H2 L = some (.dT (kvN (ndsOf [] t))) ∧ H2 R = some (.dT (kvR (ps.take i))) ∧ faultF (ndsOf [] t) [] ps = faultF (ndsOf [] t) (ps.take i) (ps.drop i))
    ⟨none, none, none, rfl, s12, s2 _ _ eL, upd_same, rfl⟩ (fun i σ H2 _ ⟨_, _, _, _, sm, _⟩ => sqT_same sm hxs) ?_ ?_⟩
  · rintro i y σ H2 hi ⟨y4, y5, y6, rfl, sm, eL2, eR2, hf⟩ T0 hT0
    obtain ⟨pl, hp, hy⟩ := eX.at_ hi
    have hlt : i < ps.length := (List.getElem?_eq_some_iff.mp hp).1
    have s3 := same_new hT0 (.tup [.int (i : Nat), y])
    have cut : ps.drop i = pl :: ps.drop (i + 1) := by
      rw [List.drop_eq_getElem_cons hlt]
      have := List.getElem?_eq_getElem hlt
      rw [this] at hp
      rw [Option.some.inj hp]
    have tk : ps.take (i + 1) = ps.take i ++ [pl] := by rw [List.take_succ, hp]; rfl
    rw [cut] at hf
    refine ⟨T0, _, rfl, SqT.of upd_same, rfl, _, _, rfl, _, _, rfl, rfl, ?_⟩
    have smT := sm.trans s3
    refine ⟨_, rfl, _, rfl, _, rfl, L, R, y, ndsOf [] t, ps.take i, pl, rfl, s3 _ _ eL2, s3 _ _ eR2, hy.same smT, hl pl (List.mem_of_getElem? hp), fun H4 s4 => ?_⟩
    have sm4 := smT.trans s4
    cases hk : stpF (ndsOf [] t) (ps.take i) pl with
    | some k =>
      rw [fault_at hk, List.length_take, Nat.min_eq_left (Nat.le_of_lt hlt)] at hf
      refine ⟨_, rfl, _, rfl, iteT ⟨_, rfl, _, rfl, by show 2 ≤ sizeLine; decide, fun a ha => ?_⟩⟩
      exact qs i k hf a _ (sm4.trans (same_new ha _)) upd_same
    | none =>
      rw [fault_go hk] at hf
      refine ⟨_, rfl, _, rfl, iteF ?_⟩
      obtain ⟨b, rfl, hb⟩ := hy.same sm4
      have eR4 := s4 _ _ (s3 _ _ eR2)
      have new := stp_new hk
      refine ⟨_, rfl, _, rfl, R, _, rfl, DPut.t (k := kk pl) eR4 (by rw [kk_map]; exact hb) (Nat.lt_of_le_of_lt (show (kvR (ps.take i)).length ≤ 5000 by unfold kvR; rw [List.length_map, List.length_take]; omega) (by decide)), ?_⟩
      have e5 : putK (kvR (ps.take i)) (kk pl) (V.bl true) = kvR (ps.take (i + 1)) := by rw [put_R new, tk]
      refine ⟨_, _, _, rfl, fun z u e => ?_, ?_, ?_, ?_⟩
      · rw [upd_ne (ne_of_none e nR)]
        exact sm4 _ _ e
      · rw [upd_ne (fun z => by rw [z] at eL; rw [hR] at eL; cases eL)]
        exact s4 _ _ (s3 _ _ eL2)
      · rw [upd_same, e5]
      · rw [hf, tk]
  · rintro σ H2 ⟨y4, y5, y6, rfl, sm, eL2, eR2, hf⟩
    rw [lx, List.take_length] at eR2
    rw [lx, List.take_length, List.drop_length] at hf
    refine ⟨_, rfl, R, _, rfl, eR2, _, rfl, L, _, rfl, eL2, _, _, rfl, rfl, _, rfl, ?_⟩
    have l1 : (kvR ps).length = ps.length := List.length_map _
    have l2 : (kvN (ndsOf [] t)).length = (ndsOf [] t).length := List.length_map _
    rw [l1, l2]
    have hf2 : faultF (ndsOf [] t) [] ps = if ps.length < (ndsOf [] t).length then some (ps.length, ("missing" : Str)) else none := hf
    by_cases c : ps.length < (ndsOf [] t).length
    · rw [if_pos c] at hf2
      refine iteD (by omega) ⟨_, rfl, o, xs, rfl, .inr (sqT_same sm hxs), by show 2 ≤ sizeLine; decide, fun a ha => ?_⟩
      rw [lx]
      exact qs _ _ hf2 a _ (sm.trans (same_new ha _)) upd_same
    · rw [if_neg c] at hf2
      exact iteND (by omega) (qn hf2 _ sm)
end
end Km
/-! KtX -/
set_option Elab.async false
set_option linter.all false
set_option maxRecDepth 100000
set_option maxHeartbeats 2000000
namespace KmX
open PySem PySem.W PySem.Calls PyProof.Rows PySem.HandSPX
/-! an error of one field, whose __init__ says super().__init__('..'); self.f = f -/
def xA (f g : Str) (p1 p2 p3 : Pos) : Arguments where
  posonlyargs := []
  args := [⟨"self", none, p1⟩, ⟨f, none, p2⟩, ⟨g, none, p3⟩]
  vararg := none
  kwonlyargs := []
  kw_defaults := []
  kwarg := none
  defaults := []
/-- the places of super().__init__ and of its call: in one line -/
abbrev qa3 : Pos := ⟨7, 8, 7, 24⟩
abbrev qa5 : Pos := ⟨7, 8, 7, 49⟩
def xB (f g m : Str) (a1 a2 a4 a6 b1 b2 b3 b4 e1 e2 e3 e4 : Pos) : List Stmt :=
  [.Expr (.Call (.Attribute (.Call (.Name "super" a1) [] [] a2) "__init__" qa3) [.Constant (.str m) 0 a4] [] qa5) a6,
   .Assign [.Attribute (.Name "self" b1) f b2] (.Name f b3) b4,
   .Assign [.Attribute (.Name "self" e1) g e2] (.Name g e3) e4]
def xS (f g : Str) : Scope where
  kind := .function
  names := [("self", .local), (f, .local), (g, .local), ("__class__", .free), ("super", .globalImplicit)]
  isGenerator := false
  isCoroutine := false
  more := []
/-- what the written part says of such a class, its name nm, its field f -/
structure XT (prog : Program) (K : Frag) (mg : Str → Option Value) (nm f g : Str) (C fI cc : Addr) : Prop where
  gC : mg nm = some (.ref C)
  gS : mg "super" = none
  cls : ∃ n2 q N bs bm sn sub ab col dd k0 k1 k2 k3 k5, K.lookup C = some (excClassObj n2 q C N bs bm true sn sub ab col dd k0 k1 k2 k3 k5 "ValueError.__new__") ∧ refsVE bm = true
  sa : findIn K (.ref C) "__setattr__" = some (some (.builtin "object.__setattr__"))
  ga : findIn K (.ref C) "__getattribute__" = some (some (.builtin "BaseException.__getattribute__"))
  gg : findIn K (.ref C) "__getattr__" = some none
  noF : findIn K (.ref C) f = some none
  noG : findIn K (.ref C) g = some none
  iC : findIn K (.ref C) "__init__" = some (some (.ref fI))
  tI : typeIn K (.ref fI) = some (.type "function")
  kC : keepIn K (.ref C) = true
  exC : subIn K (.ref C) (.type "BaseException") = some true
  veC : subIn K (.ref C) (.type "ValueError") = some true
  tyC : typeIn K (.ref C) = some (.type "type")
  hdC : hasDictIn K C = true
  mrC : mroIn K C (.ref C) = some true
  suC : ks_superIn K C C "__init__" = some (some (.builtin "ValueError.__init__"))
  opq : nsIn K cStatics "thirdparty.any" = some none
  top : (prog.main.scope.names.lookup ("super" : Str)).isSome = false
  fn : ∃ (oc : Value) (od : Option Addr) (doc pm ct : Value) (an : Option Addr) (osl : Array (Option Value)) (cda : Addr) (m q : Str) (p1 p2 p3 a1 a2 a4 a6 b1 b2 b3 b4 e1 e2 e3 e4 : Pos),
    K.lookup fI = some ⟨oc, od, .func (ksFn "__init__" q (xA f g p1 p2 p3) (xB f g m a1 a2 a4 a6 b1 b2 b3 b4 e1 e2 e3 e4) (xS f g) .none .none doc pm an (.ref cda) ct cc), osl⟩ ∧ codeIn K (.ref cda) q = true ∧
      ∃ ccl cdd vs ccs file tf, K.lookup cda = some ⟨ccl, cdd, .fields vs, ccs⟩ ∧ vs[2]? = some (.str file tf) ∧ ((prog.main.file : Str) == file) = true
  cell : ∃ cl cld csl, K.lookup cc = some ⟨cl, cld, .cell (some (.ref C)), csl⟩
/-- what __init__ leaves of a fresh exception at x -/
structure XEnd (f g : Str) (h h' : Heap) (x C dx : Addr) (v u : Value) : Prop where
  keep : ∀ b o, b ≠ x → h.get? b = some o → h'.get? b = some o
  obj : ∃ t1 : Addr, h'.get? x = some { cls := .ref C, dict := some dx, data := .fields #[.ref t1, .none, .none, .none, .bool false, .none] }
  dbig : h.objs.size ≤ dx
  dne : dx ≠ x
  ns : h'.Ns1 dx (fun y => if y = g then some u else if y = f then some v else none)
/-- the error made -/
structure XMade (f g : Str) (h h' : Heap) (e C d : Addr) (v u : Value) : Prop where
  keep : ∀ b o, h.get? b = some o → h'.get? b = some o
  new : h.objs.size ≤ e
  obj : ∃ oe vs, h'.get? e = some oe ∧ oe.cls = .ref C ∧ oe.dict = some d ∧ oe.data = .fields vs ∧ vs[1]? = some .none ∧ vs[2]? = some .none
  dbig : h.objs.size ≤ d
  dne : d ≠ e
  ns : h'.Ns1 d (fun y => if y = g then some u else if y = f then some v else none)
section
variable {prog : Program} {w : World} {A : Around} {E : Value → Shared → Prop} {R : Result → Shared → Prop} {s : Shared} {K : Frag} {mg : Str → Option Value} {C fI cc : Addr} {nm f f2 : Str}
/-- the wrapper of ValueError.__init__ bound to the exception x, called with some arguments -/
theorem x_bound {hh : Heap} {g : Array GenState} {d : Drawn} {tk : Nat} {os : OsState} {u x t0 : Addr} {rest : List Value} {Q : Value → Shared → Prop} (T : XT prog K mg nm f f2 C fI cc) (X : K.In hh) (hu : hh.get? u = some (kxs_mw "ValueError.__init__" x))
    (hx : hh.get? x = some (excO C t0)) (hz : rest.length ≤ sizeLine)
    (hq : ∀ h' t1, (∀ b o, b ≠ x → hh.get? b = some o → h'.get? b = some o) → h'.get? x = some (excO C t1) → Q .none ⟨h', g, d, tk, os⟩) :
    wpAny (model prog w) A (call (.ref u) rest) Q E ⟨hh, g, d, tk, os⟩ := by
  obtain ⟨n2, q, N, bs, bm, sn, sub, ab, col, dd, k0, k1, k2, k3, k5, hC, hbm⟩ := T.cls
  refine wpAny_call (codeAny_of_tree ?_)
  show wpAny _ A.in1 (callAny (.ref u) ⟨rest, []⟩) _ _ _
  unfold callAny
  refine wpAny_bind (wpAny_load hu ?_)
  have e1 : (Value.type "method-wrapper" == Value.type "method" || Value.type "method-wrapper" == Value.type "builtin_function_or_method" || Value.type "method-wrapper" == Value.type "method-wrapper") = true := by decide
  simp only [kxs_mw, e1, if_true]
  refine KFB.if_so (by decide) (wpAny_bind (check_bound_init F.excBase_ValueError.toExcCallFacts (X _ _ hC) hx rfl ?_))
  refine wpAny_bind (wpAny_pure (wpAny_pure ⟨plainId_quiet F.excBase_ValueError.init.plain _, codeAny_builtin F.excBase_ValueError.initEntry ?_⟩))
  exact exc_init_tree (cls := .ref C) (t0 := t0) (dv := none) (c2 := .none) (c3 := .none) (b4 := .bool false) hx hz fun h' k e1 _ => hq h' _ k e1
theorem x_init (T : XT prog K mg nm "place" "kind" C fI cc) {x t0 : Addr} {v u : Value} (X : K.In s.heap) (hlim : s.heap.NoLimit) (hG : s.heap.Ns mainGlobals mg) (hB : ∃ mb, s.heap.Ns builtinsNs mb ∧ ∀ y : Str, y ≠ "__name__" → mb y = bootBuiltins y)
    (hx : s.heap.get? x = some (excO C t0)) (hnx : K.lookup x = none) (hroom : A.depth < recursionLimit)
    (hq : ∀ h' tk dx, XEnd "place" "kind" s.heap h' x C dx v u → R (.ok (.ret .none)) { s with heap := h', toks := tk }) :
    codeAny (model prog w) A (.call (.ref fI) ⟨[.ref x, v, u], []⟩) R s := by
  obtain ⟨oc, od, doc, pm, ct, an, osl, cda, m, q, p1, p2, p3, a1, a2, a4, a6, b1, b2, b3, b4, e1, e2, e3, e4, ho, hcd, ccl, cdd, vs, ccs, file, tf, hcda, hvs, hfile⟩ := T.fn
  obtain ⟨cl, cld, csl, hcell⟩ := T.cell
  obtain ⟨n2, q2, N, bs, bm, sn, sub, ab, col, dd, k0, k1, k2, k3, k5, hC, hbm⟩ := T.cls
  have hcl : clsIn K C = some { name := n2, bases := bs, mro := .ref C :: bm, ns := N, qualname := q2, hasDict := true, slotNames := sn, subclasses := sub, abstract := ab, collection := col, hasDel := false } := by unfold clsIn; rw [hC] <;> rfl
  refine ks_codeAny_call_defAt (fd := ksFn "__init__" q (xA "place" "kind" p1 p2 p3) (xB "place" "kind" m a1 a2 a4 a6 b1 b2 b3 b4 e1 e2 e3 e4) (xS "place" "kind") .none .none doc pm an (.ref cda) ct cc) (body := xB "place" "kind" m a1 a2 a4 a6 b1 b2 b3 b4 e1 e2 e3 e4) (binds := [("self", .ref x), ("place", v), ("kind", u)])
    hroom (X _ _ ho) rfl hlim (codeRec_of X hcd) rfl (BindsTo.of_eq (by first | rfl | with_unfolding_all rfl)) ?c1 ?c2 (fun h₁ hn k => ?_) rfl rfl rfl
  case c1 =>
    intro y hy
    rcases hy with _ | ⟨_, _ | ⟨_, _ | ⟨_, _ | ⟨_, _ | ⟨_, hy⟩⟩⟩⟩⟩ <;> first | decide | (intro z; cases z) | (cases hy)
  case c2 =>
    intro y hy
    rcases hy with _ | ⟨_, _ | ⟨_, _ | ⟨_, hy⟩⟩⟩
    · rfl
    · rfl
    · rfl
    · cases hy
  have X₁ : K.In h₁ := X.keeps k
  have hx₁ := k _ _ hx
  have hLx : s.heap.objs.size ≠ x := Nat.ne_of_gt (Heap.lt_size hx)
  -- super().__init__(..)
  have hG₁ : h₁.Ns mainGlobals mg := hG.keeps k
  obtain ⟨mb, hB0, hmb⟩ := hB
  have hB₁ : h₁.Ns builtinsNs mb := hB0.keeps k
  obtain ⟨oD, hD1, hD2⟩ : ∃ oD, h₁.get? C = some oD ∧ ∃ cd, oD.data = .cls cd := ⟨_, X₁ _ _ hC, _, rfl⟩
  obtain ⟨cdD, hD2⟩ := hD2
  have hxC : x ≠ C := by
    intro z
    have y := X _ _ hC
    rw [← z, hx] at y
    cases y
  obtain ⟨g0, gs, dr, tk0, os0⟩ := s
  refine ks_wpAt_execs_cons (ks_wpAt_Expr_any (ks_wpAt_MethodCall ?_))
  refine ks_wpAt_super_base (f := fI) (cc := cda) (ar := ⟨"self", none, p1⟩) (vs := vs) rfl rfl rfl rfl (X₁ _ _ ho) rfl rfl rfl (X₁ _ _ hcda) rfl hvs hfile T.top ?_
  refine ks_loadName_global rfl rfl (loadGlobal_builtin hG₁ T.gS hB₁ ((hmb "super" (by decide)).trans PyProof.Rows.Boot.«super») ⟨rfl, ?_⟩)
  refine wpAny_loadName_free rfl rfl rfl ⟨_, X₁ _ _ hcell, rfl⟩ ?_
  refine wpAny_loadName_local rfl rfl hn rfl ?_
  refine ks_wpAny_isType_cls hD1 hD2 ⟨rfl, ?_⟩
  refine ks_wpAny_call_super hD1 hD2 hx₁ rfl (fun c e => by cases e) (looks_mroIn X₁ T.mrC) (fun h₂ hso k₂ => ?_)
  have X₂ : K.In h₂ := X₁.keeps k₂
  have hsu := T.suC
  unfold ks_superIn at hsu
  rw [hcl] at hsu
  have I₂ : InstAt h₂ x (excO C t0) C none := ⟨k₂ _ _ hx₁, rfl, rfl, trivial⟩
  refine kxs_getMethod kxs_ValueError hso (looks_opaque X₂ T.opq) (l₀ := .ref C :: bm) (fun A Q E s k q => wpAny_bind ((looks_clsIn X₂ hcl) A _ E s k (wpAny_pure q))) rfl X₂ hsu (I₂.type.andThen (looks_subIn X₂ T.veC)) hxC rfl ?_
  have hu : (h₂.push (kxs_mw "ValueError.__init__" x)).get? h₂.objs.size = some (kxs_mw "ValueError.__init__" x) := Heap.get?_push_at rfl rfl
  have k₃ : ∀ b o, h₂.get? b = some o → (h₂.push (kxs_mw "ValueError.__init__" x)).get? b = some o := fun b o e => Heap.get?_push_of_some _ e
  refine kxs_callWith (i := "ValueError.__init__") (x := x) rfl (evalArgs_plain ?_)
  refine Calls.spliced_cons (Calls.Constant_str (k := 0) (pos := a4) (Calls.spliced_nil ⟨hu, ?_⟩))
  refine x_bound T (X₂.keeps k₃) hu (k₃ _ _ (k₂ _ _ hx₁)) (by show 1 ≤ sizeLine; rw [sizeLine_eq]; decide) (fun h₄ t1 k₄ hx₄ => ?_)
  -- self.place = place
  have keep : ∀ b o, b ≠ x → g0.get? b = some o → h₄.get? b = some o := fun b o e z => k₄ b o e (k₃ _ _ (k₂ _ _ (k _ _ z)))
  have hn₄ : h₄.Ns g0.objs.size (fun y => [(("self" : Str), Value.ref x), ("place", v), ("kind", u)].reverse.lookup y) := hn.at fun o z => k₄ _ _ hLx (k₃ _ _ (k₂ _ _ z))
  have X₄ : K.In h₄ := fun a o z => keep a o (fun e => by rw [e, hnx] at z; cases z) (X a o z)
  refine ks_wpAt_execs_cons (ks_wpAt_Assign_Attr (wpAt_of_wpAny (ESX.ldL hn₄ (by first | rfl | with_unfolding_all rfl | kernel_rfl) (ESX.ldL hn₄ (by first | rfl | with_unfolding_all rfl | kernel_rfl) ?_))))
  refine set_plain X₄ (ox := excO C t1) (od := none) ⟨hx₄, rfl, rfl, trivial⟩ T.sa ?_
  refine exc_osa X₄ hx₄ hcl (show refsVE (.ref C :: bm) = true from hbm) rfl T.noF (fun h₅ tk₅ dx k₅ dn dne hx₅ hn₅ => ?_)
  -- self.kind = kind
  have keep5 : ∀ b o, b ≠ x → g0.get? b = some o → h₅.get? b = some o := fun b o e z => k₅ b o e (keep b o e z)
  have nLx : g0.objs.size ≠ x := hLx
  have hn₅' : h₅.Ns g0.objs.size (fun y => [(("self" : Str), Value.ref x), ("place", v), ("kind", u)].reverse.lookup y) := hn₄.at fun o z => k₅ _ _ hLx z
  have X₅ : K.In h₅ := fun a o z => keep5 a o (fun e => by rw [e, hnx] at z; cases z) (X a o z)
  obtain ⟨oD5, ho5, _⟩ := L2.lookIn_ns hn₅
  have dlt : g0.objs.size ≤ dx := Nat.le_trans (Nat.le_of_lt hn₄.lt) dn
  have dnL : dx ≠ g0.objs.size := Nat.ne_of_gt (Nat.lt_of_lt_of_le hn₄.lt dn)
  refine ks_wpAt_execs_cons (ks_wpAt_Assign_Attr (wpAt_of_wpAny (ESX.ldL hn₅' (by first | rfl | with_unfolding_all rfl | kernel_rfl) (ESX.ldL hn₅' (by first | rfl | with_unfolding_all rfl | kernel_rfl) ?_))))
  refine set_plain X₅ (ox := { cls := .ref C, dict := some dx, data := .fields #[.ref t1, .none, .none, .none, .bool false, .none] }) (od := some oD5) ⟨hx₅, rfl, rfl, ho5⟩ T.sa ?_
  have wiz : Within (fun y : Str => if y = ("place" : Str) then some v else none) [("place" : Str)] := Within.cons "place" v Within.nil
  refine PySem.OEX.osa_old X₅ hx₅ hn₅ wiz (by decide) hcl (show refsVE (.ref C :: bm) = true from hbm) rfl T.noG (fun h₆ tk₆ k₆ hn₆ => ?_)
  have dold : ∀ b o, b ≠ x → g0.get? b = some o → b ≠ dx := fun b o e z q => by
    have := Heap.lt_size z
    rw [q] at this
    exact absurd (Nat.lt_of_lt_of_le this dlt) (Nat.lt_irrefl _)
  refine wpAt_of_wpAny (wpAny_execs_nil (hq h₆ tk₆ dx ⟨fun b o e z => k₆ b o (dold b o e z) (keep5 b o e z), ⟨t1, k₆ _ _ (Ne.symm dne) hx₅⟩, dlt, dne, hn₆⟩))
theorem x_made (T : XT prog K mg nm "place" "kind" C fI cc) {v u : Value} (X : K.In s.heap) (hlim : s.heap.NoLimit) (hG : s.heap.Ns mainGlobals mg) (hB : ∃ mb, s.heap.Ns builtinsNs mb ∧ ∀ y : Str, y ≠ "__name__" → mb y = bootBuiltins y) (hroom : A.depth + 1 < recursionLimit)
    (hq : ∀ h' tk e d, XMade "place" "kind" s.heap h' e C d v u → R (.ok (.ret (.ref e))) { s with heap := h', toks := tk }) :
    codeAny (model prog w) A (.call (.ref C) ⟨[v, u], []⟩) R s := by
  obtain ⟨nm', q, N, bs, bm, sn, sub, ab, col, dd, k0, k1, k2, k3, k5, hC, hbm⟩ := T.cls
  obtain ⟨hp, g, dr, tk, os⟩ := s
  have k : ∀ b o, hp.get? b = some o → ((hp.push (kdv_tup [v, u])).push (excO C hp.objs.size)).get? b = some o := fun b o e => Heap.get?_push_of_some _ (Heap.get?_push_of_some _ e)
  have hget : ((hp.push (kdv_tup [v, u])).push (excO C hp.objs.size)).get? (hp.objs.size + 1) = some (excO C hp.objs.size) := by heap_get
  have hnx : K.lookup (hp.objs.size + 1) = none := by
    cases e : K.lookup (hp.objs.size + 1) with
    | none => rfl
    | some o =>
      have z : hp.get? (hp.objs.size + 1) = some o := X _ _ e
      exact absurd (Nat.lt_of_succ_lt (Heap.lt_size z)) (Nat.lt_irrefl _)
  obtain ⟨mb, hB1, hB2⟩ := hB
  refine call_own F.excBase_ValueError (fun X => refsVE_contains X bm hbm) (X _ _ hC) (looks_findIn X T.iC) (fun self => bind_fn X self T.tI) (by show 2 ≤ sizeLine; rw [sizeLine_eq]; decide) ?_
  refine x_init (s := ⟨(hp.push (kdv_tup [v, u])).push (excO C hp.objs.size), g, dr, tk, os⟩) T (X.keeps k) (hlim.keeps k) (hG.keeps k) ⟨mb, hB1.keeps k, hB2⟩ hget hnx (by show A.depth + 1 < recursionLimit; exact hroom) fun h' tk' dx ⟨k', hx, dn, dne, hns⟩ => ?_
  have old : ∀ b o, hp.get? b = some o → h'.get? b = some o := fun b o e => k' b o (Nat.ne_of_lt (Nat.lt_succ_of_lt (Heap.lt_size e))) (k b o e)
  have z : hp.objs.size + 1 + 1 ≤ dx := by
    have q := dn
    rw [Heap.size_push, Heap.size_push] at q
    exact q
  obtain ⟨t1, hx⟩ := hx
  exact ⟨rfl, hq h' tk' (hp.objs.size + 1) dx ⟨old, Nat.le_succ _, ⟨_, _, hx, rfl, rfl, rfl, rfl, rfl⟩, Nat.le_trans (Nat.le_trans (Nat.le_succ _) (Nat.le_succ _)) z, dne, hns⟩⟩
end
end KmX
namespace L2
open PySem PySem.Spec PyProof.Rows
theorem relO_fld2 {v u : V} {v' u' : Value} (r : RelV v v') (r2 : RelV u u') (f g y : Str) : RelO (List.lookup y [(g, u), (f, v)]) (if y = g then some u' else if y = f then some v' else none) := by
  by_cases hg : y = g
  · subst hg
    rw [if_pos rfl]
    have q : List.lookup y [(y, u), (f, v)] = some u := by simp [List.lookup]
    rw [q]
    exact r2
  · rw [if_neg hg]
    have qg : (y == g) = false := by simpa using hg
    by_cases hw : y = f
    · subst hw
      rw [if_pos rfl]
      have q : List.lookup y [(g, u), (y, v)] = some v := by simp [List.lookup, qg]
      rw [q]
      exact r
    · rw [if_neg hw]
      have qw : (y == f) = false := by simpa using hw
      have q2 : List.lookup y [(g, u), (f, v)] = none := by simp [List.lookup, qw, qg]
      rw [q2]
      trivial
abbrev xd2 (v u : V) : HO := .xd [(("kind" : Str), u), (("place" : Str), v)]
section
variable {X : Cx} {C fI cc : Addr} {nm : Str}
/-- BadText(e) -/
def tMkX (C : Addr) (ta : TA) : St → Hp → XK → Prop := fun σ H Q => ta σ H fun vs H1 => ∃ v u, vs = [v, u] ∧ ∀ d, H1 d = none → Q (.ref C) (some d) (upd H1 d (xd2 v u))
theorem pmk_x {a b : Expr} {ta : TA} {p pos : Pos} {k : Nat} (T : KmX.XT X.prog X.K X.mg nm "place" "kind" C fI cc) (hr : Room k X.A) (ha : PA X [a, b] ta) (hg : Gl X nm) (hd : (nm == ("__debug__" : Str)) = false := by decide)
    (he : starEach (a :: b :: []) X.env = (false, eval a X.env) :: starEach [b] X.env := by rfl) (hpl : (backTo pos (starEach [b] X.env)).any (·.1) = false := by rfl) :
    L2N.PMk X (.Call (.Name nm p) [a, b] [] pos) (tMkX C ta) := by
  intro pins s σ H Q I h
  refine wpAny_Call_Name_kw (ld_glob I hg T.gC ?_ hd)
  refine PySem.W.callWith_K (h₀ := X.base) I.ok.mod.kin T.kC (thn (ha.run pos pins s σ H _ I h) fun us s1 hh => ?_) he hpl
  obtain ⟨vs, H1, I1, r1, v, v2, ev, q1⟩ := hh
  subst ev
  refine ⟨I1.kIn, ?_⟩
  cases r1 with
  | cons rv rn =>
    rename_i v' us'
    cases rn with
    | cons rv2 rn2 =>
    rename_i v2' us2'
    cases rn2
    show wpAny _ _ (call (.ref C) [v', v2']) _ _ _
    have hlim := I1.nolimit
    have hG := I1.mod.glob.keeps I1.bk
    obtain ⟨mb, hB1, hB2⟩ := I1.mod.blt
    have hB : ∃ mb, s1.heap.Ns builtinsNs mb ∧ ∀ y : Str, y ≠ "__name__" → mb y = bootBuiltins y := ⟨mb, hB1.keeps I1.bk, hB2⟩
    obtain ⟨hp, g, dr, tk, os⟩ := s1
    refine wpAny_call (KmX.x_made T I1.kIn hlim hG hB (by have := hr.dp; omega) fun h' tk' e d M => ?_)
    show L2N.MkP X pins σ Q (.ref e) ⟨h', g, dr, tk', os⟩
    obtain ⟨oe, fv, hoe, hc, hd, hdat, h1, h2⟩ := M.obj
    have cn : PySem.PXN.CtxN oe := fun vs' e' => by
      rw [hdat] at e'
      injection e' with e''
      rw [← e'']
      exact h2
    have hns := M.ns
    obtain ⟨G', g1, g2⟩ := restrict h' fun b => decide (b ≠ e)
    have gk : ∀ b, b ≠ e → G'.get? b = h'.get? b := fun b hb => g1 b (decide_eq_true hb)
    have ge : G'.get? e = none := g2 e (by simp)
    have old : ∀ b o, hp.get? b = some o → G'.get? b = some o := fun b o q => (gk b (Nat.ne_of_lt (Nat.lt_of_lt_of_le (Heap.lt_size q) M.new))).trans (M.keep b o q)
    have ob : ObjOk X.prog X.w (upd H1 d (xd2 v v2)) G' d (xd2 v v2) :=
      ⟨_, hns.at (fun o q => (gk d M.dne).trans q), fun f => relO_fld2 rv rv2 "place" "kind" f⟩
    have J : Inv X pins σ (upd H1 d (xd2 v v2)) ⟨G', g, dr, tk', os⟩ := I1.laid (t' := tk') old M.dbig ob
    refine ⟨e, oe, fv, ⟨G', g, dr, tk', os⟩, _, .ref C, some d, rfl, J, fun b o q => ?_, ge, hoe, ⟨hc, hd, cn⟩, hdat, h1, ?_, rfl, I1.bare, raises_own T.exC T.tyC, q1 d (I1.hok.fresh M.dbig)⟩
    · by_cases hb : b = e
      · have q' : G'.get? b = some o := q
        rw [hb, ge] at q'; cases q'
      · exact (gk b hb).symm.trans q
    · rw [upd_ne (Ne.symm M.dne)]
      exact I1.hok.fresh M.new
/-- raise BadText(e) -/
def tRaiseX (C : Addr) (W : WX) (ta : TA) : TS := fun _ σ H => tMkX C ta σ H fun cls d H' => W cls d σ H'
theorem ps_raiseX {a b : Expr} {ta : TA} {W : WX} {p pos pos2 : Pos} {k : Nat} (hc : X.calm = true) (T : KmX.XT X.prog X.K X.mg nm "place" "kind" C fI cc) (hr : Room k X.A) (tk : L2N.Takes X W) (ha : PA X [a, b] ta) (hg : Gl X nm) (hd : (nm == ("__debug__" : Str)) = false := by decide)
    (he : starEach (a :: b :: []) X.env = (false, eval a X.env) :: starEach [b] X.env := by rfl) (hpl : (backTo pos (starEach [b] X.env)).any (·.1) = false := by rfl) :
    PS X (.Raise (some (.Call (.Name nm p) [a, b] [] pos)) none pos2) (tRaiseX C W ta) := L2N.ps_raise hc tk (pmk_x T hr ha hg hd he hpl)
/-- e.place or e.kind, e the exception that the suite holds (at a; its class cls, its dict d) -/
def tByX (C : Addr) (a : Addr) (cls : Value) (d : Option Addr) (f : Str) (te : TE) : TE := fun σ H Q => te σ H fun x H1 => x = .ref a ∧ cls = .ref C ∧ ∃ (dd : Addr) (v u : V) (y : V), d = some dd ∧ H1 dd = some (xd2 v u) ∧ List.lookup f [(("kind" : Str), u), (("place" : Str), v)] = some y ∧ Q y H1
theorem pe_byX {a : Addr} {oe : Obj} {cls : Value} {d : Option Addr} {f : Str} {pn : List (Addr × Obj)} {e : Expr} {te : TE} {pos : Pos} (T : KmX.XT X.prog X.K X.mg nm "place" "kind" C fI cc) (hno : PySem.W.findIn X.K (.ref C) f = some none) (hz : Zc cls d oe) (hf : ∃ vs, oe.data = .fields vs) (he : PE (X.suite a ((a, oe) :: pn)) e te)
    (hb : attributeBase e f X.env (eval e X.env) = eval e X.env := by rfl) :
    PE (X.suite a ((a, oe) :: pn)) (.Attribute e f pos) (tByX C a cls d f te) := by
  refine ⟨fun pins s σ H Q I h => ?_⟩
  refine attr_of hb (thn (he.run pins s σ H _ I h) fun u s1 hh => ?_)
  obtain ⟨x, H1, I1, rx, ex, ec, dd, v, w, y, ed, ea, el, q⟩ := hh
  subst ex
  obtain rfl : u = Value.ref a := rx
  subst ec
  subst ed
  obtain ⟨ha, _⟩ := I1.pin (a, oe) (List.mem_append_left _ List.mem_cons_self)
  obtain ⟨vs, hd⟩ := hf
  have hx : ObjOk X.prog X.w H1 s1.heap dd (xd2 v w) := I1.hok dd _ ea
  obtain ⟨mA, hns, hr⟩ := hx
  obtain ⟨od, ho, hl⟩ := lookIn_ns hns
  obtain ⟨u, hu, ru⟩ := RelO.some_of (v := y) (o := mA f) (by rw [← el]; exact hr f)
  have J : PySem.W.InstAt s1.heap a oe C (some od) := ⟨ha, hz.1, by unfold PySem.W.notCls; rw [hd] <;> rfl, by rw [hz.2]; exact ho⟩
  exact HandSPX.exc_get I1.kIn J T.ga T.gg T.exC (PySem.W.findObj_own T.hdC hno rfl (by rw [hl, hu])) (handed_of ru) ⟨y, H1, I1.tok _, ru, q⟩
end
section
variable {P : Program} {w : World} {K : PySem.W.Frag} {mg : Str → Option Value} {base : Heap}
theorem okXN {x qual : Str} {st : Stmt} {f : Addr} {fd : FuncData} {N ps : List Str} {k : Nat} {sp : Sp} (F : Fun K x qual st f fd) (S : FnScope N ps (defScope st)) (len : ∀ vs H Q E, sp vs H Q E → vs.length = ps.length)
    (hbody : ∀ (cdv : Value) (A : Around) (outer : List Env) (s : Shared) (H : Hp) (vs : List V) (Q : VK) (E : XK), Room k (A.deeper (envOfC qual (defScope st) s.heap.objs.size f cdv)) → sp vs H Q E →
      ∃ t, PSs (cxOf (L2N.CX P w) P w K mg base N qual (defScope st) f cdv A outer s H E) (defBody st) t ∧ t { nx := fun _ H' => Q .non H', rt := Q } (start N vs) H) : FnOk P w K mg base (L2N.CX P w) (k + 1) f fd ps sp := by
  obtain ⟨oc, od, kV, doc, pm, an, cdv, ct, osl, rfl, lk, hcd⟩ := F.ex
  exact fn_of lk hcd S len fun A outer s H vs Q E hr hsp => hbody cdv A outer s H vs Q E hr hsp
end
end L2
/-! KtR -/
set_option Elab.async false
set_option linter.all false
set_option maxRecDepth 100000
set_option maxHeartbeats 2000000
namespace Ns
open PySem PySem.Spec PyProof.Rows L2
theorem stp_in {ns : List Nd} {rd : List Pl} {pl : Pl} (h : stpF ns rd pl = none) : ∃ b, lkp ns pl = some b := by
  cases e : lkp ns pl with
  | none =>
    unfold stpF at h
    rw [if_pos e] at h
    cases h
  | some b => exact ⟨b, rfl⟩
theorem fault_in {ns : List Nd} : ∀ {ps rd : List Pl}, faultF ns rd ps = none → ∀ p ∈ ps, ∃ b, lkp ns p = some b
  | [], _, _, p, hp => nomatch hp
  | q :: ps, rd, h, p, hp => by
    cases hk : stpF ns rd q with
    | some k => rw [fault_at hk] at h; cases h
    | none =>
      rw [fault_go hk] at h
      rcases List.mem_cons.mp hp with e | e
      · rw [e]; exact stp_in hk
      · exact fault_in h p e
end Ns
namespace Km
open PySem PySem.Spec PyProof.Rows L2 Ns
abbrev sRoom : Stmt := top 13
def spRoom (K : PySem.W.Frag) (CP : Addr) : Sp := fun vs H Q E => ∃ (x : V) (o : Addr) (t : LT) (ps : List Pl), vs = [x, .ref o] ∧ LRep K H x t ∧ t.size ≤ 1000 ∧ RowP K H o ps ∧ ps.length ≤ 5000 ∧ (∀ p ∈ ps, p.length ≤ 1000) ∧
  (faultF (ndsOf [] t) [] ps = none → ∀ H', Same H H' → Q (.int (roomF (ndsOf [] t) 0 0 ps)) H') ∧ ∀ i k, faultF (ndsOf [] t) [] ps = some (i, k) → ∀ d H', Same H H' → H' d = some (xd2 (.int (i : Nat)) (.str k)) → E (.ref CP) (some d) H'
abbrev nRoom : List Str := ["paper", "order", "fault", "leaves", "held", "room", "place"]
theorem scRoom : FnScope nRoom ["paper", "order"] (defScope sRoom) := ⟨rfl, rfl, rfl, by decide +kernel, rfl, by decide +kernel, by decide +kernel⟩
section
variable {P : Program} {w : World} {K : PySem.W.Frag} {mg : Str → Option Value} {base : Heap} {f : Addr} {fd : FuncData} {CP fI cc : Addr}
theorem ok_room {fB fF : Addr} {fdB fdF : FuncData} (T2 : Blt2 mg) (T : KmX.XT P K mg "BadPaper" "place" "kind" CP fI cc) (F : Fun K "reading_room" "reading_room" sRoom f fd)
    (GB : FnOk P w K mg base CX0 2 fB fdB ["paper"] (spByPlace K)) (kB : PySem.W.keepIn K (.ref fB) = true) (bB : Binds K fdB ["paper"] []) (mB : mg "leaves_by_place" = some (.ref fB))
    (GF : FnOk P w K mg base CX0 3 fF fdF ["paper", "order"] (spReadF K)) (kF : PySem.W.keepIn K (.ref fF) = true) (bF : Binds K fdF ["paper", "order"] []) (mF : mg "reading_fault" = some (.ref fF)) :
    FnOk P w K mg base (L2N.CX P w) 4 f fd ["paper", "order"] (spRoom K CP) := by
  refine okXN F scRoom (fun vs H Q E h => ?_) (fun cdv A outer s H vs Q E hr h => ?_)
  · obtain ⟨x, o, t, ps, rfl, _⟩ := h
    rfl
  obtain ⟨x, o, t, ps, rfl, hT, hsz, hP, h5, hl, qn, qs⟩ := h
  have nd := scRoom.nd
  have hu : (A.deeper (envOfC "reading_room" (defScope sRoom) s.heap.objs.size f cdv)).units + 1 < cLine := Nat.lt_of_le_of_lt (by omega) hr.units
  refine ⟨_, pss_cons (ps_set (i := 2) nd rfl (Or.inl rfl) (pe_call GF hr rfl mF kF bF .nil pass0 (pa_cons (pv 0) (pa_cons (pv 1) pa_nil))))
    (pss_cons (ps_if (pt_cmp (pc_notN (pv 2))) (pss_one (ps_raiseX rfl T hr (L2N.takes_of rfl rfl rfl rfl) (pa_cons (pe_ix ix_tup (pv 2) pe_int (fun _ _ => rfl)) (pa_cons (pe_ix ix_tup (pv 2) pe_int (fun _ _ => rfl)) pa_nil)) rfl)) pss_nil)
    (pss_cons (ps_set (i := 3) nd rfl (Or.inl rfl) (pe_call GB (hr.mono (by decide)) rfl mB kB bB .nil pass0 (pa_cons (pv 0) pa_nil)))
    (pss_cons (ps_set (i := 4) nd rfl (Or.inl rfl) pe_int)
    (pss_cons (ps_set (i := 5) nd rfl (Or.inl rfl) pe_int)
    (pss_cons (ps_for (passes_of rfl) rfl (pi_tup (pv 1)) (pg_name (i := 6) nd rfl (Or.inl rfl))
      (pss_cons (ps_set (i := 4) nd rfl (Or.inl rfl) (pe_ifExp (pt_val (pe_dget hu (pv 3) (pv 6) (fun _ _ => rfl))) (pe_op op_add (pv 4) pe_int) (pe_op op_sub (pv 4) pe_int)))
      (pss_one (ps_set (i := 5) nd rfl (Or.inl rfl) (pe_callB (call_max2 rfl) rfl T2.mmax PyProof.Rows.boot_max (pa_cons (pv 5) (pa_cons (pv 4) pa_nil)))))))
    (pss_one (ps_ret (pv 5)))))))), ?_⟩
  refine ⟨_, rfl, _, rfl, x, o, t, ps, rfl, hT, hsz, hP, h5, hl, fun hn H1 s1 => ?_, fun i k hk a H1 s1 h1 => ?_⟩
  · refine ⟨_, rfl, _, rfl, iteF ?_⟩
    refine ⟨_, rfl, x, t, rfl, hT.same s1, hsz, fun L H2 s2 nL eL => ?_⟩
    have s12 := s1.trans s2
    obtain ⟨xs, hxs, eX⟩ := hP
    have lx := eX.len
    refine ⟨_, rfl, o, rfl, ⟨xs, sqT_same s12 hxs⟩, for_tup (K := K) (xs := xs) (fun i σ H3 => ∃ (y2 y6 : Option V) (h m : Int), σ = [some x, some (.ref o), y2, some (.ref L), some (.int h), some (.int m), y6] ∧ H3 = H2 ∧ roomF (ndsOf [] t) 0 0 ps = roomF (ndsOf [] t) h m (ps.drop i))
      ⟨_, none, 0, 0, rfl, rfl, rfl⟩ (fun i σ H3 _ ⟨_, _, _, _, _, e, _⟩ => by rw [e]; exact sqT_same s12 hxs) ?_ ?_⟩
    · rintro i y σ H3 hi ⟨y2, y6, h, m, rfl, rfl, hf⟩
      obtain ⟨pl, hp, hy⟩ := eX.at_ hi
      have hlt : i < ps.length := (List.getElem?_eq_some_iff.mp hp).1
      have cut : ps.drop i = pl :: ps.drop (i + 1) := by
        rw [List.drop_eq_getElem_cons hlt]
        have := List.getElem?_eq_getElem hlt
        rw [this] at hp
        rw [Option.some.inj hp]
      obtain ⟨b, hb⟩ := fault_in hn pl (List.mem_of_getElem? hp)
      obtain ⟨c, rfl, hc⟩ := hy.same s12
      have g := dget_N eL hc
      rw [hb] at g
      have hf2 : roomF (ndsOf [] t) 0 0 ps = roomF (ndsOf [] t) (if lkp (ndsOf [] t) pl = some true then h + 1 else h - 1) (max m (if lkp (ndsOf [] t) pl = some true then h + 1 else h - 1)) (ps.drop (i + 1)) := by rw [hf, cut]; rfl
      rw [hb] at hf2
      refine ⟨_, rfl, _, rfl, L, _, rfl, g, _, rfl, ?_⟩
      cases b with
      | true =>
        refine iteT ⟨_, rfl, _, _, rfl, rfl, ?_⟩
        refine ⟨_, rfl, _, rfl, _, _, rfl, ?_⟩
        rw [if_pos rfl] at hf2
        rw [show (if h + 1 > m then h + 1 else m) = max m (h + 1) by split <;> omega]
        exact ⟨_, _, _, _, rfl, rfl, hf2⟩
      | false =>
        refine iteF ⟨_, rfl, _, _, rfl, rfl, ?_⟩
        refine ⟨_, rfl, _, rfl, _, _, rfl, ?_⟩
        rw [if_neg (fun z => by cases z)] at hf2
        rw [show (if h - 1 > m then h - 1 else m) = max m (h - 1) by split <;> omega]
        exact ⟨_, _, _, _, rfl, rfl, hf2⟩
    · rintro σ H3 ⟨y2, y6, h, m, rfl, rfl, hf⟩
      rw [lx, List.drop_length] at hf
      have hf2 : roomF (ndsOf [] t) 0 0 ps = m := hf
      refine ⟨_, rfl, ?_⟩
      rw [← hf2]
      exact qn hn _ s12
  · refine ⟨_, rfl, _, rfl, iteT ?_⟩
    refine ⟨_, rfl, a, _, 0, _, rfl, rfl, SqT.of h1, atI_nat (j := 0) rfl, _, rfl, a, _, 1, _, rfl, rfl, SqT.of h1, atI_nat (j := 1) rfl, _, _, rfl, fun d hd => ?_⟩
    have s2 := same_new hd (xd2 (.int (i : Nat)) (.str k))
    exact qs i k hk d _ (s1.trans s2) upd_same
end
end Km
/-! KtB -/
set_option Elab.async false
set_option linter.all false
set_option maxRecDepth 100000
set_option maxHeartbeats 2000000
namespace Ns
open PySem PySem.Spec PyProof.Rows L2
def kvM (ns : List (Pl × Nat)) : KVs := ns.map fun p => (kk p.1, V.int (p.2 : Nat))
def lkM : List (Pl × Nat) → Pl → Option Nat
  | [], _ => none
  | p :: r, pl => if p.1 = pl then some p.2 else lkM r pl
theorem val_M (pl : Pl) : ∀ ns : List (Pl × Nat), valV (kvM ns) (kk pl) = (lkM ns pl).map fun z : Nat => V.int (z : Int)
  | [] => rfl
  | p :: r => by
    show valV ((kk p.1, V.int (p.2 : Nat)) :: kvM r) (kk pl) = Option.map _ (if p.1 = pl then some p.2 else lkM r pl)
    by_cases c : p.1 = pl
    · rw [if_pos c, valV_pos (p := (kk p.1, V.int (p.2 : Nat))) (congrArg kk c)]
      rfl
    · rw [if_neg c, valV_neg (p := (kk p.1, V.int (p.2 : Nat))) (fun e => c (kk_inj e)), val_M pl r]
theorem lkM_none {pl : Pl} : ∀ {ns : List (Pl × Nat)}, pl ∉ ns.map (·.1) → lkM ns pl = none
  | [], _ => rfl
  | p :: r, h => by
    show (if p.1 = pl then some p.2 else lkM r pl) = none
    rw [if_neg (fun e => h (by rw [List.map_cons, e]; exact List.mem_cons_self))]
    exact lkM_none (fun e => h (by rw [List.map_cons]; exact List.mem_cons_of_mem _ e))
theorem lkM_some {pl : Pl} {b : Nat} : ∀ {ns : List (Pl × Nat)}, (ns.map (·.1)).Nodup → (pl, b) ∈ ns → lkM ns pl = some b
  | p :: r, nd, h => by
    show (if p.1 = pl then some p.2 else lkM r pl) = some b
    rw [List.map_cons, List.nodup_cons] at nd
    rcases List.mem_cons.mp h with e | e
    · rw [← e, if_pos rfl]
    · rw [if_neg (fun c => nd.1 (by rw [c]; exact List.mem_map.mpr ⟨_, e, rfl⟩)), lkM_some nd.2 e]
theorem put_M {ns : List (Pl × Nat)} {pl : Pl} {b : Nat} (h : pl ∉ ns.map (·.1)) : putK (kvM ns) (kk pl) (V.int (b : Nat)) = kvM (ns ++ [(pl, b)]) := by
  rw [putK_new _ (by rw [val_M, lkM_none h]; rfl)]
  unfold kvM
  rw [List.map_append]
  rfl
theorem dget_M {H : Hp} {D b : Addr} {ns : List (Pl × Nat)} {pl : Pl} (e : H D = some (.dT (kvM ns))) (hb : H b = some (.tup (pl.map V.int))) : DGet H D (.ref b) ((lkM ns pl).map fun z : Nat => V.int (z : Int)) := by
  have g := DGet.t (k := kk pl) e (by rw [kk_map]; exact hb)
  rw [val_M] at g
  exact g
def nmsOf (t : LT) : List (Pl × Nat) := (post [] t).map fun p => (p.1, p.2.num)
theorem post_nd (t : LT) (pl : Pl) : ((post pl t).map (·.1)).Nodup := by
  have h := nds_nodup t pl
  rw [← post_nds, List.map_map] at h
  exact h
theorem post_root : ∀ (t : LT) (pl : Pl), (pl, t) ∈ post pl t
  | .wish _, _ => List.mem_singleton.mpr rfl
  | .frm _ _ _ _, _ => List.mem_append_right _ (List.mem_singleton.mpr rfl)
theorem split_at {α : Type} {L1 L2 A B : List α} {x : α} (h : L1 ++ L2 = A ++ x :: B) : (∃ B1, L1 = A ++ x :: B1) ∨ ∃ A2, A = L1 ++ A2 ∧ L2 = A2 ++ x :: B := by
  rcases List.append_eq_append_iff.mp h with ⟨as, h1, h2⟩ | ⟨bs, h1, h2⟩
  · exact .inr ⟨as, h1, h2⟩
  · cases bs with
    | nil => exact .inr ⟨[], by rw [h1]; simp, h2.symm⟩
    | cons y bs =>
      have e := List.cons.inj h2
      exact .inl ⟨bs, by rw [h1, e.1]⟩
theorem post_sides : ∀ (t : LT) (p0 : Pl) (A B : List Spot) (pl : Pl) (nm line : V) (l r : LT), post p0 t = A ++ (pl, .frm nm line l r) :: B → (pl ++ [0], l) ∈ A ∧ (pl ++ [1], r) ∈ A
  | .wish i, p0, A, B, pl, nm, line, l, r, h => by
    have h2 : [(p0, LT.wish i)] = A ++ (pl, .frm nm line l r) :: B := h
    cases A with
    | nil => cases (List.cons.inj h2).1
    | cons a A =>
      have := congrArg List.length h2
      simp at this
  | .frm n2 li2 l2 r2, p0, A, B, pl, nm, line, l, r, h => by
    have h2 : post (p0 ++ [0]) l2 ++ post (p0 ++ [1]) r2 ++ [(p0, LT.frm n2 li2 l2 r2)] = A ++ (pl, .frm nm line l r) :: B := h
    rcases split_at h2 with ⟨B1, e⟩ | ⟨A2, e, e2⟩
    · rcases split_at e with ⟨B2, e3⟩ | ⟨A3, e3, e4⟩
      · exact post_sides l2 _ A B2 pl nm line l r e3
      · have z := post_sides r2 _ A3 B1 pl nm line l r e4
        rw [e3]
        exact ⟨List.mem_append_right _ z.1, List.mem_append_right _ z.2⟩
    · cases A2 with
      | nil =>
        have e3 := (List.cons.inj e2).1
        injection e3 with e4 e5
        injection e5 with e6 e7 e8 e9
        subst e4 e8 e9
        rw [e]
        exact ⟨List.mem_append_left _ (List.mem_append_left _ (post_root _ _)), List.mem_append_left _ (List.mem_append_right _ (post_root _ _))⟩
      | cons a A2 =>
        have := congrArg List.length e2
        simp at this
theorem spot_sides {t : LT} {p0 pl : Pl} {nm line : V} {l r : LT} (h : (pl, LT.frm nm line l r) ∈ post p0 t) : (pl ++ [0], l) ∈ post p0 t ∧ (pl ++ [1], r) ∈ post p0 t := by
  obtain ⟨A, B, e⟩ := List.append_of_mem h
  have z := post_sides t p0 A B pl nm line l r e
  rw [e]
  exact ⟨List.mem_append_left _ z.1, List.mem_append_left _ z.2⟩
theorem post_pre (t : LT) (pl q : Pl) (h : q ∈ (post pl t).map (·.1)) : ∃ s : Pl, q = pl ++ s := by
  refine nds_pre t pl q ?_
  rw [← post_nds, List.map_map]
  exact h
theorem spot_leaf : ∀ (t : LT) (p0 pl : Pl) (i : V), (pl, LT.wish i) ∈ post p0 t → pl ++ [0] ∉ (post p0 t).map (·.1)
  | .wish j, p0, pl, i, h, c => by
    have e := List.mem_singleton.mp h
    have e2 : pl ++ [0] = p0 := List.mem_singleton.mp c
    injection e with e3 _
    rw [e3] at e2
    exact snoc_ne e2
  | .frm nm line l r, p0, pl, i, h, c => by
    have h2 : (pl, LT.wish i) ∈ post (p0 ++ [0]) l ++ post (p0 ++ [1]) r ++ [(p0, LT.frm nm line l r)] := h
    have c2 : pl ++ [0] ∈ (post (p0 ++ [0]) l ++ post (p0 ++ [1]) r ++ [(p0, LT.frm nm line l r)]).map (·.1) := c
    rw [List.map_append, List.map_append] at c2
    have key : ∀ (a b : Int) (u v : LT), a ≠ b → (pl, LT.wish i) ∈ post (p0 ++ [a]) u → pl ++ [0] ∈ (post (p0 ++ [b]) v).map (·.1) → False := fun a b u v hab h1 h3 => by
      obtain ⟨s1, e1⟩ := post_pre u _ pl (List.mem_map.mpr ⟨_, h1, rfl⟩)
      obtain ⟨s2, e2⟩ := post_pre v _ _ h3
      rw [e1, List.append_assoc (p0 ++ [a])] at e2
      exact pl_ne hab e2
    have top : ∀ (a : Int) (u : LT), (pl, LT.wish i) ∈ post (p0 ++ [a]) u → pl ++ [0] ≠ p0 := fun a u h1 e => by
      obtain ⟨s1, e1⟩ := post_pre u _ pl (List.mem_map.mpr ⟨_, h1, rfl⟩)
      rw [e1, List.append_assoc (p0 ++ [a])] at e
      exact pl_up e
    rcases List.mem_append.mp h2 with h2 | h2
    · rcases List.mem_append.mp h2 with h2 | h2
      · rcases List.mem_append.mp c2 with c2 | c2
        · rcases List.mem_append.mp c2 with c2 | c2
          · exact spot_leaf l _ pl i h2 c2
          · exact key 0 1 l r (by decide) h2 c2
        · exact top 0 l h2 (List.mem_singleton.mp c2)
      · rcases List.mem_append.mp c2 with c2 | c2
        · rcases List.mem_append.mp c2 with c2 | c2
          · exact key 1 0 r l (by decide) h2 c2
          · exact spot_leaf r _ pl i h2 c2
        · exact top 1 r h2 (List.mem_singleton.mp c2)
    · cases List.mem_singleton.mp h2
theorem post_low : ∀ (t : LT) (pl : Pl) (p : Spot), p ∈ post pl t → p.1.length + 1 ≤ pl.length + t.high
  | .wish i, pl, p, h => by
    rw [List.mem_singleton.mp h]
    exact Nat.le_refl _
  | .frm nm line l r, pl, p, h => by
    have e : (LT.frm nm line l r).high = max l.high r.high + 1 := rfl
    have g1 := Nat.le_max_left l.high r.high
    have g2 := Nat.le_max_right l.high r.high
    rcases List.mem_append.mp h with h | h
    · rcases List.mem_append.mp h with h | h
      · have := post_low l _ p h
        rw [List.length_append, List.length_singleton] at this
        omega
      · have := post_low r _ p h
        rw [List.length_append, List.length_singleton] at this
        omega
    · rw [List.mem_singleton.mp h, e]
      show pl.length + 1 ≤ _
      omega
theorem hp_low (t : LT) (h : t.high ≤ 100) : ∀ p ∈ post [] t, p.1.length ≤ 1000 := fun p hp => by
  have := post_low t [] p hp
  rw [List.length_nil] at this
  omega
/-- the tuples stay -/
def TupS (H H1 : Hp) : Prop := ∀ b ys, H b = some (.tup ys) → H1 b = some (.tup ys)
theorem TupS.upd {H : Hp} {D : Addr} {o u : HO} (e : H D = some o) (ho : ∀ ys, o ≠ .tup ys) : TupS H (upd H D u) := fun b ys h => by
  rw [upd_ne (fun z => by rw [z, e] at h; exact ho ys (Option.some.inj h))]
  exact h
theorem LRep.tu {K : PySem.W.Frag} {H H1 : Hp} (e : TupS H H1) : ∀ {t : LT} {x : V}, LRep K H x t → LRep K H1 x t
  | .wish i, x, ⟨a, h1, h2⟩ => ⟨a, h1, e _ _ h2⟩
  | .frm nm line l r, x, ⟨a, vl, vr, h1, h2, h4, h5⟩ => ⟨a, vl, vr, h1, e _ _ h2, h4.tu e, h5.tu e⟩
theorem Items.tu {K : PySem.W.Frag} {H H1 : Hp} (e : TupS H H1) {xs : List V} {ps : List Spot} (h : Items K H xs ps) : Items K H1 xs ps := ⟨h.1, fun i x p a b => by
  obtain ⟨c, d, vx, h1, h2, h3, h4⟩ := h.2 i x p a b
  exact ⟨c, d, vx, h1, e _ _ h2, e _ _ h3, h4.tu e⟩⟩
theorem PlH.tu {H H1 : Hp} {x : V} {pl : Pl} (e : TupS H H1) (h : PlH H x pl) : PlH H1 x pl := by
  obtain ⟨b, h1, h2⟩ := h
  exact ⟨b, h1, e _ _ h2⟩
theorem PlsH.tu {H H1 : Hp} (e : TupS H H1) : ∀ {xs : List V} {ps : List Pl}, PlsH H xs ps → PlsH H1 xs ps
  | [], [], _ => trivial
  | [], _ :: _, z => z.elim
  | _ :: _, [], z => z.elim
  | _ :: _, _ :: _, z => ⟨z.1.tu e, PlsH.tu e z.2⟩
end Ns
namespace Km
open PySem PySem.Spec PyProof.Rows L2 Ns
abbrev sByNum : Stmt := top 15
def spByNum (K : PySem.W.Frag) : Sp := fun vs H Q _ => ∃ (x : V) (t : LT), vs = [x] ∧ LRep K H x t ∧ t.size ≤ 1000 ∧ t.high ≤ 100 ∧ ∀ o H', Same H H' → H o = none → H' o = some (.dT (kvM (nmsOf t))) → Q (.ref o) H'
theorem scByNum : FnScope ["paper", "numbers", "place", "node"] ["paper"] (defScope sByNum) := ⟨rfl, rfl, rfl, by decide +kernel, rfl, by decide +kernel, by decide +kernel⟩
section
variable {P : Program} {w : World} {K : PySem.W.Frag} {mg : Str → Option Value} {base : Heap} {f : Addr} {fd : FuncData}
theorem ok_byNum {fU fJ : Addr} {fdU fdJ : FuncData} (F : Fun K "branching_by_place" "branching_by_place" sByNum f fd)
    (GU : FnOk P w K mg base CX0 1 fU fdU ["paper"] (spUp K)) (kU : PySem.W.keepIn K (.ref fU) = true) (bU : Binds K fdU ["paper"] []) (mU : mg "nodes_upwards" = some (.ref fU))
    (GJ : FnOk P w K mg base CX0 1 fJ fdJ ["first", "second"] spJoin) (kJ : PySem.W.keepIn K (.ref fJ) = true) (bJ : Binds K fdJ ["first", "second"] []) (mJ : mg "joined_points" = some (.ref fJ)) :
    FnOk P w K mg base CX0 2 f fd ["paper"] (spByNum K) := by
  refine F.ok scByNum (fun vs H Q E h => ?_) (fun cdv A outer s H vs Q E hr h => ?_)
  · obtain ⟨x, t, rfl, _⟩ := h
    rfl
  obtain ⟨x, t, rfl, hT, hsz, hhi, q⟩ := h
  have nd := scByNum.nd
  have hu : (A.deeper (envOfC "branching_by_place" (defScope sByNum) s.heap.objs.size f cdv)).units + 1 < cLine := Nat.lt_of_le_of_lt (by omega) hr.units
  refine ⟨_, pss_cons (ps_set (i := 1) nd rfl (Or.inl rfl) pe_dnewT)
    (pss_cons (ps_for PassesOwn.never rfl (pi_list (pe_call GU hr rfl mU kU bU .nil pass0 (pa_cons (pv 0) pa_nil))) (pg_tup rfl (pgs_cons (pg_name (i := 2) nd rfl (Or.inl rfl)) (pgs_cons (pg_name (i := 3) nd rfl (Or.inl rfl)) pgs_nil)))
      (pss_one (ps_if (pt_cmpR op_eq (pe_ix ix_tup (pv 3) pe_int (fun _ _ => rfl)) pe_str (nomark _))
        (pss_one (ps_dput hu (pv 1) (pv 2) pe_int rfl))
        (pss_one (ps_dput hu (pv 1) (pv 2) (pe_call GJ hr rfl mJ kJ bJ .nil pass0 (pa_cons (pe_dget hu (pv 1) (pe_op op_catA (pv 2) (pe_tup (pa_cons pe_int pa_nil))) (fun _ _ => rfl)) (pa_cons (pe_dget hu (pv 1) (pe_op op_catA (pv 2) (pe_tup (pa_cons pe_int pa_nil))) (fun _ _ => rfl)) pa_nil))) rfl)))))
    (pss_one (ps_ret (pv 1)))), ?_⟩
  refine fun D hD => ?_
  have s0 := same_new hD (.dT [])
  refine ⟨_, rfl, x, t, rfl, hT.same s0, hsz, fun o H1 xs s1 eo iX => ?_⟩
  have ln : xs.length = (post [] t).length := iX.1
  have pn := preR_len t []
  have ls : (post [] t).length = t.size := by rw [← preR_rev, List.length_reverse, pn]
  have ndp := post_nd t []
  have low : ∀ p ∈ post [] t, p.1.length ≤ 1000 := hp_low t hhi
  refine ⟨o, rfl, ⟨xs, .inl (.inl eo)⟩, for_list (K := K) (xs := xs) (fun i σ H2 => ∃ (y2 y3 : Option V), σ = [some x, some (.ref D), y2, y3] ∧ Same H H2 ∧ H2 o = some (.lst xs) ∧ Items K H2 xs (post [] t) ∧ H2 D = some (.dT (kvM ((nmsOf t).take i))))
    ⟨none, none, rfl, s0.trans s1, eo, iX, s1 _ _ upd_same⟩ (fun i σ H2 _ ⟨_, _, _, _, e, _⟩ => .inl (.inl e)) ?_ ?_⟩
  · rintro i y σ H2 hi ⟨y2, y3, rfl, sm, eo2, iX2, eD2⟩
    have hlt : i < (post [] t).length := by rw [← ln]; exact (List.getElem?_eq_some_iff.mp hi).1
    have hp : (post [] t)[i]? = some (post [] t)[i] := List.getElem?_eq_getElem hlt
    have cut : post [] t = (post [] t).take i ++ (post [] t)[i] :: (post [] t).drop (i + 1) := by
      rw [← List.drop_eq_getElem_cons hlt, List.take_append_drop]
    have hlow := low _ (List.getElem_mem hlt)
    generalize (post [] t)[i] = p at hp cut hlow
    have hq : (nmsOf t)[i]? = some (p.1, p.2.num) := by unfold nmsOf; rw [List.getElem?_map, hp]; rfl
    have tk : (nmsOf t).take (i + 1) = (nmsOf t).take i ++ [(p.1, p.2.num)] := by rw [List.take_succ, hq]; rfl
    have nd2 : ((nmsOf t).map (·.1)).Nodup := by unfold nmsOf; rw [List.map_map]; exact ndp
    have ndt : ∀ j, (((nmsOf t).take j).map (·.1)).Nodup := fun j => nd2.sublist ((List.take_sublist _ _).map _)
    have new : p.1 ∉ ((nmsOf t).take i).map (·.1) := by
      have z := ndt (i + 1)
      rw [tk, List.map_append] at z
      exact fun e => (List.nodup_append.mp z).2.2 _ e _ (List.mem_singleton.mpr rfl) rfl
    obtain ⟨a, c, vx, rfl, ha, hc, hv⟩ := iX2.2 i y p hi hp
    have llen : (kvM ((nmsOf t).take i)).length < sizeLine := Nat.lt_of_le_of_lt (show (kvM ((nmsOf t).take i)).length ≤ 1000 by
      unfold kvM nmsOf
      rw [List.length_map, List.length_take, List.length_map]
      omega) (by decide)
    have done : ∀ {H3 : Hp} (v : Nat), v = p.2.num → Same H2 H3 → ∃ (a0 : Addr) (H4 : Hp), V.ref D = .ref a0 ∧ DPut H3 a0 (.ref c) (V.int (v : Nat)) H4 ∧ ∃ (y2 y3 : Option V), ([some x, some (V.ref D), some (V.ref c), some vx] : L2.St) = [some x, some (.ref D), y2, y3] ∧ Same H H4 ∧ H4 o = some (.lst xs) ∧ Items K H4 xs (post [] t) ∧ H4 D = some (.dT (kvM ((nmsOf t).take (i + 1)))) := by
      intro H3 v ev s23
      have eD3 := s23 _ _ eD2
      refine ⟨D, _, rfl, DPut.t (k := kk p.1) eD3 (by rw [kk_map]; exact s23 _ _ hc) llen, _, _, rfl, fun z u e => ?_, ?_, ?_, ?_⟩
      · rw [upd_ne (ne_of_none e hD)]
        exact sm.trans s23 _ _ e
      · rw [upd_ne (fun z => by rw [z, eD2] at eo2; cases eo2)]
        exact s23 _ _ eo2
      · exact (iX2.same s23).tu (TupS.upd eD3 fun ys z => nomatch z)
      · rw [upd_same, put_M new, tk, ev]
    refine ⟨a, _, rfl, SqT.of ha, rfl, _, _, rfl, _, _, rfl, rfl, ?_⟩
    obtain ⟨pl, nod⟩ := p
    cases nod with
    | wish i2 =>
      obtain ⟨d, rfl, hd⟩ := hv
      refine ⟨_, rfl, d, _, 0, _, rfl, rfl, SqT.of hd, atI_nat (j := 0) rfl, rfl, _, rfl, iteD rfl ?_⟩
      exact ⟨_, rfl, _, rfl, done 0 rfl (Same.refl _)⟩
    | frm nm line l r =>
      obtain ⟨d, vl, vr, rfl, hd, _, _⟩ := hv
      have sd := post_sides t [] _ _ pl nm line l r cut
      have look : ∀ (q : Pl) (u : LT), (q, u) ∈ (post [] t).take i → lkM ((nmsOf t).take i) q = some u.num := fun q u hm => by
        refine lkM_some (ndt i) ?_
        unfold nmsOf
        rw [← List.map_take]
        exact List.mem_map.mpr ⟨_, hm, rfl⟩
      refine ⟨_, rfl, d, _, 0, _, rfl, rfl, SqT.of hd, atI_nat (j := 0) rfl, rfl, _, rfl, iteND wf_ne ?_⟩
      refine ⟨_, rfl, _, rfl, by show 1 ≤ sizeLine; decide, fun t1 ht1 => ?_⟩
      have e1 := same_new ht1 (.tup [V.int 0])
      refine place_snoc (e1 _ _ hc) upd_same hlow fun p1 H3 s3 h3 => ?_
      have s13 := e1.trans s3
      have g1 := dget_M (s13 _ _ eD2) h3
      rw [look _ _ sd.1] at g1
      refine ⟨D, _, rfl, g1, ?_⟩
      refine ⟨_, rfl, _, rfl, by show 1 ≤ sizeLine; decide, fun t2 ht2 => ?_⟩
      have e2 := same_new ht2 (.tup [V.int 1])
      have s14 := s13.trans e2
      refine place_snoc (s14 _ _ hc) upd_same hlow fun p2 H4 s4 h4 => ?_
      have s15 := s14.trans s4
      have g2 := dget_M (s15 _ _ eD2) h4
      rw [look _ _ sd.2] at g2
      refine ⟨D, _, rfl, g2, l.num, r.num, rfl, ?_⟩
      exact ⟨_, rfl, _, rfl, done _ rfl s15⟩
  · rintro σ H2 ⟨y2, y3, rfl, sm, eo2, iX2, eD2⟩
    have e : (nmsOf t).length = xs.length := by unfold nmsOf; rw [List.length_map, ln]
    rw [← e, List.take_length] at eD2
    exact ⟨_, rfl, q D H2 sm hD eD2⟩
end
end Km
/-! KtV -/
set_option Elab.async false
set_option linter.all false
set_option maxRecDepth 100000
set_option maxHeartbeats 2000000
namespace Ns
open PySem PySem.Spec PyProof.Rows L2
/-- root, then the side that is read last, then the other -/
def bpre : Pl → LT → List Pl
  | pl, .wish _ => [pl]
  | pl, .frm _ _ l r => if r.num ≤ l.num then pl :: (bpre (pl ++ [1]) r ++ bpre (pl ++ [0]) l) else pl :: (bpre (pl ++ [0]) l ++ bpre (pl ++ [1]) r)
theorem bpre_len : ∀ (t : LT) (pl : Pl), (bpre pl t).length = t.size
  | .wish _, _ => rfl
  | .frm nm line l r, pl => by
    have h1 := bpre_len l (pl ++ [0])
    have h2 := bpre_len r (pl ++ [1])
    show (if r.num ≤ l.num then pl :: (bpre (pl ++ [1]) r ++ bpre (pl ++ [0]) l) else pl :: (bpre (pl ++ [0]) l ++ bpre (pl ++ [1]) r)).length = l.size + r.size + 1
    split <;> (rw [List.length_cons, List.length_append]; omega)
def bpres : List Spot → List Pl
  | [] => []
  | p :: ss => bpres ss ++ bpre p.1 p.2
theorem bpres_snoc : ∀ (ss : List Spot) (p : Spot), bpres (ss ++ [p]) = bpre p.1 p.2 ++ bpres ss
  | [], p => by simp [bpres]
  | q :: ss, p => by
    show bpres (ss ++ [p]) ++ bpre q.1 q.2 = bpre p.1 p.2 ++ (bpres ss ++ bpre q.1 q.2)
    rw [bpres_snoc ss p, List.append_assoc]
theorem bpres_le : ∀ ss : List Spot, ss.length ≤ (bpres ss).length
  | [] => Nat.le_refl _
  | z :: r => by
    have ih := bpres_le r
    have h1 : 1 ≤ z.2.size := by cases z.2 <;> simp only [LT.size] <;> omega
    show r.length + 1 ≤ (bpres r ++ bpre z.1 z.2).length
    rw [List.length_append, bpre_len]
    omega
theorem PlsH.last {H : Hp} : ∀ {xs : List V} {ps : List Pl} {p : Pl}, PlsH H xs (ps ++ [p]) → ∃ y, xs[xs.length - 1]? = some y ∧ PlH H y p ∧ PlsH H xs.dropLast ps
  | [], [], p, h => h.elim
  | [], _ :: _, p, h => h.elim
  | [x], [], p, h => ⟨x, rfl, h.1, trivial⟩
  | x :: y :: xs, [], p, h => h.2.elim
  | [x], q :: ps, p, h => by
    have z : ([] : List V).length = (ps ++ [p]).length := PlsH.len h.2
    simp at z
  | x :: y :: xs, q :: ps, p, h => by
    obtain ⟨u, h1, h2, h3⟩ := PlsH.last (xs := y :: xs) (ps := ps) (p := p) h.2
    refine ⟨u, ?_, h2, h.1, h3⟩
    have e : (x :: y :: xs).length - 1 = ((y :: xs).length - 1) + 1 := by simp
    rw [e, List.getElem?_cons_succ]
    exact h1
theorem PlsH.rev {H : Hp} : ∀ {xs : List V} {ps : List Pl}, PlsH H xs ps → PlsH H xs.reverse ps.reverse
  | [], [], _ => trivial
  | [], _ :: _, z => z.elim
  | _ :: _, [], z => z.elim
  | x :: xs, p :: ps, z => by
    rw [List.reverse_cons, List.reverse_cons]
    exact PlsH.app (PlsH.rev z.2) ⟨z.1, trivial⟩
theorem Same.tu {H H1 : Hp} (e : Same H H1) : TupS H H1 := fun b ys h => e _ _ h
theorem look_M {t : LT} {q : Pl} {u : LT} (h : (q, u) ∈ post [] t) : lkM (nmsOf t) q = some u.num := by
  refine lkM_some ?_ ?_
  · unfold nmsOf
    rw [List.map_map]
    exact post_nd t []
  · unfold nmsOf
    exact List.mem_map.mpr ⟨_, h, rfl⟩
theorem look_no {t : LT} {q : Pl} (h : q ∉ (post [] t).map (·.1)) : lkM (nmsOf t) q = none := by
  refine lkM_none ?_
  unfold nmsOf
  rw [List.map_map]
  exact h
end Ns
namespace Km
open PySem PySem.Spec PyProof.Rows L2 Ns
abbrev sBest : Stmt := top 14
def spBest (K : PySem.W.Frag) : Sp := fun vs H Q _ => ∃ (x : V) (t : LT), vs = [x] ∧ LRep K H x t ∧ t.size ≤ 1000 ∧ t.high ≤ 100 ∧ ∀ o H', Same H H' → H o = none → (∃ xs, H' o = some (.tup xs) ∧ PlsH H' xs (bpre [] t).reverse) → Q (.ref o) H'
theorem scBest : FnScope ["paper", "numbers", "found", "nodes", "place", "sides", "first"] ["paper"] (defScope sBest) := ⟨rfl, rfl, rfl, by decide +kernel, rfl, by decide +kernel, by decide +kernel⟩
section
variable {P : Program} {w : World} {K : PySem.W.Frag} {mg : Str → Option Value} {base : Heap} {f : Addr} {fd : FuncData}
theorem ok_best {fN : Addr} {fdN : FuncData} (T2 : Blt2 mg) (F : Fun K "best_reading" "best_reading" sBest f fd)
    (GN : FnOk P w K mg base CX0 2 fN fdN ["paper"] (spByNum K)) (kN : PySem.W.keepIn K (.ref fN) = true) (bN : Binds K fdN ["paper"] []) (mN : mg "branching_by_place" = some (.ref fN)) :
    FnOk P w K mg base CX0 3 f fd ["paper"] (spBest K) := by
  refine F.ok scBest (fun vs H Q E h => ?_) (fun cdv A outer s H vs Q E hr h => ?_)
  · obtain ⟨x, t, rfl, _⟩ := h
    rfl
  obtain ⟨x, t, rfl, hT, hsz, hhi, q⟩ := h
  have nd := scBest.nd
  have hu : (A.deeper (envOfC "best_reading" (defScope sBest) s.heap.objs.size f cdv)).units + 1 < cLine := Nat.lt_of_le_of_lt (by omega) hr.units
  refine ⟨_, pss_cons (ps_set (i := 1) nd rfl (Or.inl rfl) (pe_call GN hr rfl mN kN bN .nil pass0 (pa_cons (pv 0) pa_nil)))
    (pss_cons (ps_set (i := 2) nd rfl (Or.inl rfl) (pe_lst pa_nil))
    (pss_cons (ps_set (i := 3) nd rfl (Or.inl rfl) (pe_lst (pa_cons (pe_tup pa_nil) pa_nil)))
    (pss_cons (ps_while PassesOwn.never (pt_truth (pv 3) (fun _ => rfl))
      (pss_cons (ps_set (i := 4) nd rfl (Or.inl rfl) (pe_bm0 PySem.F.plainAttrs_list PySem.F.slot_list_pop PySem.F.type_list_pop mt_pop (pv 3)))
      (pss_cons (ps_expr (pe_bm PySem.F.plainAttrs_list PySem.F.slot_list_append PySem.F.type_list_append mt_append (pv 2) (pa_cons (pv 4) pa_nil)))
      (pss_cons (ps_set (i := 5) nd rfl (Or.inl rfl) (pe_lst (pa_cons (pe_op op_catA (pv 4) (pe_tup (pa_cons pe_int pa_nil))) (pa_cons (pe_op op_catA (pv 4) (pe_tup (pa_cons pe_int pa_nil))) pa_nil))))
      (pss_one (ps_if (pt_cmp (pc_din hu (pe_ix ix_list (pv 5) pe_int (fun _ _ => rfl)) (pv 1)))
        (pss_cons (ps_set (i := 6) nd rfl (Or.inl rfl) (pe_ifExp (pt_cmpR op_ge (pe_dget hu (pv 1) (pe_ix ix_list (pv 5) pe_int (fun _ _ => rfl)) (fun _ _ => rfl)) (pe_dget hu (pv 1) (pe_ix ix_list (pv 5) pe_int (fun _ _ => rfl)) (fun _ _ => rfl)) (nomark _)) pe_int pe_int))
        (pss_cons (ps_expr (pe_bm PySem.F.plainAttrs_list PySem.F.slot_list_append PySem.F.type_list_append mt_append (pv 3) (pa_cons (pe_ix ix_list (pv 5) (pv 6) (fun _ _ => rfl)) pa_nil)))
        (pss_one (ps_expr (pe_bm PySem.F.plainAttrs_list PySem.F.slot_list_append PySem.F.type_list_append mt_append (pv 3) (pa_cons (pe_ix ix_list (pv 5) (pe_op op_sub pe_int (pv 6)) (fun _ _ => rfl)) pa_nil))))))
        pss_nil))))))
    (pss_one (ps_ret (pe_tupleOf rfl T2.mtup (pe_revL (pv 2)))))))), ?_⟩
  refine ⟨_, rfl, x, t, rfl, hT, hsz, hhi, fun D H1 s1 nD eD => ?_⟩
  refine ⟨Nat.zero_le _, fun fo hfo => ?_⟩
  have s2 := same_new hfo (.lst [])
  refine ⟨Nat.zero_le _, fun t0 ht0 => ?_⟩
  have s3 := same_new ht0 (.tup [])
  refine ⟨by show 1 ≤ sizeLine; decide, fun so hso => ?_⟩
  have s4 := same_new hso (.lst [.ref t0])
  have sm0 := s1.trans (s2.trans (s3.trans s4))
  have fresh : ∀ {b : Addr} {Ha : Hp}, Same H Ha → Ha b = none → H b = none := fun {b Ha} sm hb => by
    cases e : H b with
    | none => rfl
    | some u => have z := sm b u e; rw [hb] at z; cases z
  have nF : H fo = none := fresh s1 hfo
  have nS : H so = none := fresh (s1.trans (s2.trans s3)) hso
  have eF0 : (upd (upd (upd H1 fo (.lst [])) t0 (.tup [])) so (.lst [.ref t0])) fo = some (.lst []) := s4 _ _ (s3 _ _ upd_same)
  have nfs : fo ≠ so := fun z => by
    have e1 : (upd (upd H1 fo (.lst [])) t0 (.tup [])) fo = some (.lst []) := s3 _ _ upd_same
    rw [← z] at hso
    rw [hso] at e1
    cases e1
  refine ⟨fun μ σ H' => ∃ (ss : List Spot) (fs : List Pl) (xs ys : List V) (y4 y5 y6 : Option V), σ = [some x, some (.ref D), some (.ref fo), some (.ref so), y4, y5, y6] ∧ H' fo = some (.lst xs) ∧ H' so = some (.lst ys) ∧ PlsH H' xs fs ∧ PlsH H' ys (ss.map (·.1)) ∧ Same H H' ∧ H' D = some (.dT (kvM (nmsOf t))) ∧ fs ++ bpres ss = bpre [] t ∧ (∀ p ∈ ss, p ∈ post [] t) ∧ μ = (bpres ss).length,
    ⟨_, [([], t)], [], [], [.ref t0], none, none, none, rfl, eF0, upd_same, trivial, ⟨⟨t0, rfl, s4 _ _ upd_same⟩, trivial⟩, sm0, s4 _ _ (s3 _ _ (s2 _ _ eD)), by simp [bpres], fun p hp => by rw [List.mem_singleton.mp hp]; exact post_root _ _, rfl⟩, ?_⟩
  rintro μ σ H2 ⟨ss, fs, xs, ys, y4, y5, y6, rfl, eF, eS, pF, pS, sm, eD2, hpre, hin, rfl⟩
  have tot := bpre_len t []
  rw [← hpre, List.length_append] at tot
  have lS := pS.len
  rw [List.length_map] at lS
  have lF := pF.len
  have keep : ∀ {b : Addr} {u : HO} {H' : Hp}, H b = none → Same H H' → Same H (upd H' b u) := fun hb sm z o e => by
    rw [upd_ne (ne_of_none e hb)]
    exact sm _ _ e
  refine ⟨_, rfl, !ys.isEmpty, .inl ⟨ys, .inl (.inl eS), rfl⟩, ?_⟩
  rcases List.eq_nil_or_concat ss with rfl | ⟨ss, p, rfl⟩
  · have hy : ys = [] := List.eq_nil_of_length_eq_zero lS
    subst hy
    refine iteF ?_
    have hp : fs = bpre [] t := by simpa [bpres] using hpre
    refine ⟨_, rfl, fo, xs, rfl, .inl (.inl eF), fun o ho => ?_⟩
    have s5 := same_new ho (.lst xs.reverse)
    refine .inl ⟨o, _, rfl, .inl (.inl upd_same), fun o2 ho2 => ?_⟩
    have s6 := same_new ho2 (.tup xs.reverse)
    refine q o2 _ (sm.trans (s5.trans s6)) (fresh (sm.trans s5) ho2) ⟨_, upd_same, ?_⟩
    rw [← hp]
    exact (pF.rev).same (s5.trans s6)
  · rw [List.concat_eq_append] at pS hpre hin tot lS ⊢
    rw [bpres_snoc, List.length_append, bpre_len] at tot
    rw [bpres_snoc] at hpre
    rw [List.map_append] at pS
    have hle := bpres_le ss
    have lD : ys.dropLast.length ≤ 1000 := by
      have lS2 := pS.len
      simp only [List.length_append, List.length_map, List.length_singleton] at lS2
      rw [List.length_dropLast]
      omega
    obtain ⟨y, hy, hyP, pD⟩ := pS.last
    have hne : ys.isEmpty = false := by
      cases ys with
      | nil => simp at hy
      | cons z r => rfl
    have hpin := hin p (List.mem_append_right _ (List.mem_singleton.mpr rfl))
    rw [hne]
    refine iteT ⟨_, fun σ1 H1 z => z, ?_⟩
    refine ⟨_, rfl, .inl ⟨rfl, _, .inl (.inl eS)⟩, so, ys, _, rfl, rfl, eS, hy, ?_⟩
    have t3 : TupS H2 (upd H2 so (.lst ys.dropLast)) := TupS.upd eS fun _ z => nomatch z
    have eS3 : (upd H2 so (.lst ys.dropLast)) so = some (.lst ys.dropLast) := upd_same
    have eF3 : (upd H2 so (.lst ys.dropLast)) fo = some (.lst xs) := (upd_ne nfs).trans eF
    have eD3 : (upd H2 so (.lst ys.dropLast)) D = some (.dT (kvM (nmsOf t))) := (upd_ne (fun z => by rw [z, eS] at eD2; cases eD2)).trans eD2
    have sm3 : Same H (upd H2 so (.lst ys.dropLast)) := keep nS sm
    have pF3 := pF.tu t3
    have pD3 := pD.tu t3
    have hyP3 := hyP.tu t3
    generalize upd H2 so (.lst ys.dropLast) = H3 at eS3 eF3 eD3 sm3 pF3 pD3 hyP3
    obtain ⟨b, rfl, hb⟩ := hyP3
    refine ⟨.ref fo, rfl, .inl ⟨rfl, _, .inl (.inl eF3)⟩, _, rfl, fo, _, _, rfl, rfl, eF3, Nat.lt_of_le_of_lt (show xs.length ≤ 1000 by omega) (by decide), ?_⟩
    have t4 : TupS H3 (upd H3 fo (.lst (xs ++ [.ref b]))) := TupS.upd eF3 fun _ z => nomatch z
    have eF4 : (upd H3 fo (.lst (xs ++ [.ref b]))) fo = some (.lst (xs ++ [.ref b])) := upd_same
    have eS4 : (upd H3 fo (.lst (xs ++ [.ref b]))) so = some (.lst ys.dropLast) := (upd_ne nfs.symm).trans eS3
    have eD4 : (upd H3 fo (.lst (xs ++ [.ref b]))) D = some (.dT (kvM (nmsOf t))) := (upd_ne (fun z => by rw [z, eF3] at eD3; cases eD3)).trans eD3
    have sm4 : Same H (upd H3 fo (.lst (xs ++ [.ref b]))) := keep nF sm3
    have hb4 := t4 _ _ hb
    have pF4 : PlsH (upd H3 fo (.lst (xs ++ [.ref b]))) (xs ++ [.ref b]) (fs ++ [p.1]) := PlsH.app (pF3.tu t4) ⟨⟨b, rfl, hb4⟩, trivial⟩
    have pD4 := pD3.tu t4
    generalize upd H3 fo (.lst (xs ++ [.ref b])) = H4 at eF4 eS4 eD4 sm4 hb4 pF4 pD4
    have hlow := hp_low t hhi p hpin
    refine ⟨_, rfl, by show 1 ≤ sizeLine; decide, fun t1 ht1 => ?_⟩
    have a1 := same_new ht1 (.tup [V.int 0])
    refine place_snoc (a1 _ _ hb4) upd_same hlow fun p1 H5 a2 h5 => ?_
    have a12 := a1.trans a2
    refine ⟨_, rfl, by show 1 ≤ sizeLine; decide, fun t2 ht2 => ?_⟩
    have a3 := same_new ht2 (.tup [V.int 1])
    have a13 := a12.trans a3
    refine place_snoc (a13 _ _ hb4) upd_same hlow fun p2 H6 a4 h6 => ?_
    have a14 := a13.trans a4
    refine ⟨by show 2 ≤ sizeLine; decide, fun sd hsd => ?_⟩
    have a5 := same_new hsd (.lst [.ref p1, .ref p2])
    have nsd : sd ≠ so := fun z => by
      have e1 := a14 _ _ eS4
      rw [← z, hsd] at e1
      cases e1
    have a15 := a14.trans a5
    have eL : (upd H6 sd (.lst [.ref p1, .ref p2])) sd = some (.lst [.ref p1, .ref p2]) := upd_same
    have h57 := (a3.trans (a4.trans a5)) _ _ h5
    have h67 := a5 _ _ h6
    generalize upd H6 sd (.lst [.ref p1, .ref p2]) = H7 at a15 eL h57 h67
    have eF7 := a15 _ _ eF4
    have eS7 := a15 _ _ eS4
    have eD7 := a15 _ _ eD4
    have sm7 := sm4.trans a15
    have pF7 := pF4.same a15
    have pD7 := pD4.same a15
    have g0 := dget_M eD7 h57
    have g1 := dget_M eD7 h67
    obtain ⟨pl, nod⟩ := p
    have hin2 : ∀ z ∈ ss, z ∈ post [] t := fun z hz => hin z (List.mem_append_left _ hz)
    refine ⟨_, rfl, sd, _, 0, _, rfl, rfl, .inl (.inl eL), atI_nat (j := 0) rfl, _, rfl, D, _, rfl, g0, _, rfl, ?_⟩
    cases nod with
    | wish i =>
      rw [look_no (spot_leaf t [] pl i hpin)]
      refine iteF ?_
      refine ⟨_, ?_, ss, fs ++ [pl], _, _, _, _, _, rfl, eF7, eS7, pF7, pD7, sm7, eD7, ?_, hin2, rfl⟩
      · rw [bpres_snoc, List.length_append]
        show _ < 1 + _
        omega
      · rw [← hpre, List.append_assoc]
        rfl
    | frm nm line l r =>
      have sds := spot_sides hpin
      rw [look_M sds.1] at g0 ⊢
      rw [look_M sds.2] at g1
      refine iteT ?_
      refine ⟨_, rfl, _, rfl, sd, _, 0, _, rfl, rfl, .inl (.inl eL), atI_nat (j := 0) rfl, D, _, rfl, g0, ?_⟩
      refine ⟨_, rfl, _, rfl, sd, _, 1, _, rfl, rfl, .inl (.inl eL), atI_nat (j := 1) rfl, D, _, rfl, g1, _, _, rfl, rfl, _, rfl, ?_⟩
      by_cases c : r.num ≤ l.num
      · refine iteD (by omega) ?_
        refine ⟨.ref so, rfl, .inl ⟨rfl, _, .inl (.inl eS7)⟩, _, rfl, _, rfl, sd, _, 0, _, rfl, rfl, .inl (.inl eL), atI_nat (j := 0) rfl, so, _, _, rfl, rfl, eS7, Nat.lt_of_le_of_lt lD (by decide), ?_⟩
        have t8 : TupS H7 (upd H7 so (.lst (ys.dropLast ++ [.ref p1]))) := TupS.upd eS7 fun _ z => nomatch z
        have eL8 : (upd H7 so (.lst (ys.dropLast ++ [.ref p1]))) sd = some (.lst [.ref p1, .ref p2]) := (upd_ne nsd).trans eL
        have eS8 : (upd H7 so (.lst (ys.dropLast ++ [.ref p1]))) so = some (.lst (ys.dropLast ++ [.ref p1])) := upd_same
        have eF8 : (upd H7 so (.lst (ys.dropLast ++ [.ref p1]))) fo = some (.lst (xs ++ [.ref b])) := (upd_ne nfs).trans eF7
        have eD8 : (upd H7 so (.lst (ys.dropLast ++ [.ref p1]))) D = some (.dT (kvM (nmsOf t))) := (upd_ne (fun z => by rw [z, eS7] at eD7; cases eD7)).trans eD7
        have sm8 : Same H (upd H7 so (.lst (ys.dropLast ++ [.ref p1]))) := keep nS sm7
        have pF8 := pF7.tu t8
        have h58 := t8 _ _ h57
        have h68 := t8 _ _ h67
        have pD8 : PlsH (upd H7 so (.lst (ys.dropLast ++ [.ref p1]))) (ys.dropLast ++ [.ref p1]) ((ss ++ [(pl ++ [0], l)]).map (fun z : Spot => z.1)) := by
          rw [List.map_append]
          exact PlsH.app (pD7.tu t8) ⟨⟨p1, rfl, h58⟩, trivial⟩
        generalize upd H7 so (.lst (ys.dropLast ++ [.ref p1])) = H8 at t8 eL8 eS8 eF8 eD8 sm8 pF8 h58 h68 pD8
        refine ⟨.ref so, rfl, .inl ⟨rfl, _, .inl (.inl eS8)⟩, _, rfl, _, rfl, _, _, rfl, rfl, sd, _, _, _, rfl, rfl, .inl (.inl eL8), atI_of (i := 1) (by decide) rfl, so, _, _, rfl, rfl, eS8, Nat.lt_of_le_of_lt (show (ys.dropLast ++ [V.ref p1]).length ≤ 1001 by rw [List.length_append]; show _ + 1 ≤ _; omega) (by decide), ?_⟩
        have t9 : TupS H8 (upd H8 so (.lst (ys.dropLast ++ [.ref p1] ++ [.ref p2]))) := TupS.upd eS8 fun _ z => nomatch z
        refine ⟨_, ?_, ss ++ [(pl ++ [0], l)] ++ [(pl ++ [1], r)], fs ++ [pl], _, _, _, _, _, rfl, (upd_ne nfs).trans eF8, upd_same, pF8.tu t9, ?_, keep nS sm8, (upd_ne (fun z => by rw [z, eS8] at eD8; cases eD8)).trans eD8, ?_, fun z hz => ?_, rfl⟩
        · rw [bpres_snoc, bpres_snoc, bpres_snoc]
          simp only [List.length_append, bpre_len]
          show _ < (l.size + r.size + 1) + _
          omega
        · rw [List.map_append]
          exact PlsH.app (pD8.tu t9) ⟨⟨p2, rfl, t9 _ _ h68⟩, trivial⟩
        · have e : bpre pl (.frm nm line l r) = pl :: (bpre (pl ++ [1]) r ++ bpre (pl ++ [0]) l) := if_pos c
          rw [bpres_snoc, bpres_snoc, ← hpre, e]
          simp
        · rcases List.mem_append.mp hz with hz | hz
          · rcases List.mem_append.mp hz with hz | hz
            · exact hin2 z hz
            · rw [List.mem_singleton.mp hz]; exact sds.1
          · rw [List.mem_singleton.mp hz]; exact sds.2
      · refine iteND (by omega) ?_
        refine ⟨.ref so, rfl, .inl ⟨rfl, _, .inl (.inl eS7)⟩, _, rfl, _, rfl, sd, _, 1, _, rfl, rfl, .inl (.inl eL), atI_nat (j := 1) rfl, so, _, _, rfl, rfl, eS7, Nat.lt_of_le_of_lt lD (by decide), ?_⟩
        have t8 : TupS H7 (upd H7 so (.lst (ys.dropLast ++ [.ref p2]))) := TupS.upd eS7 fun _ z => nomatch z
        have eL8 : (upd H7 so (.lst (ys.dropLast ++ [.ref p2]))) sd = some (.lst [.ref p1, .ref p2]) := (upd_ne nsd).trans eL
        have eS8 : (upd H7 so (.lst (ys.dropLast ++ [.ref p2]))) so = some (.lst (ys.dropLast ++ [.ref p2])) := upd_same
        have eF8 : (upd H7 so (.lst (ys.dropLast ++ [.ref p2]))) fo = some (.lst (xs ++ [.ref b])) := (upd_ne nfs).trans eF7
        have eD8 : (upd H7 so (.lst (ys.dropLast ++ [.ref p2]))) D = some (.dT (kvM (nmsOf t))) := (upd_ne (fun z => by rw [z, eS7] at eD7; cases eD7)).trans eD7
        have sm8 : Same H (upd H7 so (.lst (ys.dropLast ++ [.ref p2]))) := keep nS sm7
        have pF8 := pF7.tu t8
        have h58 := t8 _ _ h57
        have h68 := t8 _ _ h67
        have pD8 : PlsH (upd H7 so (.lst (ys.dropLast ++ [.ref p2]))) (ys.dropLast ++ [.ref p2]) ((ss ++ [(pl ++ [1], r)]).map (fun z : Spot => z.1)) := by
          rw [List.map_append]
          exact PlsH.app (pD7.tu t8) ⟨⟨p2, rfl, h68⟩, trivial⟩
        generalize upd H7 so (.lst (ys.dropLast ++ [.ref p2])) = H8 at t8 eL8 eS8 eF8 eD8 sm8 pF8 h58 h68 pD8
        refine ⟨.ref so, rfl, .inl ⟨rfl, _, .inl (.inl eS8)⟩, _, rfl, _, rfl, _, _, rfl, rfl, sd, _, _, _, rfl, rfl, .inl (.inl eL8), atI_of (i := 0) (by decide) rfl, so, _, _, rfl, rfl, eS8, Nat.lt_of_le_of_lt (show (ys.dropLast ++ [V.ref p2]).length ≤ 1001 by rw [List.length_append]; show _ + 1 ≤ _; omega) (by decide), ?_⟩
        have t9 : TupS H8 (upd H8 so (.lst (ys.dropLast ++ [.ref p2] ++ [.ref p1]))) := TupS.upd eS8 fun _ z => nomatch z
        refine ⟨_, ?_, ss ++ [(pl ++ [1], r)] ++ [(pl ++ [0], l)], fs ++ [pl], _, _, _, _, _, rfl, (upd_ne nfs).trans eF8, upd_same, pF8.tu t9, ?_, keep nS sm8, (upd_ne (fun z => by rw [z, eS8] at eD8; cases eD8)).trans eD8, ?_, fun z hz => ?_, rfl⟩
        · rw [bpres_snoc, bpres_snoc, bpres_snoc]
          simp only [List.length_append, bpre_len]
          show _ < (l.size + r.size + 1) + _
          omega
        · rw [List.map_append]
          exact PlsH.app (pD8.tu t9) ⟨⟨p1, rfl, t9 _ _ h58⟩, trivial⟩
        · have e : bpre pl (.frm nm line l r) = pl :: (bpre (pl ++ [0]) l ++ bpre (pl ++ [1]) r) := if_neg c
          rw [bpres_snoc, bpres_snoc, ← hpre, e]
          simp
        · rcases List.mem_append.mp hz with hz | hz
          · rcases List.mem_append.mp hz with hz | hz
            · exact hin2 z hz
            · rw [List.mem_singleton.mp hz]; exact sds.2
          · rw [List.mem_singleton.mp hz]; exact sds.1
end
end Km
/-! KtJ -/
set_option Elab.async false
set_option linter.all false
set_option maxRecDepth 100000
set_option maxHeartbeats 2000000
namespace Ns
/-- how many leaves a drawn tree has at most -/
def leafB (nar : Bool) (dp : Nat) : Nat := if nar then dp + 1 else 2 ^ dp
theorem leafB_pos (nar : Bool) (dp : Nat) : 1 ≤ leafB nar dp := by
  cases nar
  · exact Nat.one_le_two_pow
  · show 1 ≤ dp + 1
    omega
theorem leafB_sum {nar : Bool} {dp : Nat} {d : Int} (h : 0 < dp) : leafB nar (if nar = true ∧ d % 2 = 1 then 0 else dp - 1) + leafB nar (if nar = true ∧ d % 2 = 0 then 0 else dp - 1) ≤ leafB nar dp := by
  cases nar
  · rw [if_neg (fun z => Bool.noConfusion z.1), if_neg (fun z => Bool.noConfusion z.1)]
    show 2 ^ (dp - 1) + 2 ^ (dp - 1) ≤ 2 ^ dp
    obtain ⟨k, rfl⟩ : ∃ k, dp = k + 1 := ⟨dp - 1, by omega⟩
    rw [Nat.add_sub_cancel, Nat.pow_succ]
    omega
  · by_cases c : d % 2 = 1
    · rw [if_pos ⟨rfl, c⟩, if_neg (fun z => by omega)]
      show 0 + 1 + (dp - 1 + 1) ≤ dp + 1
      omega
    · rw [if_neg (fun z => c z.2), if_pos ⟨rfl, by omega⟩]
      show dp - 1 + 1 + (0 + 1) ≤ dp + 1
      omega
end Ns
namespace Km
open PySem PySem.Spec PyProof.Rows L2 Ns
abbrev sForm : Stmt := top 20
abbrev nForm : List Str := ["_law_draws_here", "_law_deep", "_law_narrow", "_law_at", "_law_draw", "_law_other", "_law_line", "_law_left", "_law_right", "_law_k"]
abbrev pForm : List Str := ["_law_draws_here", "_law_deep", "_law_narrow", "_law_at"]
theorem scForm : FnScope nForm pForm (defScope sForm) := ⟨rfl, rfl, rfl, by decide +kernel, rfl, by decide +kernel, by decide +kernel⟩
def spForm (K : PySem.W.Frag) (m : Nat) : Sp := fun vs H Q _ => ∃ (o : Addr) (ds : List Int) (dp at0 : Nat) (nar : Bool), vs = [.ref o, .int dp, .bl nar, .int at0] ∧ H o = some (.lst (ds.map V.int)) ∧ ds.length = 64 ∧ (∀ d ∈ ds, 0 ≤ d ∧ d < 60) ∧
  dp + 1 ≤ m ∧ ∀ p x t (at1 : Nat) H', Same H H' → H' p = some (.tup [x, .int at1]) → LRep K H' x t → t.high ≤ dp + 1 → t.size + 1 ≤ 2 * leafB nar dp → Q (.ref p) H'
theorem pe_weak {X : Cx} {e : Expr} {t t' : TE} (h : PE X e t) (w : ∀ σ H Q, t' σ H Q → t σ H Q) : PE X e t' := ⟨fun pins s σ H Q I q => h.run pins s σ H Q I (w σ H Q q)⟩
theorem pt_weak {X : Cx} {e : Expr} {t t' : TT} (h : PT X e t) (w : ∀ σ H Q, t' σ H Q → t σ H Q) : PT X e t' := ⟨fun pins s σ H Q I q => h.run pins s σ H Q I (w σ H Q q)⟩
/-- is it a leaf -/
def tLeafT : TT := fun σ H Q => ∃ (dp at0 d1 : Int), σ[1]? = some (some (.int dp)) ∧ σ[3]? = some (some (.int at0)) ∧ σ[4]? = some (some (.int d1)) ∧ ∀ b, (b = false → 0 < dp) → Q b H
theorem w_leaf : ∀ σ H Q, tLeafT σ H Q → tOr (tTest (tOp (rI0 fun i j => .bl (decide (i < j))) (tVar 1) (tC (.int 1)))) (tAnd (tTest (tOp (rI0 fun i j => .bl (decide (j < i))) (tVar 3) (tC (.int 0)))) (tTest (tOp rEq (tOp (rI (fun _ j => 0 < j) fun i j => .int (i % j)) (tVar 4) (tC (.int 6))) (tC (.int 5))))) σ H Q := by
  rintro σ H Q ⟨dp, at0, d1, e1, e3, e4, q⟩
  refine ⟨_, e1, _, _, rfl, rfl, _, rfl, ?_⟩
  by_cases c0 : dp < 1
  · exact iteD c0 (q true fun z => nomatch z)
  have big : 0 < dp := by omega
  refine iteND c0 ⟨_, e3, _, _, rfl, rfl, _, rfl, ite2 (fun _ => ?_) (fun _ => q false fun _ => big)⟩
  exact ⟨_, e4, _, _, rfl, rfl, (by show (0 : Int) < 6; decide), rfl, _, rfl, q _ fun _ => big⟩
/-- the depth that is left for a side -/
def tDeepD (k : Int) : TE := fun σ H Q => ∃ (nar : Bool) (d2 dp : Int), σ[2]? = some (some (.bl nar)) ∧ σ[5]? = some (some (.int d2)) ∧ σ[1]? = some (some (.int dp)) ∧ Q (.int (if nar = true ∧ d2 % 2 = k then 0 else dp - 1)) H
theorem w_deep {k : Int} : ∀ σ H Q, tDeepD k σ H Q → tIf (tAnd (tB (tVar 2)) (tTest (tOp rEq (tOp (rI (fun _ j => 0 < j) fun i j => .int (i % j)) (tVar 5) (tC (.int 2))) (tC (.int k))))) (tC (.int 0)) (tOp (rI0 fun i j => .int (i - j)) (tVar 1) (tC (.int 1))) σ H Q := by
  rintro σ H Q ⟨nar, d2, dp, e4, e7, e3, q⟩
  cases nar with
  | false =>
    rw [if_neg (fun z => Bool.noConfusion z.1)] at q
    exact ⟨_, e4, _, rfl, iteF (iteF ⟨_, e3, _, _, rfl, rfl, q⟩)⟩
  | true =>
    refine ⟨_, e4, _, rfl, iteT ⟨_, e7, _, _, rfl, rfl, (by show (0 : Int) < 2; decide), rfl, _, rfl, ?_⟩⟩
    by_cases c : d2 % 2 = k
    · rw [if_pos ⟨rfl, c⟩] at q
      exact iteD (congrArg V.int c) q
    · rw [if_neg (fun z => c z.2)] at q
      exact iteND (fun z => c (V.int.inj z)) ⟨_, e3, _, _, rfl, rfl, q⟩
section
variable {P : Program} {w : World} {K : PySem.W.Frag} {mg : Str → Option Value} {base : Heap} {f : Addr} {fd : FuncData}
theorem ok_form {m : Nat} (T : Blt mg) (T2 : Blt2 mg) (F : Fun K "_law_form" "_law_form" sForm f fd) (b0 : Binds K fd pForm []) (m0 : mg "_law_form" = some (.ref f))
    (G : FnOk P w K mg base CX0 (m + 1) f fd pForm (spForm K m)) : FnOk P w K mg base CX0 (m + 2) f fd pForm (spForm K (m + 1)) := by
  refine F.ok scForm (fun vs H Q E h => ?_) (fun cdv A outer s H vs Q E hr h => ?_)
  · obtain ⟨o, ds, dp, at0, nar, rfl, _⟩ := h
    rfl
  obtain ⟨o, ds, dp, at0, nar, rfl, hO, h64, hds, hdp, q⟩ := h
  have nd := scForm.nd
  refine ⟨_, pss_cons (ps_set (i := 4) nd rfl (Or.inl rfl) (pe_ix ix_list (pv 0) (pe_op op_mod (pv 3) (pe_callB call_len_seq rfl T.mlen PySem.boot_len (pa_cons (pv 0) pa_nil))) (fun _ _ => rfl)))
    (pss_cons (ps_if (pt_weak (PW.pt (pw_or (pt_cmpR op_lt (pv 1) pe_int (nomark _)) (pw_or1 (PW.pt (pw_and (pt_cmpR op_gt (pv 3) pe_int (nomark _)) (pw_and1 (pt_cmpR op_eq (pe_op op_mod (pv 4) pe_int) pe_int (nomark _)))))))) w_leaf)
      (pss_one (ps_ret (pe_tup (pa_cons (pe_tup (pa_cons pe_str (pa_cons (pv 4) pa_nil))) (pa_cons (pe_op op_add (pv 3) pe_int) pa_nil))))) pss_nil)
    (pss_cons (ps_set (i := 5) nd rfl (Or.inr rfl) (pe_ix ix_list (pv 0) (pe_op op_mod (pe_op op_add (pe_op op_mul (pv 3) pe_int) pe_int) (pe_callB call_len_seq rfl T.mlen PySem.boot_len (pa_cons (pv 0) pa_nil))) (fun _ _ => rfl)))
    (pss_cons (ps_set (i := 6) nd rfl (Or.inl rfl) (pe_tupleOf rfl T2.mtup (pe_lc (own := [("_law_k", 9)]) (g := gName 9) (tt := tTest (tOp rNe (tVar 9) (tOp (rI (fun _ j => 0 < j) fun i j => .int (i % j)) (tVar 5) (tC (.int 5)))))
      (te := tTup (tCons (tOp (rI0 fun i j => .int (i + j)) (tVar 9) (tC (.int 1))) (tCons (tOp (rI (fun _ j => 0 < j) fun i j => .int (i % j)) (tOp (rI CDiv fun i j => .int (i / j)) (tVar 5) (tC (.int 7))) (tC (.int 2))) tNil))) rfl nd (pi_range1 rfl T.mran (pa_cons (pe_op op_mod (pv 4) pe_int) pa_nil)) (blkOk_by (N := nForm) (sc := defScope sForm) (by decide +kernel))
      (fun _ _ _ _ _ => pg_name (i := 9) nd rfl (Or.inl rfl)) (fun _ _ _ _ _ => pts_one (pt_cmpR op_ne (pv 9) (pe_op op_mod (pv 5) pe_int) (nomark _))) (fun _ _ _ _ _ => pe_tup (pa_cons (pe_op op_add (pv 9) pe_int) (pa_cons (pe_op op_mod (pe_op op_fdiv (pv 5) pe_int) pe_int) pa_nil))))))
    (pss_cons (ps_set (i := 7) nd rfl (Or.inl rfl) (pe_call G hr rfl m0 F.kp b0 .nil pass0 (pa_cons (pv 0) (pa_cons (pe_weak (pe_ifExp (PW.pt (pw_and (pt_val (pv 2)) (pw_and1 (pt_cmpR op_eq (pe_op op_mod (pv 5) pe_int) pe_int (nomark _))))) pe_int (pe_op op_sub (pv 1) pe_int)) w_deep) (pa_cons (pv 2) (pa_cons (pe_op op_add (pv 3) pe_int) pa_nil))))))
    (pss_cons (ps_set (i := 8) nd rfl (Or.inl rfl) (pe_call G hr rfl m0 F.kp b0 .nil pass0 (pa_cons (pv 0) (pa_cons (pe_weak (pe_ifExp (PW.pt (pw_and (pt_val (pv 2)) (pw_and1 (pt_cmpR op_eq (pe_op op_mod (pv 5) pe_int) pe_int (nomark _))))) pe_int (pe_op op_sub (pv 1) pe_int)) w_deep) (pa_cons (pv 2) (pa_cons (pe_ix ix_tup (pv 7) pe_int (fun _ _ => rfl)) pa_nil))))))
    (pss_one (ps_ret (pe_tup (pa_cons (pe_tup (pa_cons pe_str (pa_cons (pe_op op_add pe_int (pe_op op_mod (pv 5) pe_int)) (pa_cons (pv 6) (pa_cons (pe_ix ix_tup (pv 7) pe_int (fun _ _ => rfl)) (pa_cons (pe_ix ix_tup (pv 8) pe_int (fun _ _ => rfl)) pa_nil)))))) (pa_cons (pe_ix ix_tup (pv 8) pe_int (fun _ _ => rfl)) pa_nil)))))))))), ?_⟩
  have l64 : (ds.map V.int).length = 64 := by rw [List.length_map, h64]
  have pick : ∀ z : Int, ∃ (j : Nat) (d : Int), z % (((ds.map V.int).length : Nat) : Int) = (j : Int) ∧ (ds.map V.int)[j]? = some (.int d) ∧ 0 ≤ d ∧ d < 60 := by
    intro z
    rw [l64]
    have hj : (z % ((64 : Nat) : Int)).toNat < ds.length := by omega
    exact ⟨(z % ((64 : Nat) : Int)).toNat, ds[(z % ((64 : Nat) : Int)).toNat], by omega, by rw [List.getElem?_map, List.getElem?_eq_getElem hj]; rfl, hds _ (List.getElem_mem hj)⟩
  obtain ⟨j1, d1, hj1, hd1, p1, p2⟩ := pick (at0 : Int)
  obtain ⟨j2, d2, hj2, hd2, p3, p4⟩ := pick ((at0 : Int) * 7 + 3)
  have pos64 : (0 : Int) < (((ds.map V.int).length : Nat) : Int) := by rw [l64]; decide
  have hOL : SqL K H o (ds.map V.int) := .inl (.inl hO)
  refine ⟨_, rfl, _, rfl, _, rfl, o, _, rfl, .inl hOL, _, _, rfl, rfl, pos64, o, _, _, .int d1, rfl, rfl, hOL, atI_of hj1 hd1, ?_⟩
  refine ⟨dp, at0, d1, rfl, rfl, rfl, fun bb hbb => ?_⟩
  cases bb with
  | true =>
    refine iteT ⟨_, rfl, by show 2 ≤ sizeLine; decide, fun a ha => ?_⟩
    refine ⟨_, rfl, _, _, rfl, rfl, by show 2 ≤ sizeLine; decide, fun p hp => ?_⟩
    have s1 := same_new ha (.tup [.str "wish", .int d1])
    refine q p (.ref a) (.wish (.int d1)) (at0 + 1) _ (s1.trans (same_new hp _)) upd_same ⟨a, rfl, same_new hp _ _ _ upd_same⟩ (Nat.le_add_left 1 dp) ?_
    have := leafB_pos nar dp
    show 1 + 1 ≤ _
    omega
  | false =>
    have dpos : 0 < dp := by have := hbb rfl; omega
    refine iteF ?_
    refine ⟨_, rfl, _, rfl, _, _, rfl, rfl, .inr ⟨by decide, by decide⟩, _, _, rfl, rfl, _, rfl, o, _, rfl, .inl hOL, _, _, rfl, rfl, pos64, o, _, _, .int d2, rfl, rfl, hOL, atI_of hj2 hd2, ?_⟩
    refine ⟨_, rfl, _, _, rfl, rfl, (by show (0 : Int) < 4; decide), d1 % 4, rfl, by omega, by omega, fun D hD => ?_⟩
    refine lc_range (n := (d1 % 4).toNat) (fun i H2 => ∃ acc : List V, H2 D = some (.lst acc) ∧ Same H H2 ∧ acc.length ≤ i) ⟨[], upd_same, same_new hD _, Nat.le_refl _⟩ ?_ ?_
    · rintro i H2 hi ⟨acc, eD, s2, hl⟩
      refine ⟨rfl, _, rfl, _, rfl, _, _, rfl, rfl, (by show (0 : Int) < 5; decide), rfl, _, rfl, ite2 (fun _ => ?_) (fun _ => ⟨acc, eD, s2, by omega⟩)⟩
      refine ⟨_, rfl, _, _, rfl, rfl, _, rfl, _, _, rfl, rfl, ⟨by decide, by decide⟩, _, _, rfl, rfl, (by show (0 : Int) < 2; decide), by show 2 ≤ sizeLine; decide, fun t ht => ?_⟩
      have s3 := same_new ht (.tup [V.int (0 + (i : Int) + 1), V.int (d2 / 7 % 2)])
      refine ⟨acc, s3 _ _ eD, Nat.lt_of_le_of_lt (show acc.length ≤ 1000 by omega) (by decide), acc ++ [.ref t], upd_same, fun b1 u e => ?_, by rw [List.length_append]; show _ + 1 ≤ _; omega⟩
      rw [upd_ne (ne_of_none e hD)]
      exact s3 _ _ (s2 _ _ e)
    · rintro H1 ⟨acc, eD, s1, hl⟩
      refine .inl ⟨D, acc, rfl, .inl (.inl eD), fun ln hln => ?_⟩
      have s2 := same_new hln (.tup acc)
      have s12 := s1.trans s2
      generalize upd H1 ln (.tup acc) = H2 at s12
      have hd : ∀ k : Int, (if nar = true ∧ d2 % 2 = k then (0 : Int) else (dp : Int) - 1) = ((if nar = true ∧ d2 % 2 = k then 0 else dp - 1 : Nat) : Int) := fun k => by
        split <;> omega
      have lo : ∀ k : Int, (if nar = true ∧ d2 % 2 = k then 0 else dp - 1 : Nat) + 1 ≤ m ∧ (if nar = true ∧ d2 % 2 = k then 0 else dp - 1 : Nat) + 1 ≤ dp := fun k => by
        split <;> omega
      have lsum := leafB_sum (nar := nar) (d := d2) dpos
      refine ⟨_, rfl, nar, d2, dp, rfl, rfl, rfl, _, rfl, _, rfl, _, _, rfl, rfl, o, ds, _, at0 + 1, nar, by rw [hd]; rfl, s12 _ _ hO, h64, hds, (lo 1).1, fun pL xL tL aL H3 s3 eL rL hL zL => ?_⟩
      have s13 := s12.trans s3
      refine ⟨_, rfl, nar, d2, dp, rfl, rfl, rfl, _, rfl, _, rfl, pL, _, 1, _, rfl, rfl, SqT.of eL, atI_nat (j := 1) rfl, o, ds, _, aL, nar, by rw [hd]; rfl, s13 _ _ hO, h64, hds, (lo 0).1, fun pR xR tR aR H4 s4 eR rR hR zR => ?_⟩
      have s14 := s13.trans s4
      refine ⟨_, rfl, _, _, rfl, rfl, (by show (0 : Int) < 9; decide), _, _, rfl, rfl, _, rfl, _, rfl, pL, _, 0, _, rfl, rfl, SqT.of (s4 _ _ eL), atI_nat (j := 0) rfl, _, rfl, pR, _, 0, _, rfl, rfl, SqT.of eR, atI_nat (j := 0) rfl, by show 5 ≤ sizeLine; decide, fun a ha => ?_⟩
      have s5 := same_new ha (.tup [.str "from", .int (1 + d2 % 9), .ref ln, xL, xR])
      refine ⟨_, rfl, pR, _, 1, _, rfl, rfl, SqT.of (s5 _ _ eR), atI_nat (j := 1) rfl, by show 2 ≤ sizeLine; decide, fun p hp => ?_⟩
      have s6 := same_new hp (.tup [.ref a, .int aR])
      have s56 := s5.trans s6
      have l1 := (lo 1).2
      have l0 := (lo 0).2
      refine q p (.ref a) (.frm (.int (1 + d2 % 9)) (.ref ln) tL tR) aR _ (s14.trans s56) upd_same ⟨a, xL, xR, rfl, s6 _ _ upd_same, rL.same (s4.trans s56), rR.same s56⟩ ?_ ?_
      · show max tL.high tR.high + 1 ≤ dp + 1
        omega
      · show tL.size + tR.size + 1 + 1 ≤ _
        omega
theorem form0 {ps : List Str} {k : Nat} : FnOk P w K mg base CX0 k f fd ps (spForm K 0) := by
  have no : ∀ vs H Q E, ¬ spForm K 0 vs H Q E := fun vs H Q E h => by
    obtain ⟨o, ds, dp, at0, nar, _, _, _, _, h1, _⟩ := h
    omega
  exact ⟨fun vs H Q E h => absurd h (no vs H Q E), fun A outer s H args us vs Q E _ _ _ _ h => absurd h (no vs H Q E)⟩
theorem all_form (T : Blt mg) (T2 : Blt2 mg) (F : Fun K "_law_form" "_law_form" sForm f fd) (b : Binds K fd pForm []) (m : mg "_law_form" = some (.ref f)) : ∀ n : Nat, FnOk P w K mg base CX0 (n + 1) f fd pForm (spForm K n)
  | 0 => form0
  | n + 1 => ok_form T T2 F b m (all_form T T2 F b m n)
end
end Km
/-! KtK -/
set_option Elab.async false
set_option linter.all false
set_option maxRecDepth 100000
set_option maxHeartbeats 2000000
namespace Ns
open PySem PySem.Spec PyProof.Rows L2
section
variable {α : Type}
def A2 (R : V → α → Prop) : List V → List α → Prop
  | [], [] => True
  | x :: xs, p :: ps => R x p ∧ A2 R xs ps
  | _, _ => False
theorem A2.mono {R S : V → α → Prop} (h : ∀ x p, R x p → S x p) : ∀ {xs : List V} {ps : List α}, A2 R xs ps → A2 S xs ps
  | [], [], _ => trivial
  | [], _ :: _, z => z.elim
  | _ :: _, [], z => z.elim
  | _ :: _, _ :: _, z => ⟨h _ _ z.1, A2.mono h z.2⟩
theorem A2.app {R : V → α → Prop} : ∀ {xs ys : List V} {ps qs : List α}, A2 R xs ps → A2 R ys qs → A2 R (xs ++ ys) (ps ++ qs)
  | [], _, [], _, _, h => h
  | [], _, _ :: _, _, z, _ => z.elim
  | _ :: _, _, [], _, z, _ => z.elim
  | _ :: _, _, _ :: _, _, z, h => ⟨z.1, A2.app z.2 h⟩
theorem A2.len {R : V → α → Prop} : ∀ {xs : List V} {ps : List α}, A2 R xs ps → xs.length = ps.length
  | [], [], _ => rfl
  | [], _ :: _, z => z.elim
  | _ :: _, [], z => z.elim
  | _ :: _, _ :: _, z => congrArg (· + 1) (A2.len z.2)
theorem A2.at_ {R : V → α → Prop} : ∀ {xs : List V} {ps : List α} {i : Nat} {x : V}, A2 R xs ps → xs[i]? = some x → ∃ p, ps[i]? = some p ∧ R x p
  | [], [], _, _, _, h => by simp at h
  | [], _ :: _, _, _, z, _ => z.elim
  | _ :: _, [], _, _, z, _ => z.elim
  | y :: xs, q :: ps, 0, x, z, h => by
    obtain rfl : y = x := Option.some.inj h
    exact ⟨q, rfl, z.1⟩
  | y :: xs, q :: ps, i + 1, x, z, h => A2.at_ (xs := xs) (ps := ps) z.2 h
theorem A2.to {R : V → α → Prop} : ∀ {xs : List V} {ps : List α} {i : Nat} {p : α}, A2 R xs ps → ps[i]? = some p → ∃ x, xs[i]? = some x ∧ R x p
  | [], [], _, _, _, h => by simp at h
  | [], _ :: _, _, _, z, _ => z.elim
  | _ :: _, [], _, _, z, _ => z.elim
  | y :: xs, q :: ps, 0, x, z, h => by
    obtain rfl : q = x := Option.some.inj h
    exact ⟨y, rfl, z.1⟩
  | y :: xs, q :: ps, i + 1, x, z, h => A2.to (xs := xs) (ps := ps) z.2 h
end
/-- a node as the law lists it: its place, and whether it is a leaf -/
def NdH (H : Hp) (x : V) (p : Nd) : Prop := ∃ a c, x = .ref a ∧ H a = some (.tup [.ref c, .bl p.2]) ∧ H c = some (.tup (p.1.map V.int))
abbrev NdsH (H : Hp) (xs : List V) (ns : List Nd) : Prop := A2 (NdH H) xs ns
theorem NdH.same {H H1 : Hp} {x : V} {p : Nd} (e : Same H H1) (h : NdH H x p) : NdH H1 x p := by
  obtain ⟨a, c, h1, h2, h3⟩ := h
  exact ⟨a, c, h1, e _ _ h2, e _ _ h3⟩
theorem NdH.tu {H H1 : Hp} {x : V} {p : Nd} (e : TupS H H1) (h : NdH H x p) : NdH H1 x p := by
  obtain ⟨a, c, h1, h2, h3⟩ := h
  exact ⟨a, c, h1, e _ _ h2, e _ _ h3⟩
theorem nds_same {H H1 : Hp} {xs : List V} {ns : List Nd} (e : Same H H1) (h : NdsH H xs ns) : NdsH H1 xs ns := h.mono fun _ _ => NdH.same e
theorem nds_tu {H H1 : Hp} {xs : List V} {ns : List Nd} (e : TupS H H1) (h : NdsH H xs ns) : NdsH H1 xs ns := h.mono fun _ _ => NdH.tu e
end Ns
namespace Km
open PySem PySem.Spec PyProof.Rows L2 Ns
abbrev sNodes : Stmt := top 21
def spNodes (K : PySem.W.Frag) (m : Nat) : Sp := fun vs H Q _ => ∃ (x : V) (a : Addr) (t : LT) (pl : Pl), vs = [x, .ref a] ∧ LRep K H x t ∧ H a = some (.tup (pl.map V.int)) ∧ pl.length + t.high ≤ 1000 ∧ t.size ≤ 100000 ∧ t.high ≤ m ∧ ∀ o xs H', Same H H' → H o = none → H' o = some (.lst xs) → NdsH H' xs (ndsOf pl t) → Q (.ref o) H'
theorem scNodes : FnScope ["_law_paper", "_law_place"] ["_law_paper", "_law_place"] (defScope sNodes) := ⟨rfl, rfl, rfl, by decide +kernel, rfl, by decide +kernel, by decide +kernel⟩
section
variable {P : Program} {w : World} {K : PySem.W.Frag} {mg : Str → Option Value} {base : Heap} {f : Addr} {fd : FuncData}
theorem ok_nodes {m : Nat} (F : Fun K "_law_nodes" "_law_nodes" sNodes f fd) (b0 : Binds K fd ["_law_paper", "_law_place"] []) (m0 : mg "_law_nodes" = some (.ref f))
    (G : FnOk P w K mg base CX0 m f fd ["_law_paper", "_law_place"] (spNodes K m)) : FnOk P w K mg base CX0 (m + 1) f fd ["_law_paper", "_law_place"] (spNodes K (m + 1)) := by
  refine F.ok scNodes (fun vs H Q E h => ?_) (fun cdv A outer s H vs Q E hr h => ?_)
  · obtain ⟨x, a, t, pl, rfl, _⟩ := h
    rfl
  obtain ⟨x, a, t, pl, rfl, hT, ha, h1000, hsz, hm, q⟩ := h
  have nd := scNodes.nd
  refine ⟨_, pss_cons (ps_if (pt_cmpR op_eq (pe_ix ix_tup (pv 0) pe_int (fun _ _ => rfl)) pe_str (nomark _)) (pss_one (ps_ret (pe_lst (pa_cons (pe_tup (pa_cons (pv 1) (pa_cons pe_bl pa_nil))) pa_nil)))) pss_nil)
    (pss_one (ps_ret (pe_op op_cat (pe_op op_cat
      (pe_call G hr rfl m0 F.kp b0 .nil pass0 (pa_cons (pe_ix ix_tup (pv 0) pe_int (fun _ _ => rfl)) (pa_cons (pe_op op_catA (pv 1) (pe_tup (pa_cons pe_int pa_nil))) pa_nil)))
      (pe_call G hr rfl m0 F.kp b0 .nil pass0 (pa_cons (pe_ix ix_tup (pv 0) pe_int (fun _ _ => rfl)) (pa_cons (pe_op op_catA (pv 1) (pe_tup (pa_cons pe_int pa_nil))) pa_nil))))
      (pe_lst (pa_cons (pe_tup (pa_cons (pv 1) (pa_cons pe_bl pa_nil))) pa_nil))))), ?_⟩
  cases t with
  | wish i =>
    obtain ⟨b, rfl, hb⟩ := hT
    refine ⟨_, rfl, b, _, 0, _, rfl, rfl, SqT.of hb, atI_nat (j := 0) rfl, rfl, _, rfl, iteD rfl ?_⟩
    refine ⟨_, rfl, by show 2 ≤ sizeLine; decide, fun n1 hn1 => ?_⟩
    have s0 := same_new hn1 (.tup [V.ref a, .bl true])
    refine ⟨by show 1 ≤ sizeLine; decide, fun o ho => ?_⟩
    have s1 := same_new ho (.lst [V.ref n1])
    have no : H o = none := by
      cases e : H o with
      | none => rfl
      | some u => have z := s0 o u e; rw [ho] at z; cases z
    exact q o _ _ (s0.trans s1) no upd_same ⟨⟨n1, a, rfl, s1 _ _ upd_same, s1 _ _ (s0 _ _ ha)⟩, trivial⟩
  | frm nm line l r =>
    obtain ⟨b, vl, vr, rfl, hb, hL, hR⟩ := hT
    have g1 : max l.high r.high + 1 ≤ m + 1 := hm
    have g2 := Nat.le_max_left l.high r.high
    have g3 := Nat.le_max_right l.high r.high
    have g4 : pl.length + (max l.high r.high + 1) ≤ 1000 := h1000
    have g5 : l.size + r.size + 1 ≤ 100000 := hsz
    refine ⟨_, rfl, b, _, 0, _, rfl, rfl, SqT.of hb, atI_nat (j := 0) rfl, rfl, _, rfl, iteND wf_ne ?_⟩
    refine ⟨_, rfl, b, _, 3, _, rfl, rfl, SqT.of hb, atI_nat (j := 3) rfl, _, rfl, by show 1 ≤ sizeLine; decide, fun t1 ht1 => ?_⟩
    have s1 := same_new ht1 (.tup [V.int 0])
    refine place_snoc (s1 _ _ ha) upd_same (by omega) fun p1 H2 s2 hp1 => ?_
    have s12 := s1.trans s2
    refine ⟨vl, p1, l, pl ++ [0], rfl, hL.same s12, hp1, by rw [List.length_append]; show _ + 1 + _ ≤ _; omega, by omega, by omega, fun o1 xs1 H3 s3 n1 e1 hx1 => ?_⟩
    have s13 := s12.trans s3
    refine ⟨_, rfl, b, _, 4, _, rfl, rfl, SqT.of (s13 _ _ hb), atI_nat (j := 4) rfl, _, rfl, by show 1 ≤ sizeLine; decide, fun t2 ht2 => ?_⟩
    have s4 := same_new ht2 (.tup [V.int 1])
    refine place_snoc ((s13.trans s4) _ _ ha) upd_same (by omega) fun p2 H5 s5 hp2 => ?_
    have s35 := s4.trans s5
    have s15 := s13.trans s35
    refine ⟨vr, p2, r, pl ++ [1], rfl, hR.same s15, hp2, by rw [List.length_append]; show _ + 1 + _ ≤ _; omega, by omega, by omega, fun o2 xs2 H6 s6 n2 e2 hx2 => ?_⟩
    have s36 := s35.trans s6
    have lx1 := hx1.len
    have lx2 := hx2.len
    rw [nds_len] at lx1 lx2
    refine ⟨o1, o2, xs1, xs2, rfl, rfl, s36 _ _ e1, e2, Nat.le_trans (show xs1.length + xs2.length ≤ 100000 by omega) (by decide), fun o3 ho3 => ?_⟩
    have s7 := same_new ho3 (.lst (xs1 ++ xs2))
    refine ⟨_, rfl, by show 2 ≤ sizeLine; decide, fun n3 hn3 => ?_⟩
    have s7b := same_new hn3 (.tup [V.ref a, .bl false])
    refine ⟨by show 1 ≤ sizeLine; decide, fun o4 ho4 => ?_⟩
    have s8 := same_new ho4 (.lst [V.ref n3])
    refine ⟨o3, o4, _, _, rfl, rfl, s8 _ _ (s7b _ _ upd_same), upd_same, Nat.le_trans (show (xs1 ++ xs2).length + 1 ≤ 100000 by rw [List.length_append]; omega) (by decide), fun o5 ho5 => ?_⟩
    have s9 := same_new ho5 (.lst (xs1 ++ xs2 ++ [V.ref n3]))
    have sA := s6.trans (s7.trans (s7b.trans (s8.trans s9)))
    have sAll := s15.trans sA
    refine q o5 _ _ sAll ?_ upd_same ?_
    · cases e : H o5 with
      | none => rfl
      | some u => have z := (s15.trans (s6.trans (s7.trans (s7b.trans s8)))) o5 u e; rw [ho5] at z; cases z
    · exact A2.app (A2.app (nds_same (s35.trans sA) hx1) (nds_same (s7.trans (s7b.trans (s8.trans s9))) hx2)) ⟨⟨n3, a, rfl, s9 _ _ (s8 _ _ upd_same), sAll _ _ ha⟩, trivial⟩
theorem nodes0 {ps : List Str} : FnOk P w K mg base CX0 0 f fd ps (spNodes K 0) := by
  have no : ∀ vs H Q E, ¬ spNodes K 0 vs H Q E := fun vs H Q E h => by
    obtain ⟨x, a, t, pl, _, _, _, _, _, h1, _⟩ := h
    cases t <;> simp [Ns.LT.high] at h1
  exact ⟨fun vs H Q E h => absurd h (no vs H Q E), fun A outer s H args us vs Q E _ _ _ _ h => absurd h (no vs H Q E)⟩
theorem all_nodes (F : Fun K "_law_nodes" "_law_nodes" sNodes f fd) (b : Binds K fd ["_law_paper", "_law_place"] []) (m : mg "_law_nodes" = some (.ref f)) : ∀ n : Nat, FnOk P w K mg base CX0 n f fd ["_law_paper", "_law_place"] (spNodes K n)
  | 0 => nodes0
  | n + 1 => ok_nodes F b m (all_nodes F b m n)
end
end Km
/-! KtL -/
set_option Elab.async false
set_option linter.all false
set_option maxRecDepth 100000
set_option maxHeartbeats 2000000
namespace Ns
open PySem PySem.Spec PyProof.Rows L2
/-- the names of a row are different -/
theorem take_new {ns : List Nd} (nd : (ns.map (·.1)).Nodup) {i : Nat} {p : Nd} (h : ns[i]? = some p) : ns.take (i + 1) = ns.take i ++ [p] ∧ p.1 ∉ (ns.take i).map (·.1) := by
  have tk : ns.take (i + 1) = ns.take i ++ [p] := by rw [List.take_succ, h]; rfl
  refine ⟨tk, fun e => ?_⟩
  have z : ((ns.take (i + 1)).map (·.1)).Nodup := nd.sublist ((List.take_sublist _ _).map _)
  rw [tk, List.map_append] at z
  exact (List.nodup_append.mp z).2.2 _ e _ (List.mem_singleton.mpr rfl) rfl
theorem drop_cut {α : Type} {ps : List α} {i : Nat} {p : α} (h : ps[i]? = some p) : ps.drop i = p :: ps.drop (i + 1) := by
  have hlt := (List.getElem?_eq_some_iff.mp h).1
  rw [List.drop_eq_getElem_cons hlt]
  have := List.getElem?_eq_getElem hlt
  rw [this] at h
  rw [Option.some.inj h]
end Ns
namespace Km
open PySem PySem.Spec PyProof.Rows L2 Ns
abbrev sDue : Stmt := top 24
abbrev sLRoom : Stmt := top 25
def Nodes (K : PySem.W.Frag) (H : Hp) (a : Addr) (ns : List Nd) : Prop := ∃ xs, H a = some (.lst xs) ∧ NdsH H xs ns ∧ (ns.map (·.1)).Nodup ∧ ns.length ≤ 1000
theorem Nodes.same {K : PySem.W.Frag} {H H1 : Hp} {a : Addr} {ns : List Nd} (e : Same H H1) (h : Nodes K H a ns) : Nodes K H1 a ns := by
  obtain ⟨xs, h1, h2, h3, h4⟩ := h
  exact ⟨xs, e _ _ h1, nds_same e h2, h3, h4⟩
def spDue (K : PySem.W.Frag) : Sp := fun vs H Q _ => ∃ (a o : Addr) (ns : List Nd) (ps : List Pl), vs = [.ref a, .ref o] ∧ Nodes K H a ns ∧ RowP K H o ps ∧ ps.length ≤ 5000 ∧ (∀ p ∈ ps, p.length ≤ 1000) ∧
  (faultF ns [] ps = none → ∀ H', Same H H' → Q .non H') ∧ ∀ i k, faultF ns [] ps = some (i, k) → ∀ a H', Same H H' → H' a = some (.tup [.int (i : Nat), .str k]) → Q (.ref a) H'
abbrev nDue : List Str := ["_law_nodes_here", "_law_order", "_law_wishes", "_law_node", "_law_read", "_law_at", "_law_place"]
theorem scDue : FnScope nDue ["_law_nodes_here", "_law_order"] (defScope sDue) := ⟨rfl, rfl, rfl, by decide +kernel, rfl, by decide +kernel, by decide +kernel⟩
def spLRoom (K : PySem.W.Frag) : Sp := fun vs H Q _ => ∃ (a o : Addr) (ns : List Nd) (ps : List Pl), vs = [.ref a, .ref o] ∧ Nodes K H a ns ∧ RowP K H o ps ∧ (∀ p ∈ ps, ∃ b, lkp ns p = some b) ∧ ∀ H', Same H H' → Q (.int (roomF ns 0 0 ps)) H'
abbrev nLRoom : List Str := ["_law_nodes_here", "_law_order", "_law_leaves", "_law_node", "_law_held", "_law_room_here", "_law_place"]
theorem scLRoom : FnScope nLRoom ["_law_nodes_here", "_law_order"] (defScope sLRoom) := ⟨rfl, rfl, rfl, by decide +kernel, rfl, by decide +kernel, by decide +kernel⟩
/-- not wishes[place] and (place + (0,) not in read or place + (1,) not in read) -/
def tEarlyT : TT := fun σ H Q => ∃ (L R b : Addr) (ns : List Nd) (ps : List Pl) (pl : Pl) (lf : Bool), σ[2]? = some (some (.ref L)) ∧ σ[4]? = some (some (.ref R)) ∧ σ[6]? = some (some (.ref b)) ∧ H L = some (.dT (kvN ns)) ∧ H R = some (.dT (kvR ps)) ∧ H b = some (.tup (pl.map V.int)) ∧ lkp ns pl = some lf ∧ pl.length ≤ 1000 ∧
  ∀ H', Same H H' → Q (decide (lkp ns pl = some false ∧ (pl ++ [0] ∉ ps ∨ pl ++ [1] ∉ ps))) H'
theorem w_early {K : PySem.W.Frag} : ∀ σ H Q, tEarlyT σ H Q → tAnd (tNot (tB (tDGet (tVar 2) (tVar 6)))) (tOr (tB (tDNotIn (tOp (rCatA K) (tVar 6) (tTup (tCons (tC (.int 0)) tNil))) (tVar 4))) (tB (tDNotIn (tOp (rCatA K) (tVar 6) (tTup (tCons (tC (.int 1)) tNil))) (tVar 4)))) σ H Q := by
  rintro σ H Q ⟨L, R, b, ns, ps, pl, lf, e2, e4, e6, eL, eR, hb, hk, hl, q⟩
  have g := dget_N eL hb
  rw [hk] at g q
  refine ⟨_, e2, _, e6, L, _, rfl, g, _, rfl, ?_⟩
  cases lf with
  | true =>
    have q0 := q H (Same.refl H)
    rw [decide_eq_false (fun z => by cases z.1)] at q0
    exact iteF q0
  | false =>
    refine iteT ⟨_, e6, by show 1 ≤ sizeLine; decide, fun t1 ht1 => ?_⟩
    have s1 := same_new ht1 (.tup [V.int 0])
    refine place_snoc (s1 _ _ hb) upd_same hl fun p1 H2 s2 h2 => ?_
    have s12 := s1.trans s2
    refine ⟨_, e4, R, _, rfl, dget_R (s12 _ _ eR) h2, _, rfl, ?_⟩
    by_cases c0 : pl ++ [0] ∈ ps
    · rw [if_pos c0]
      refine iteF ⟨_, e6, by show 1 ≤ sizeLine; decide, fun t3 ht3 => ?_⟩
      have s3 := same_new ht3 (.tup [V.int 1])
      have s13 := s12.trans s3
      refine place_snoc (s13 _ _ hb) upd_same hl fun p3 H4 s4 h4 => ?_
      have s14 := s13.trans s4
      refine ⟨_, e4, R, _, rfl, dget_R (s14 _ _ eR) h4, _, rfl, ?_⟩
      have q4 := q H4 s14
      by_cases c1 : pl ++ [1] ∈ ps
      · rw [decide_eq_false (fun z => by rcases z.2 with z | z; exact z c0; exact z c1)] at q4
        rw [if_pos c1]
        exact q4
      · rw [decide_eq_true ⟨rfl, .inr c1⟩] at q4
        rw [if_neg c1]
        exact q4
    · have q2 := q H2 s12
      rw [decide_eq_true ⟨rfl, .inl c0⟩] at q2
      rw [if_neg c0]
      exact iteT q2
section
variable {P : Program} {w : World} {K : PySem.W.Frag} {mg : Str → Option Value} {base : Heap} {f : Addr} {fd : FuncData}
theorem ok_due {k : Nat} (T : Blt mg) (F : Fun K "_law_due" "_law_due" sDue f fd) : FnOk P w K mg base CX0 (k + 1) f fd ["_law_nodes_here", "_law_order"] (spDue K) := by
  refine F.ok scDue (fun vs H Q E h => ?_) (fun cdv A outer s H vs Q E hr h => ?_)
  · obtain ⟨a, o, ns, ps, rfl, _⟩ := h
    rfl
  obtain ⟨a, o, ns, ps, rfl, ⟨nx, eN, rN, ndN, lN⟩, hP, h5, hl, qn, qs⟩ := h
  have nd := scDue.nd
  have hu : (A.deeper (envOfC "_law_due" (defScope sDue) s.heap.objs.size f cdv)).units + 1 < cLine := Nat.lt_of_le_of_lt (by omega) hr.units
  refine ⟨_, pss_cons (ps_set (i := 2) nd rfl (Or.inl rfl) pe_dnewT)
    (pss_cons (ps_for PassesOwn.never rfl (pi_list (pv 0)) (pg_name (i := 3) nd rfl (Or.inl rfl)) (pss_one (ps_dput hu (pv 2) (pe_ix ix_tup (pv 3) pe_int (fun _ _ => rfl)) (pe_ix ix_tup (pv 3) pe_int (fun _ _ => rfl)) rfl)))
    (pss_cons (ps_set (i := 4) nd rfl (Or.inl rfl) pe_dnewT)
    (pss_cons (ps_for PassesOwn.never rfl (pi_range1 rfl T.mran (pa_cons (pe_callB call_len_seq rfl T.mlen PySem.boot_len (pa_cons (pv 1) pa_nil)) pa_nil)) (pg_name (i := 5) nd rfl (Or.inl rfl))
      (pss_cons (ps_set (i := 6) nd rfl (Or.inl rfl) (pe_ix ix_tup (pv 1) (pv 5) (fun _ _ => rfl)))
      (pss_cons (ps_if (pt_cmp (pc_dnotin hu (pv 6) (pv 2))) (pss_one (ps_ret (pe_tup (pa_cons (pv 5) (pa_cons pe_str pa_nil))))) pss_nil)
      (pss_cons (ps_if (pt_cmp (pc_din hu (pv 6) (pv 4))) (pss_one (ps_ret (pe_tup (pa_cons (pv 5) (pa_cons pe_str pa_nil))))) pss_nil)
      (pss_cons (ps_if (pt_weak (PW.pt (pw_and (pt_not (pt_val (pe_dget hu (pv 2) (pv 6) (fun _ _ => rfl)))) (pw_and1 (PW.pt (pw_or (pt_cmp (pc_dnotin hu (pe_op op_catA (pv 6) (pe_tup (pa_cons pe_int pa_nil))) (pv 4))) (pw_or1 (pt_cmp (pc_dnotin hu (pe_op op_catA (pv 6) (pe_tup (pa_cons pe_int pa_nil))) (pv 4))))))))) w_early) (pss_one (ps_ret (pe_tup (pa_cons (pv 5) (pa_cons pe_str pa_nil))))) pss_nil)
      (pss_one (ps_dput hu (pv 4) (pv 6) pe_bl rfl)))))))
    (pss_cons (ps_if (pt_cmpR op_lt (pe_callB call_len_dT rfl T.mlen PySem.boot_len (pa_cons (pv 4) pa_nil)) (pe_callB call_len_dT rfl T.mlen PySem.boot_len (pa_cons (pv 2) pa_nil)) (nomark _))
      (pss_one (ps_ret (pe_tup (pa_cons (pe_callB call_len_dT rfl T.mlen PySem.boot_len (pa_cons (pv 4) pa_nil)) (pa_cons pe_str pa_nil))))) pss_nil)
    (pss_one (ps_ret pe_non)))))), ?_⟩
  obtain ⟨xs, hxs, eX⟩ := hP
  have lx := eX.len
  have ln := rN.len
  refine fun L hL => ?_
  have s0 := same_new hL (.dT [])
  refine ⟨_, rfl, a, rfl, ⟨nx, .inl (.inl (s0 _ _ eN))⟩, for_list (K := K) (xs := nx) (fun i σ H2 => ∃ y3 : Option V, σ = [some (.ref a), some (.ref o), some (.ref L), y3, none, none, none] ∧ Same H H2 ∧ H2 L = some (.dT (kvN (ns.take i))))
    ⟨none, rfl, s0, upd_same⟩ (fun i σ H2 _ ⟨_, _, sm, _⟩ => .inl (.inl (sm _ _ eN))) ?_ ?_⟩
  · rintro i y σ H2 hi ⟨y3, rfl, sm, eL⟩
    obtain ⟨p, hp, hy⟩ := rN.at_ hi
    have hlt : i < ns.length := (List.getElem?_eq_some_iff.mp hp).1
    obtain ⟨c, d, rfl, hc, hd⟩ := hy.same sm
    obtain ⟨tk, new⟩ := take_new ndN hp
    refine ⟨_, rfl, c, _, 1, _, rfl, rfl, SqT.of hc, atI_nat (j := 1) rfl, _, rfl, _, rfl, c, _, 0, _, rfl, rfl, SqT.of hc, atI_nat (j := 0) rfl, L, _, rfl, DPut.t (k := kk p.1) eL (by rw [kk_map]; exact hd) (Nat.lt_of_le_of_lt (show (kvN (ns.take i)).length ≤ 1000 by unfold kvN; rw [List.length_map, List.length_take]; omega) (by decide)), ?_⟩
    refine ⟨_, rfl, fun z u e => ?_, ?_⟩
    · rw [upd_ne (ne_of_none e hL)]
      exact sm _ _ e
    · rw [upd_same, put_N new, tk]
  rintro σ H1 ⟨y3, rfl, s1, eL⟩
  rw [ln, List.take_length] at eL
  refine fun R hR => ?_
  have s2 := same_new hR (.dT [])
  have s12 := s1.trans s2
  have nR : H R = none := by
    cases e : H R with
    | none => rfl
    | some u => have z := s1 R u e; rw [hR] at z; cases z
  have nLR : L ≠ R := fun z => by rw [z, hR] at eL; cases eL
  refine ⟨_, rfl, o, xs, rfl, .inr (sqT_same s12 hxs), (xs.length : Int), rfl, by omega, by omega, for_range (n := xs.length) (fun i σ H2 => ∃ (y3 y5 y6 : Option V), σ = [some (.ref a), some (.ref o), some (.ref L), y3, some (.ref R), y5, y6] ∧ Same H H2 ∧ H2 L = some (.dT (kvN ns)) ∧ H2 R = some (.dT (kvR (ps.take i))) ∧ faultF ns [] ps = faultF ns (ps.take i) (ps.drop i))
    ⟨_, none, none, rfl, s12, s2 _ _ eL, upd_same, rfl⟩ ?_ ?_⟩
  · rintro i σ H2 hi ⟨y3, y5, y6, rfl, sm, eL2, eR2, hf⟩
    have hx : xs[i]? = some xs[i] := List.getElem?_eq_getElem hi
    generalize xs[i] = y at hx
    obtain ⟨pl, hp, hy⟩ := eX.at_ hx
    have hlt : i < ps.length := (List.getElem?_eq_some_iff.mp hp).1
    have tk : ps.take (i + 1) = ps.take i ++ [pl] := by rw [List.take_succ, hp]; rfl
    have cut := drop_cut hp
    rw [cut] at hf
    obtain ⟨b, rfl, hb⟩ := hy.same sm
    have ei : (0 : Int) + (i : Int) = ((i : Nat) : Int) := by omega
    have ret : ∀ (k : Str) {H3 : Hp}, stpF ns (ps.take i) pl = some k → Same H H3 → ∀ p, H3 p = none → Q (.ref p) (upd H3 p (.tup [.int (0 + (i : Int)), .str k])) := fun k H3 hk s3 p hp3 => by
      rw [fault_at hk, List.length_take, Nat.min_eq_left (Nat.le_of_lt hlt)] at hf
      rw [ei]
      exact qs i k hf p _ (s3.trans (same_new hp3 _)) upd_same
    refine ⟨_, rfl, _, rfl, o, _, _, _, rfl, rfl, sqT_same sm hxs, atI_of ei hx, ?_⟩
    have llen : (kvR (ps.take i)).length < sizeLine := Nat.lt_of_le_of_lt (show (kvR (ps.take i)).length ≤ 5000 by unfold kvR; rw [List.length_map, List.length_take]; omega) (by decide)
    refine ⟨_, rfl, _, rfl, L, _, rfl, dget_N eL2 hb, _, rfl, ?_⟩
    cases hk : lkp ns pl with
    | none =>
      have e : stpF ns (ps.take i) pl = some ("node" : Str) := if_pos hk
      exact iteT ⟨_, rfl, by show 2 ≤ sizeLine; decide, ret _ e sm⟩
    | some lf =>
      have n1 : ¬ lkp ns pl = none := fun z => by rw [z] at hk; cases hk
      refine iteF ⟨_, rfl, _, rfl, R, _, rfl, dget_R eR2 hb, _, rfl, ?_⟩
      by_cases c : pl ∈ ps.take i
      · rw [if_pos c]
        have e : stpF ns (ps.take i) pl = some ("again" : Str) := by
          unfold stpF
          rw [if_neg n1, if_pos c]
        exact iteT ⟨_, rfl, by show 2 ≤ sizeLine; decide, ret _ e sm⟩
      · rw [if_neg c]
        refine iteF ⟨L, R, b, ns, ps.take i, pl, lf, rfl, rfl, rfl, eL2, eR2, hb, hk, hl pl (List.mem_of_getElem? hp), fun H3 s3 => ?_⟩
        have sm3 := sm.trans s3
        by_cases ce : lkp ns pl = some false ∧ (pl ++ [0] ∉ ps.take i ∨ pl ++ [1] ∉ ps.take i)
        · have e : stpF ns (ps.take i) pl = some ("early" : Str) := by
            unfold stpF
            rw [if_neg n1, if_neg c, if_pos ce]
          exact iteD ce ⟨_, rfl, by show 2 ≤ sizeLine; decide, ret _ e sm3⟩
        · have e : stpF ns (ps.take i) pl = none := by
            unfold stpF
            rw [if_neg n1, if_neg c, if_neg ce]
          rw [fault_go e] at hf
          have eR3 := s3 _ _ eR2
          refine iteND ce ⟨_, rfl, _, rfl, R, _, rfl, DPut.t (k := kk pl) eR3 (by rw [kk_map]; exact s3 _ _ hb) llen, ?_⟩
          refine ⟨_, _, _, rfl, fun z u e => ?_, (upd_ne nLR).trans (s3 _ _ eL2), ?_, ?_⟩
          · rw [upd_ne (ne_of_none e nR)]
            exact sm3 _ _ e
          · rw [upd_same, put_R c, tk]
          · rw [hf, tk]
  · rintro σ H2 ⟨y3, y5, y6, rfl, sm, eL2, eR2, hf⟩
    rw [lx, List.take_length] at eR2
    rw [lx, List.take_length, List.drop_length] at hf
    refine ⟨_, rfl, R, _, rfl, eR2, _, rfl, L, _, rfl, eL2, _, _, rfl, rfl, _, rfl, ?_⟩
    have l1 : (kvR ps).length = ps.length := List.length_map _
    have l2 : (kvN ns).length = ns.length := List.length_map _
    rw [l1, l2]
    have hf2 : faultF ns [] ps = if ps.length < ns.length then some (ps.length, ("missing" : Str)) else none := hf
    by_cases c : ps.length < ns.length
    · rw [if_pos c] at hf2
      refine iteD (by omega) ⟨_, rfl, R, _, rfl, eR2, by show 2 ≤ sizeLine; decide, fun p hp => ?_⟩
      rw [l1]
      exact qs _ _ hf2 p _ (sm.trans (same_new hp _)) upd_same
    · rw [if_neg c] at hf2
      exact iteND (by omega) (qn hf2 _ sm)
theorem ok_lroom {k : Nat} (T2 : Blt2 mg) (F : Fun K "_law_room" "_law_room" sLRoom f fd) : FnOk P w K mg base CX0 (k + 1) f fd ["_law_nodes_here", "_law_order"] (spLRoom K) := by
  refine F.ok scLRoom (fun vs H Q E h => ?_) (fun cdv A outer s H vs Q E hr h => ?_)
  · obtain ⟨a, o, ns, ps, rfl, _⟩ := h
    rfl
  obtain ⟨a, o, ns, ps, rfl, ⟨nx, eN, rN, ndN, lN⟩, hP, hin, q⟩ := h
  have nd := scLRoom.nd
  have hu : (A.deeper (envOfC "_law_room" (defScope sLRoom) s.heap.objs.size f cdv)).units + 1 < cLine := Nat.lt_of_le_of_lt (by omega) hr.units
  refine ⟨_, pss_cons (ps_set (i := 2) nd rfl (Or.inl rfl) pe_dnewT)
    (pss_cons (ps_for PassesOwn.never rfl (pi_list (pv 0)) (pg_name (i := 3) nd rfl (Or.inl rfl)) (pss_one (ps_dput hu (pv 2) (pe_ix ix_tup (pv 3) pe_int (fun _ _ => rfl)) (pe_ix ix_tup (pv 3) pe_int (fun _ _ => rfl)) rfl)))
    (pss_cons (ps_set (i := 4) nd rfl (Or.inl rfl) pe_int)
    (pss_cons (ps_set (i := 5) nd rfl (Or.inl rfl) pe_int)
    (pss_cons (ps_for PassesOwn.never rfl (pi_tup (pv 1)) (pg_name (i := 6) nd rfl (Or.inl rfl))
      (pss_cons (ps_if (pt_val (pe_dget hu (pv 2) (pv 6) (fun _ _ => rfl))) (pss_one (ps_set (i := 4) nd rfl (Or.inl rfl) (pe_op op_add (pv 4) pe_int))) (pss_one (ps_set (i := 4) nd rfl (Or.inl rfl) (pe_op op_sub (pv 4) pe_int))))
      (pss_one (ps_set (i := 5) nd rfl (Or.inl rfl) (pe_callB (call_max2 rfl) rfl T2.mmax PyProof.Rows.boot_max (pa_cons (pv 5) (pa_cons (pv 4) pa_nil)))))))
    (pss_one (ps_ret (pv 5))))))), ?_⟩
  obtain ⟨xs, hxs, eX⟩ := hP
  have lx := eX.len
  have ln := rN.len
  refine fun L hL => ?_
  have s0 := same_new hL (.dT [])
  refine ⟨_, rfl, a, rfl, ⟨nx, .inl (.inl (s0 _ _ eN))⟩, for_list (K := K) (xs := nx) (fun i σ H2 => ∃ y3 : Option V, σ = [some (.ref a), some (.ref o), some (.ref L), y3, none, none, none] ∧ Same H H2 ∧ H2 L = some (.dT (kvN (ns.take i))))
    ⟨none, rfl, s0, upd_same⟩ (fun i σ H2 _ ⟨_, _, sm, _⟩ => .inl (.inl (sm _ _ eN))) ?_ ?_⟩
  · rintro i y σ H2 hi ⟨y3, rfl, sm, eL⟩
    obtain ⟨p, hp, hy⟩ := rN.at_ hi
    have hlt : i < ns.length := (List.getElem?_eq_some_iff.mp hp).1
    obtain ⟨c, d, rfl, hc, hd⟩ := hy.same sm
    obtain ⟨tk, new⟩ := take_new ndN hp
    refine ⟨_, rfl, c, _, 1, _, rfl, rfl, SqT.of hc, atI_nat (j := 1) rfl, _, rfl, _, rfl, c, _, 0, _, rfl, rfl, SqT.of hc, atI_nat (j := 0) rfl, L, _, rfl, DPut.t (k := kk p.1) eL (by rw [kk_map]; exact hd) (Nat.lt_of_le_of_lt (show (kvN (ns.take i)).length ≤ 1000 by unfold kvN; rw [List.length_map, List.length_take]; omega) (by decide)), ?_⟩
    refine ⟨_, rfl, fun z u e => ?_, ?_⟩
    · rw [upd_ne (ne_of_none e hL)]
      exact sm _ _ e
    · rw [upd_same, put_N new, tk]
  rintro σ H1 ⟨y3, rfl, s1, eL⟩
  rw [ln, List.take_length] at eL
  refine ⟨_, rfl, o, rfl, ⟨xs, sqT_same s1 hxs⟩, for_tup (K := K) (xs := xs) (fun i σ H3 => ∃ (y6 : Option V) (h m : Int), σ = [some (.ref a), some (.ref o), some (.ref L), y3, some (.int h), some (.int m), y6] ∧ H3 = H1 ∧ roomF ns 0 0 ps = roomF ns h m (ps.drop i))
    ⟨none, 0, 0, rfl, rfl, rfl⟩ (fun i σ H3 _ ⟨_, _, _, _, e, _⟩ => by rw [e]; exact sqT_same s1 hxs) ?_ ?_⟩
  · rintro i y σ H3 hi ⟨y6, h, m, rfl, rfl, hf⟩
    obtain ⟨pl, hp, hy⟩ := eX.at_ hi
    have cut := drop_cut hp
    obtain ⟨b, hb⟩ := hin pl (List.mem_of_getElem? hp)
    obtain ⟨c, rfl, hc⟩ := hy.same s1
    have g := dget_N eL hc
    rw [hb] at g
    have hf2 : roomF ns 0 0 ps = roomF ns (if lkp ns pl = some true then h + 1 else h - 1) (max m (if lkp ns pl = some true then h + 1 else h - 1)) (ps.drop (i + 1)) := by rw [hf, cut]; rfl
    rw [hb] at hf2
    refine ⟨_, rfl, _, rfl, L, _, rfl, g, _, rfl, ?_⟩
    cases b with
    | true =>
      refine iteT ⟨_, rfl, _, _, rfl, rfl, ?_⟩
      refine ⟨_, rfl, _, rfl, _, _, rfl, ?_⟩
      rw [if_pos rfl] at hf2
      rw [show (if h + 1 > m then h + 1 else m) = max m (h + 1) by split <;> omega]
      exact ⟨_, _, _, rfl, rfl, hf2⟩
    | false =>
      refine iteF ⟨_, rfl, _, _, rfl, rfl, ?_⟩
      refine ⟨_, rfl, _, rfl, _, _, rfl, ?_⟩
      rw [if_neg (fun z => by cases z)] at hf2
      rw [show (if h - 1 > m then h - 1 else m) = max m (h - 1) by split <;> omega]
      exact ⟨_, _, _, rfl, rfl, hf2⟩
  · rintro σ H3 ⟨y6, h, m, rfl, rfl, hf⟩
    rw [lx, List.drop_length] at hf
    have hf2 : roomF ns 0 0 ps = m := hf
    refine ⟨_, rfl, ?_⟩
    rw [← hf2]
    exact q _ s1
end
end Km
/-! KtM -/
set_option Elab.async false
set_option linter.all false
set_option maxRecDepth 100000
set_option maxHeartbeats 2000000
namespace Ns
open PySem PySem.Spec PySem.Calls PySem.SeqAt PySem.W PyProof.Rows L2
def dPl (pl : Pl) : PyData := .tuple (pl.map .int)
theorem dp_ints {K : PySem.W.Frag} {H : Hp} : ∀ pl : List Int, DpAll K H (pl.map V.int) (pl.map .int)
  | [] => .nil
  | i :: r => .cons (.int i) (dp_ints r)
theorem dp_at {K : PySem.W.Frag} {H : Hp} {b : Addr} {pl : Pl} (h : H b = some (.tup (pl.map V.int))) : Dp K H (.ref b) (dPl pl) := .tup (SqT.of h) (dp_ints pl)
theorem eqv_ints : ∀ r q : List Int, PyData.eqvAll (r.map .int) (q.map .int) = decide (r = q)
  | [], [] => rfl
  | [], _ :: _ => rfl
  | _ :: _, [] => rfl
  | a :: r, b :: q => by
    show (PyData.eqv (.int a) (.int b) && PyData.eqvAll (r.map .int) (q.map .int)) = _
    rw [eqv_ints r q]
    refine Bool.eq_iff_iff.mpr ?_
    simp [PyData.eqv]
theorem eqv_pl (p q : Pl) : PyData.eqv (dPl p) (dPl q) = decide (p = q) := eqv_ints p q
theorem ints_depth : ∀ pl : List Int, PyData.canLayAll0 (pl.map .int) = true ∧ PyData.depthAll (pl.map .int) = 0
  | [] => ⟨rfl, rfl⟩
  | i :: r => by
    have h := ints_depth r
    refine ⟨?_, ?_⟩
    · show (PyData.canLay0 (.int i) && PyData.canLayAll0 (r.map .int)) = true
      rw [h.1]; rfl
    · simp only [List.map_cons, PyData.depthAll, PyData.depth, h.2]
      rfl
theorem pl_shaped (pl : Pl) : shaped (dPl pl) = true := by
  have h := ints_depth pl
  unfold shaped
  rw [Bool.and_eq_true, decide_eq_true_eq]
  refine ⟨h.1, ?_⟩
  simp only [dPl, PyData.depth, h.2]
  omega
/-- the sides stand ahead of their node -/
def Sided (ns : List Nd) : Prop := ∀ A pl B, ns = A ++ (pl, false) :: B → pl ++ [0] ∈ A.map (·.1) ∧ pl ++ [1] ∈ A.map (·.1)
theorem nds_sided (t : LT) (p0 : Pl) : Sided (ndsOf p0 t) := by
  intro A pl B h
  rw [← post_nds] at h
  obtain ⟨A', r', e1, e2, e3⟩ := List.map_eq_append_iff.mp h
  obtain ⟨x, B', e4, e5, e6⟩ := List.map_eq_cons_iff.mp e3
  obtain ⟨q, u⟩ := x
  injection e5 with e7 e8
  have e7' : q = pl := e7
  have e8' : u.isW = false := e8
  cases u with
  | wish i => cases e8'
  | frm nm line l r =>
    subst e7'
    have z := post_sides t p0 A' B' q nm line l r (by rw [e1, e4])
    rw [← e2, List.map_map]
    exact ⟨List.mem_map.mpr ⟨_, z.1, rfl⟩, List.mem_map.mpr ⟨_, z.2, rfl⟩⟩
abbrev Ready (ord : List Pl) (p : Nd) : Prop := p.2 = true ∨ (p.1 ++ [0] ∈ ord ∧ p.1 ++ [1] ∈ ord)
theorem some_ready {ns : List Nd} (hs : Sided ns) {ord : List Pl} : ∀ (B A : List Nd), ns = A ++ B → (∀ p ∈ A, p.1 ∈ ord) → (∃ p ∈ B, p.1 ∉ ord) → ∃ p ∈ B, p.1 ∉ ord ∧ Ready ord p
  | [], A, _, _, ⟨p, hp, _⟩ => nomatch hp
  | q :: B, A, e, hA, ⟨p, hp, hn⟩ => by
    by_cases c : q.1 ∈ ord
    · have hp2 : p ∈ B := by
        rcases List.mem_cons.mp hp with z | z
        · rw [z] at hn; exact absurd c hn
        · exact z
      obtain ⟨u, h1, h2⟩ := some_ready hs B (A ++ [q]) (by rw [e, List.append_assoc]; rfl) (fun z hz => by
        rcases List.mem_append.mp hz with hz | hz
        · exact hA z hz
        · rw [List.mem_singleton.mp hz]; exact c) ⟨p, hp2, hn⟩
      exact ⟨u, List.mem_cons_of_mem _ h1, h2⟩
    · refine ⟨q, List.mem_cons_self, c, ?_⟩
      obtain ⟨pl, b⟩ := q
      cases b with
      | true => exact .inl rfl
      | false =>
        have z := hs A pl B e
        refine .inr ⟨?_, ?_⟩
        · obtain ⟨u, h1, h2⟩ := List.mem_map.mp z.1
          rw [← h2]; exact hA u h1
        · obtain ⟨u, h1, h2⟩ := List.mem_map.mp z.2
          rw [← h2]; exact hA u h1
theorem sub_len : ∀ (l m : List Pl), l.Nodup → (∀ x ∈ l, x ∈ m) → l.length ≤ m.length
  | [], m, _, _ => Nat.zero_le _
  | x :: l, m, nd, h => by
    have hx := h x List.mem_cons_self
    rw [List.nodup_cons] at nd
    have z := sub_len l (m.erase x) nd.2 (fun y hy => (List.mem_erase_of_ne (fun e : y = x => nd.1 (by rw [← e]; exact hy))).mpr (h y (List.mem_cons_of_mem _ hy)))
    rw [List.length_erase_of_mem hx] at z
    have pos : 0 < m.length := List.length_pos_of_mem hx
    rw [List.length_cons]
    omega
theorem stp_ready {ns : List Nd} (nd : (ns.map (·.1)).Nodup) {ord : List Pl} {p : Nd} (hp : p ∈ ns) (hn : p.1 ∉ ord) (hr : Ready ord p) : stpF ns ord p.1 = none := by
  have e : lkp ns p.1 = some p.2 := lkp_some nd hp
  unfold stpF
  rw [if_neg (fun z => by rw [e] at z; cases z), if_neg hn, if_neg]
  rintro ⟨h1, h2⟩
  rw [e] at h1
  have h3 := Option.some.inj h1
  rcases hr with h | h
  · rw [h] at h3; cases h3
  · rcases h2 with z | z
    · exact z h.1
    · exact z h.2
end Ns
namespace Km
open PySem PySem.Spec PyProof.Rows L2 Ns
abbrev sDrawn : Stmt := top 23
abbrev nDrawn : List Str := ["_law_nodes_here", "_law_draws_here", "_law_shift", "_law_order", "_law_read", "_law_waiting", "_law_node", "_law_k", "_law_ready", "_law_at", "_law_taken"]
abbrev pDrawn : List Str := ["_law_nodes_here", "_law_draws_here", "_law_shift"]
theorem scDrawn : FnScope nDrawn pDrawn (defScope sDrawn) := ⟨rfl, rfl, rfl, by decide +kernel, rfl, by decide +kernel, by decide +kernel⟩
def spDrawn (K : PySem.W.Frag) : Sp := fun vs H Q _ => ∃ (a o : Addr) (ns : List Nd) (ds : List Int) (sh : Nat), vs = [.ref a, .ref o, .int sh] ∧ Nodes K H a ns ∧ Sided ns ∧ (∀ p ∈ ns, p.1.length ≤ 1000) ∧ H o = some (.lst (ds.map V.int)) ∧ ds.length = 64 ∧ (∀ d ∈ ds, 0 ≤ d ∧ d < 60) ∧
  ∀ p H' (ord : List Pl), Same H H' → RowP K H' p ord → faultF ns [] ord = none → ord.length = ns.length → (∀ q ∈ ord, q ∈ ns.map (·.1)) → Q (.ref p) H'
/-- node[1] or (node[0] + (0,) in read and node[0] + (1,) in read) -/
def tReadyT : TT := fun σ H Q => ∃ (c d R : Addr) (ord : List Pl) (pl : Pl) (b : Bool), σ[6]? = some (some (.ref c)) ∧ σ[4]? = some (some (.ref R)) ∧ H c = some (.tup [.ref d, .bl b]) ∧ H d = some (.tup (pl.map V.int)) ∧ H R = some (.dT (kvR ord)) ∧ pl.length ≤ 1000 ∧
  ∀ H', Same H H' → Q (decide (Ready ord (pl, b))) H'
theorem w_ready {K : PySem.W.Frag} : ∀ σ H Q, tReadyT σ H Q → tOr (tB (tOp (rIxT K) (tVar 6) (tC (.int 1)))) (tAnd (tB (tDIn (tOp (rCatA K) (tOp (rIxT K) (tVar 6) (tC (.int 0))) (tTup (tCons (tC (.int 0)) tNil))) (tVar 4))) (tB (tDIn (tOp (rCatA K) (tOp (rIxT K) (tVar 6) (tC (.int 0))) (tTup (tCons (tC (.int 1)) tNil))) (tVar 4)))) σ H Q := by
  rintro σ H Q ⟨c, d, R, ord, pl, b, e6, e4, hc, hd, eR, hl, q⟩
  refine ⟨_, e6, c, _, 1, _, rfl, rfl, SqT.of hc, atI_nat (j := 1) rfl, _, rfl, ?_⟩
  cases b with
  | true =>
    have q0 := q H (Same.refl H)
    rw [decide_eq_true (.inl rfl)] at q0
    exact iteT q0
  | false =>
    refine iteF ⟨_, e6, c, _, 0, _, rfl, rfl, SqT.of hc, atI_nat (j := 0) rfl, by show 1 ≤ sizeLine; decide, fun t1 ht1 => ?_⟩
    have s1 := same_new ht1 (.tup [V.int 0])
    refine place_snoc (s1 _ _ hd) upd_same hl fun p1 H2 s2 h2 => ?_
    have s12 := s1.trans s2
    refine ⟨_, e4, R, _, rfl, dget_R (s12 _ _ eR) h2, _, rfl, ?_⟩
    by_cases c0 : pl ++ [0] ∈ ord
    · rw [if_pos c0]
      refine iteT ⟨_, e6, c, _, 0, _, rfl, rfl, SqT.of (s12 _ _ hc), atI_nat (j := 0) rfl, by show 1 ≤ sizeLine; decide, fun t3 ht3 => ?_⟩
      have s3 := same_new ht3 (.tup [V.int 1])
      have s13 := s12.trans s3
      refine place_snoc (s13 _ _ hd) upd_same hl fun p3 H4 s4 h4 => ?_
      have s14 := s13.trans s4
      refine ⟨_, e4, R, _, rfl, dget_R (s14 _ _ eR) h4, _, rfl, ?_⟩
      have q4 := q H4 s14
      by_cases c1 : pl ++ [1] ∈ ord
      · rw [decide_eq_true (.inr ⟨c0, c1⟩)] at q4
        rw [if_pos c1]
        exact q4
      · rw [decide_eq_false (fun z => by rcases z with z | z; cases z; exact c1 z.2)] at q4
        rw [if_neg c1]
        exact q4
    · have q2 := q H2 s12
      rw [decide_eq_false (fun z => by rcases z with z | z; cases z; exact c0 z.1)] at q2
      rw [if_neg c0]
      exact iteF q2
theorem ps_weak {X : Cx} {st : Stmt} {t t' : TS} (h : PS X st t) (w : ∀ D σ H, t' D σ H → t D σ H) : PS X st t' := ⟨fun pins s σ H D I q => h.run pins s σ H D I (w D σ H q)⟩
abbrev tLen (K : PySem.W.Frag) (t : TE) : TE := tCB (fun xs H Q => ∃ p ys, xs = [V.ref p] ∧ (SqL K H p ys ∨ SqT K H p ys) ∧ Q (.int (ys.length : Int)) H) (tCons t tNil)
/-- the drawn place among the ready ones -/
def tAtS (K : PySem.W.Frag) : TS := fun D σ H => ∃ (y0 y1 y3 y4 y5 y6 y7 y10 : Option V) (sh z : Int) (a : Addr) (rx : List V), σ = [y0, y1, some (.int sh), y3, y4, y5, y6, y7, some (.ref a), some (.int z), y10] ∧ SqL K H a rx ∧ 0 ≤ z ∧ z < rx.length ∧
  ∀ z2 : Int, 0 ≤ z2 → z2 < rx.length → D.nx [y0, y1, some (.int sh), y3, y4, y5, y6, y7, some (.ref a), some (.int z2), y10] H
theorem w_at {K : PySem.W.Frag} : ∀ D σ H, tAtS K D σ H → tIfS (tTest (tOp rEq (tOp (rI (fun _ j => 0 < j) fun i j => .int (i % j)) (tVar 2) (tC (.int 5))) (tC (.int 4)))) (tAsg (tOp (rI0 fun i j => .int (i - j)) (tOp (rI0 fun i j => .int (i - j)) (tLen K (tVar 8)) (tC (.int 1))) (tOp (rI CDiv fun i j => .int (i / j)) (tVar 9) (tC (.int 2)))) (gName 9)) tNext D σ H := by
  rintro D σ H ⟨y0, y1, y3, y4, y5, y6, y7, y10, sh, z, a, rx, rfl, hS, z0, z1, q⟩
  refine ⟨_, rfl, _, _, rfl, rfl, (by show (0 : Int) < 5; decide), rfl, _, rfl, ite2 (fun _ => ?_) (fun _ => q z z0 z1)⟩
  refine ⟨_, rfl, a, _, rfl, .inl hS, _, _, rfl, rfl, _, rfl, _, _, rfl, rfl, ⟨by decide, by decide⟩, _, _, rfl, rfl, ?_⟩
  exact q _ (by omega) (by omega)
section
variable {P : Program} {w : World} {K : PySem.W.Frag} {mg : Str → Option Value} {base : Heap} {f : Addr} {fd : FuncData}
theorem ok_drawn {k : Nat} (T : Blt mg) (T2 : Blt2 mg) (F : Fun K "_law_drawn_order" "_law_drawn_order" sDrawn f fd) : FnOk P w K mg base CX0 (k + 1) f fd pDrawn (spDrawn K) := by
  refine F.ok scDrawn (fun vs H Q E h => ?_) (fun cdv A outer s H vs Q E hr h => ?_)
  · obtain ⟨a, o, ns, ds, sh, rfl, _⟩ := h
    rfl
  obtain ⟨a, o, ns, ds, sh, rfl, ⟨nx, eN, rN, ndN, lN⟩, hsd, hlo, hO, h64, hds, q⟩ := h
  have nd := scDrawn.nd
  have hu : (A.deeper (envOfC "_law_drawn_order" (defScope sDrawn) s.heap.objs.size f cdv)).units + 1 < cLine := Nat.lt_of_le_of_lt (by omega) hr.units
  have hu64 : (A.deeper (envOfC "_law_drawn_order" (defScope sDrawn) s.heap.objs.size f cdv)).units + 64 < cLine := hr.units
  refine ⟨_, (pss_cons (ps_set (i := 3) nd rfl (Or.inl rfl) (pe_lst pa_nil))
    (pss_cons (ps_set (i := 4) nd rfl (Or.inl rfl) pe_dnewT)
    (pss_cons (ps_setLc (i := 5) (own := [("_law_node", 6)]) (g := gName 6) (tt := tYes) rfl nd rfl rfl (sw_true rfl rfl rfl (by decide +kernel)) (pi_list (pv 0)) (blkOk_by (N := nDrawn) (sc := defScope sDrawn) (by decide +kernel)) (fun _ _ _ _ _ => pg_name (i := 6) nd rfl (Or.inl rfl)) (fun _ _ _ _ _ => pts_nil) (fun _ _ _ _ _ => (pv 6)))
    (pss_cons (ps_for PassesOwn.never rfl (pi_range1 rfl T.mran (pa_cons (pe_callB call_len_seq rfl T.mlen PySem.boot_len (pa_cons (pv 0) pa_nil)) pa_nil)) (pg_name (i := 7) nd rfl (Or.inl rfl)) (pss_cons (ps_set (i := 8) nd rfl (Or.inl rfl) (pe_lst pa_nil))
    (pss_cons (ps_for PassesOwn.never rfl (pi_list (pv 5)) (pg_name (i := 6) nd rfl (Or.inl rfl)) (pss_one (ps_if (pt_weak (PW.pt (pw_or (pt_val (pe_ix ix_tup (pv 6) pe_int (fun _ _ => rfl))) (pw_or1 (PW.pt (pw_and (pt_cmp (pc_din hu (pe_op op_catA (pe_ix ix_tup (pv 6) pe_int (fun _ _ => rfl)) (pe_tup (pa_cons pe_int pa_nil))) (pv 4))) (pw_and1 (pt_cmp (pc_din hu (pe_op op_catA (pe_ix ix_tup (pv 6) pe_int (fun _ _ => rfl)) (pe_tup (pa_cons pe_int pa_nil))) (pv 4))))))))) w_ready) (pss_one (ps_expr (pe_bm PySem.F.plainAttrs_list PySem.F.slot_list_append PySem.F.type_list_append mt_append (pv 8) (pa_cons (pv 6) pa_nil)))) pss_nil)))
    (pss_cons (ps_set (i := 9) nd rfl (Or.inl rfl) (pe_op op_mod (pe_op op_add (pe_ix ix_list (pv 1) (pe_op op_mod (pe_op op_add (pv 7) (pv 2)) (pe_callB call_len_seq rfl T.mlen PySem.boot_len (pa_cons (pv 1) pa_nil))) (fun _ _ => rfl)) (pv 2)) (pe_callB call_len_seq rfl T.mlen PySem.boot_len (pa_cons (pv 8) pa_nil))))
    (pss_cons (ps_weak (ps_if (pt_cmpR op_eq (pe_op op_mod (pv 2) pe_int) pe_int (nomark _)) (pss_one (ps_set (i := 9) nd rfl (Or.inl rfl) (pe_op op_sub (pe_op op_sub (pe_callB call_len_seq rfl T.mlen PySem.boot_len (pa_cons (pv 8) pa_nil)) pe_int) (pe_op op_fdiv (pv 9) pe_int)))) pss_nil) w_at)
    (pss_cons (ps_set (i := 10) nd rfl (Or.inr rfl) (pe_ix ix_list (pv 8) (pv 9) (fun _ _ => rfl)))
    (pss_cons (ps_expr (pe_bm PySem.F.plainAttrs_list PySem.F.slot_list_append PySem.F.type_list_append mt_append (pv 3) (pa_cons (pe_ix ix_tup (pv 10) pe_int (fun _ _ => rfl)) pa_nil)))
    (pss_cons (ps_dput hu (pv 4) (pe_ix ix_tup (pv 10) pe_int (fun _ _ => rfl)) pe_bl rfl)
    (pss_one (ps_setLc (i := 5) (own := [("_law_node", 6)]) (g := gName 6) (tt := tTest (tOp (rNeD K) (tOp (rIxT K) (tVar 6) (tC (.int 0))) (tOp (rIxT K) (tVar 10) (tC (.int 0))))) rfl nd rfl rfl (sw_true rfl rfl rfl (by decide +kernel)) (pi_list (pv 5)) (blkOk_by (N := nDrawn) (sc := defScope sDrawn) (by decide +kernel)) (fun _ _ _ _ _ => pg_name (i := 6) nd rfl (Or.inl rfl)) (fun _ _ _ _ _ => pts_one (pt_cmpR (op_neD hu64) (pe_ix (r := rIxT K) ix_tup (pv 6) pe_int (fun _ _ => rfl)) (pe_ix (r := rIxT K) ix_tup (pv 10) pe_int (fun _ _ => rfl)) (nomark _))) (fun _ _ _ _ _ => (pv 6))))))))))))
    (pss_one (ps_ret (pe_tupleOf rfl T2.mtup (pv 3)))))))), ?_⟩
  have lx := rN.len
  refine ⟨Nat.zero_le _, fun O hO0 => ?_⟩
  have s1 := same_new hO0 (.lst [])
  refine fun R hR => ?_
  have s2 := same_new hR (.dT [])
  have s12 := s1.trans s2
  have nR : H R = none := by
    cases e : H R with
    | none => rfl
    | some u => have z := s1 R u e; rw [hR] at z; cases z
  refine ⟨_, rfl, a, rfl, ⟨nx, .inl (.inl (s12 _ _ eN))⟩, fun W0 hW0 => ?_⟩
  refine lc_list (K := K) (xs := nx) (fun i H2 => H2 W0 = some (.lst (nx.take i)) ∧ Same (upd (upd H O (.lst [])) R (.dT [])) H2) ⟨upd_same, same_new hW0 _⟩ (fun i H2 _ ⟨_, sm⟩ => .inl (.inl (sm _ _ (s12 _ _ eN)))) ?_ ?_
  · rintro i x H2 hi ⟨eW, sm⟩
    refine ⟨rfl, _, rfl, nx.take i, eW, Nat.lt_of_le_of_lt (show (nx.take i).length ≤ 1000 by rw [List.length_take]; omega) (by decide), ?_, fun b1 u e => ?_⟩
    · rw [upd_same, List.take_succ, hi]
      rfl
    · rw [upd_ne (ne_of_none e hW0)]
      exact sm _ _ e
  rintro H1 ⟨eW, s3⟩
  rw [List.take_length] at eW
  have s13 := s12.trans s3
  refine ⟨_, rfl, a, nx, rfl, .inl (.inl (.inl (s13 _ _ eN))), (nx.length : Int), rfl, by omega, by omega, for_range (n := nx.length) (fun i σ H2 => ∃ (y6 y7 y8 y9 y10 : Option V) (W : Addr) (wx ox : List V) (ws : List Nd) (ord : List Pl),
      σ = [some (.ref a), some (.ref o), some (.int sh), some (.ref O), some (.ref R), some (.ref W), y6, y7, y8, y9, y10] ∧ Same H H2 ∧ H2 O = some (.lst ox) ∧ PlsH H2 ox ord ∧ H2 R = some (.dT (kvR ord)) ∧ H2 W = some (.lst wx) ∧ NdsH H2 wx ws ∧ W ≠ O ∧
      (∀ p ∈ ws, p ∈ ns ∧ p.1 ∉ ord) ∧ (∀ p ∈ ns, p.1 ∉ ord → p ∈ ws) ∧ ord.length = i ∧ ws.length ≤ 1000 ∧ (∀ q ∈ ord, q ∈ ns.map (·.1)) ∧ ∀ rest, faultF ns [] (ord ++ rest) = faultF ns ord rest)
    ⟨_, none, none, none, none, W0, nx, [], ns, [], rfl, s13, s3 _ _ (s2 _ _ upd_same), trivial, s3 _ _ upd_same, eW, nds_same s13 rN, fun z => ?_, fun p hp => ⟨hp, fun z => nomatch z⟩, fun p hp _ => hp, rfl, lN, (fun q hq => nomatch hq), fun rest => rfl⟩ ?_ ?_⟩
  · rw [z, s2 _ _ upd_same] at hW0
    cases hW0
  · rintro i σ H2 hi ⟨y6, y7, y8, y9, y10, W, wx, ox, ws, ord, rfl, sm, eO, pO, eR, eWx, rW, nWO, hws, hall, hlen, l1000, hsub, hF⟩
    have lox := pO.len
    have lwx := rW.len
    refine ⟨Nat.zero_le _, fun Ad hAd => ?_⟩
    have t1 := same_new hAd (.lst [])
    have keepA : ∀ {H3 : Hp} {u : HO}, Same H2 H3 → Same H2 (upd H3 Ad u) := fun s b z e => by
      rw [upd_ne (ne_of_none e hAd)]
      exact s _ _ e
    refine ⟨_, rfl, W, rfl, ⟨wx, .inl (.inl (t1 _ _ eWx))⟩, for_list (K := K) (xs := wx) (fun j σ H3 => ∃ (z6 : Option V) (rx : List V) (rs : List Nd), σ = [some (.ref a), some (.ref o), some (.int sh), some (.ref O), some (.ref R), some (.ref W), z6, some (.int (0 + (i : Int))), some (.ref Ad), y9, y10] ∧ Same H2 H3 ∧ H3 Ad = some (.lst rx) ∧ NdsH H3 rx rs ∧
        (∀ p ∈ rs, p ∈ ws ∧ Ready ord p) ∧ (∀ p ∈ ws.take j, Ready ord p → p ∈ rs) ∧ rs.length ≤ j)
      ⟨y6, [], [], rfl, t1, upd_same, trivial, (fun p hp => nomatch hp), (fun p hp => nomatch hp), Nat.le_refl _⟩ (fun j σ H3 _ ⟨_, _, _, _, s, _⟩ => .inl (.inl (s _ _ eWx))) ?_ ?_⟩
    · rintro j x σ H3 hj ⟨z6, rx, rs, rfl, t2, eA, rR, hr1, hr2, hrl⟩
      obtain ⟨p, hp, hx⟩ := rW.at_ hj
      have hjl : j < ws.length := (List.getElem?_eq_some_iff.mp hp).1
      have tk : ws.take (j + 1) = ws.take j ++ [p] := by rw [List.take_succ, hp]; rfl
      have hpw := List.mem_of_getElem? hp
      obtain ⟨c, d, rfl, hc, hd⟩ := hx.same t2
      refine ⟨c, d, R, ord, p.1, p.2, rfl, rfl, hc, hd, t2 _ _ eR, hlo p (hws p hpw).1, fun H4 t3 => ?_⟩
      by_cases cr : Ready ord (p.1, p.2)
      · have lrx := rR.len
        have eA4 := t3 _ _ eA
        refine iteD cr ⟨.ref Ad, rfl, .inl ⟨rfl, _, .inl (.inl eA4)⟩, _, rfl, Ad, _, _, rfl, rfl, eA4, Nat.lt_of_le_of_lt (show rx.length ≤ 1000 by omega) (by decide), ?_⟩
        have tt : TupS H4 (upd H4 Ad (.lst (rx ++ [.ref c]))) := TupS.upd eA4 fun _ z => nomatch z
        refine ⟨_, rx ++ [.ref c], rs ++ [p], rfl, keepA (t2.trans t3), upd_same, A2.app (nds_tu tt (nds_same t3 rR)) ⟨⟨c, d, rfl, tt _ _ (t3 _ _ hc), tt _ _ (t3 _ _ hd)⟩, trivial⟩, fun z hz => ?_, fun z hz hzr => ?_, by rw [List.length_append]; show _ + 1 ≤ _; omega⟩
        · rcases List.mem_append.mp hz with hz | hz
          · exact hr1 z hz
          · rw [List.mem_singleton.mp hz]; exact ⟨hpw, cr⟩
        · rw [tk] at hz
          rcases List.mem_append.mp hz with hz | hz
          · exact List.mem_append_left _ (hr2 z hz hzr)
          · exact List.mem_append_right _ hz
      · refine iteND cr ⟨_, rx, rs, rfl, t2.trans t3, t3 _ _ eA, nds_same t3 rR, hr1, fun z hz hzr => ?_, by omega⟩
        rw [tk] at hz
        rcases List.mem_append.mp hz with hz | hz
        · exact hr2 z hz hzr
        · rw [List.mem_singleton.mp hz] at hzr
          exact absurd hzr cr
    rintro σ H3 ⟨z6, rx, rs, rfl, t2, eA, rR, hr1, hr2, hrl⟩
    rw [lwx, List.take_length] at hr2
    have lrx := rR.len
    have some1 : ∃ p ∈ ns, p.1 ∉ ord := by
      refine Classical.byContradiction fun no => ?_
      have z := sub_len (ns.map (·.1)) ord ndN fun x hx => by
        obtain ⟨p, hp, rfl⟩ := List.mem_map.mp hx
        exact Classical.byContradiction fun c => no ⟨p, hp, c⟩
      rw [List.length_map] at z
      omega
    obtain ⟨p0, hp0, hn0, hy0⟩ := some_ready hsd ns [] rfl (fun p hp => nomatch hp) some1
    have rpos : 0 < rs.length := List.length_pos_of_mem (hr2 p0 (hall p0 hp0 hn0) hy0)
    have sm3 := sm.trans t2
    have l64 : (ds.map V.int).length = 64 := by rw [List.length_map, h64]
    have hOL : SqL K H3 o (ds.map V.int) := .inl (.inl (sm3 _ _ hO))
    have pos64 : (0 : Int) < (((ds.map V.int).length : Nat) : Int) := by rw [l64]; decide
    obtain ⟨j1, d1, hj1, hd1⟩ : ∃ (j : Nat) (d : Int), (0 + (i : Int) + (sh : Int)) % (((ds.map V.int).length : Nat) : Int) = (j : Int) ∧ (ds.map V.int)[j]? = some (.int d) := by
      rw [l64]
      have hj : ((0 + (i : Int) + (sh : Int)) % ((64 : Nat) : Int)).toNat < ds.length := by omega
      exact ⟨((0 + (i : Int) + (sh : Int)) % ((64 : Nat) : Int)).toNat, ds[((0 + (i : Int) + (sh : Int)) % ((64 : Nat) : Int)).toNat], by omega, by rw [List.getElem?_map, List.getElem?_eq_getElem hj]; rfl⟩
    have hAL : SqL K H3 Ad rx := .inl (.inl eA)
    refine ⟨_, rfl, _, rfl, _, rfl, _, _, rfl, rfl, _, rfl, o, _, rfl, .inl hOL, _, _, rfl, rfl, pos64, o, _, _, .int d1, rfl, rfl, hOL, atI_of hj1 hd1, _, rfl, _, _, rfl, rfl, _, rfl, Ad, _, rfl, .inl hAL, _, _, rfl, rfl, (by show (0 : Int) < (rx.length : Int); omega), ?_⟩
    refine ⟨_, _, _, _, _, _, _, _, _, _, Ad, rx, rfl, hAL, Int.emod_nonneg _ (by omega), Int.emod_lt_of_pos _ (by omega), fun z2 h20 h21 => ?_⟩
    have hz : rx[z2.toNat]? = some rx[z2.toNat] := List.getElem?_eq_getElem (by omega)
    generalize rx[z2.toNat] = tx at hz
    obtain ⟨p, hp, hx⟩ := rR.at_ hz
    have hpr := List.mem_of_getElem? hp
    obtain ⟨hpw, hpy⟩ := hr1 p hpr
    obtain ⟨hpn, hpo⟩ := hws p hpw
    have stp := stp_ready ndN hpn hpo hpy
    obtain ⟨c, d, rfl, hc, hd⟩ := hx
    refine ⟨_, rfl, _, rfl, Ad, _, _, _, rfl, rfl, hAL, atI_of (by omega) hz, ?_⟩
    have eO3 := t2 _ _ eO
    refine ⟨.ref O, rfl, .inl ⟨rfl, _, .inl (.inl eO3)⟩, _, rfl, c, _, 0, _, rfl, rfl, SqT.of hc, atI_nat (j := 0) rfl, O, _, _, rfl, rfl, eO3, Nat.lt_of_le_of_lt (show ox.length ≤ 1000 by omega) (by decide), ?_⟩
    have tu4 : TupS H3 (upd H3 O (.lst (ox ++ [.ref d]))) := TupS.upd eO3 fun _ z => nomatch z
    have keepO : ∀ {Ha : Hp} {u : HO}, Same H Ha → Same H (upd Ha O u) := fun s b z e => by
      rw [upd_ne (ne_of_none e hO0)]
      exact s _ _ e
    have keepR : ∀ {Ha : Hp} {u : HO}, Same H Ha → Same H (upd Ha R u) := fun s b z e => by
      rw [upd_ne (ne_of_none e nR)]
      exact s _ _ e
    have nOR : R ≠ O := fun z => by rw [z] at eR; rw [eO] at eR; cases eR
    have nWR : W ≠ R := fun z => by rw [z, eR] at eWx; cases eWx
    have eO4 : (upd H3 O (.lst (ox ++ [.ref d]))) O = some (.lst (ox ++ [.ref d])) := upd_same
    have eR4 : (upd H3 O (.lst (ox ++ [.ref d]))) R = some (.dT (kvR ord)) := (upd_ne nOR).trans (t2 _ _ eR)
    have eW4 : (upd H3 O (.lst (ox ++ [.ref d]))) W = some (.lst wx) := (upd_ne nWO).trans (t2 _ _ eWx)
    have sm4 : Same H (upd H3 O (.lst (ox ++ [.ref d]))) := keepO sm3
    have pO4 : PlsH (upd H3 O (.lst (ox ++ [.ref d]))) (ox ++ [.ref d]) (ord ++ [p.1]) := PlsH.app ((pO.same t2).tu tu4) ⟨⟨d, rfl, tu4 _ _ hd⟩, trivial⟩
    have rW4 := nds_tu tu4 (nds_same t2 rW)
    have hc4 := tu4 _ _ hc
    have hd4 := tu4 _ _ hd
    generalize upd H3 O (.lst (ox ++ [.ref d])) = H4 at eO4 eR4 eW4 sm4 pO4 rW4 hc4 hd4
    have llen : (kvR ord).length < sizeLine := Nat.lt_of_le_of_lt (show (kvR ord).length ≤ 1000 by unfold kvR; rw [List.length_map]; omega) (by decide)
    refine ⟨_, rfl, _, rfl, c, _, 0, _, rfl, rfl, SqT.of hc4, atI_nat (j := 0) rfl, R, _, rfl, DPut.t (k := kk p.1) eR4 (by rw [kk_map]; exact hd4) llen, ?_⟩
    have tu5 : TupS H4 (upd H4 R (.dT (putK (kvR ord) (kk p.1) (.bl true)))) := TupS.upd eR4 fun _ z => nomatch z
    have eR5 : (upd H4 R (.dT (putK (kvR ord) (kk p.1) (.bl true)))) R = some (.dT (kvR (ord ++ [p.1]))) := by rw [upd_same, put_R hpo]
    have eO5 : (upd H4 R (.dT (putK (kvR ord) (kk p.1) (.bl true)))) O = some (.lst (ox ++ [.ref d])) := (upd_ne nOR.symm).trans eO4
    have eW5 : (upd H4 R (.dT (putK (kvR ord) (kk p.1) (.bl true)))) W = some (.lst wx) := (upd_ne nWR).trans eW4
    have sm5 : Same H (upd H4 R (.dT (putK (kvR ord) (kk p.1) (.bl true)))) := keepR sm4
    have pO5 := pO4.tu tu5
    have rW5 := nds_tu tu5 rW4
    have hc5 := tu5 _ _ hc4
    have hd5 := tu5 _ _ hd4
    generalize upd H4 R (.dT (putK (kvR ord) (kk p.1) (.bl true))) = H5 at eR5 eO5 eW5 sm5 pO5 rW5 hc5 hd5
    refine ⟨_, rfl, W, rfl, ⟨wx, .inl (.inl eW5)⟩, fun W2 hW2 => ?_⟩
    refine lc_list (K := K) (xs := wx) (fun j H6 => ∃ (vx : List V) (vs : List Nd), H6 W2 = some (.lst vx) ∧ Same H5 H6 ∧ NdsH H6 vx vs ∧ vs = (ws.take j).filter (fun q => decide (q.1 ≠ p.1))) ⟨[], [], upd_same, same_new hW2 _, trivial, rfl⟩ (fun j H6 _ ⟨_, _, _, s, _⟩ => .inl (.inl (s _ _ eW5))) ?_ ?_
    · rintro j x H6 hj ⟨vx, vs, eV, t6, rV, hv⟩
      obtain ⟨p2, hp2, hx2⟩ := rW5.at_ hj
      have hjl : j < ws.length := (List.getElem?_eq_some_iff.mp hp2).1
      have tk : ws.take (j + 1) = ws.take j ++ [p2] := by rw [List.take_succ, hp2]; rfl
      obtain ⟨c2, d2, rfl, hc2, hd2⟩ := hx2.same t6
      have lvx := rV.len
      have lvs : vs.length ≤ j := by
        rw [hv]
        exact Nat.le_trans (List.length_filter_le _ _) (by rw [List.length_take]; omega)
      refine ⟨rfl, _, rfl, c2, _, 0, _, rfl, rfl, SqT.of hc2, atI_nat (j := 0) rfl, _, rfl, c, _, 0, _, rfl, rfl, SqT.of (t6 _ _ hc5), atI_nat (j := 0) rfl, dPl p2.1, dPl p.1, dp_at hd2, dp_at (t6 _ _ hd5), pl_shaped _, pl_shaped _, _, rfl, ?_⟩
      rw [eqv_pl]
      by_cases cp : p2.1 = p.1
      · rw [decide_eq_true cp]
        refine iteF ⟨vx, vs, eV, t6, rV, ?_⟩
        rw [tk, List.filter_append, ← hv]
        simp [cp]
      · rw [decide_eq_false cp]
        refine iteT ⟨_, rfl, vx, eV, Nat.lt_of_le_of_lt (show vx.length ≤ 1000 by omega) (by decide), vx ++ [.ref c2], vs ++ [p2], upd_same, fun b1 u e => ?_, ?_, ?_⟩
        · rw [upd_ne (ne_of_none e hW2)]
          exact t6 _ _ e
        · have tu7 : TupS H6 (upd H6 W2 (.lst (vx ++ [.ref c2]))) := TupS.upd eV fun _ z => nomatch z
          exact A2.app (nds_tu tu7 rV) ⟨⟨c2, d2, rfl, tu7 _ _ hc2, tu7 _ _ hd2⟩, trivial⟩
        · rw [tk, List.filter_append, ← hv]
          simp [cp]
    · rintro H6 ⟨vx, vs, eV, t6, rV, hv⟩
      rw [lwx, List.take_length] at hv
      have mem_vs : ∀ z, z ∈ vs ↔ z ∈ ws ∧ z.1 ≠ p.1 := fun z => by rw [hv, List.mem_filter]; simp
      refine ⟨_, _, _, _, _, W2, vx, ox ++ [.ref d], vs, ord ++ [p.1], rfl, sm5.trans t6, t6 _ _ eO5, pO5.same t6, t6 _ _ eR5, eV, rV, fun z => ?_, fun z hz => ?_, fun z hz hzo => ?_, ?_, ?_, fun z hz => ?_, fun rest => ?_⟩
      · rw [z, eO5] at hW2
        cases hW2
      · obtain ⟨h1, h2⟩ := (mem_vs z).mp hz
        obtain ⟨h3, h4⟩ := hws z h1
        refine ⟨h3, fun e => ?_⟩
        rcases List.mem_append.mp e with e | e
        · exact h4 e
        · exact h2 (List.mem_singleton.mp e)
      · refine (mem_vs z).mpr ⟨hall z hz fun e => hzo (List.mem_append_left _ e), fun e => hzo (List.mem_append_right _ (by rw [e]; exact List.mem_singleton.mpr rfl))⟩
      · rw [List.length_append, hlen]
        rfl
      · rw [hv]
        exact Nat.le_trans (List.length_filter_le _ _) l1000
      · rcases List.mem_append.mp hz with e | e
        · exact hsub z e
        · rw [List.mem_singleton.mp e]
          exact List.mem_map.mpr ⟨p, hpn, rfl⟩
      · rw [List.append_assoc]
        show faultF ns [] (ord ++ p.1 :: rest) = _
        rw [hF, fault_go stp]
  · rintro σ H2 ⟨y6, y7, y8, y9, y10, W, wx, ox, ws, ord, rfl, sm, eO, pO, eR, eWx, rW, nWO, hws, hall, hlen, l1000, hsub, hF⟩
    refine ⟨_, rfl, .inl ⟨O, ox, rfl, .inl (.inl eO), fun p hp => ?_⟩⟩
    have s5 := same_new hp (.tup ox)
    refine q p _ ord (sm.trans s5) ⟨ox, SqT.of upd_same, pO.same s5⟩ ?_ (by omega) hsub
    have z := hF []
    rw [List.append_nil] at z
    rw [z]
    exact if_neg (by omega)
end
end Km
/-! KtN -/
set_option Elab.async false
set_option linter.all false
set_option maxRecDepth 100000
set_option maxHeartbeats 2000000
namespace Ns
open PySem PySem.Spec PyProof.Rows L2
theorem PlsH.drop {H : Hp} : ∀ (i : Nat) {xs : List V} {ps : List Pl}, PlsH H xs ps → PlsH H (xs.drop i) (ps.drop i)
  | 0, _, _, h => h
  | i + 1, [], [], _ => trivial
  | i + 1, [], _ :: _, h => h.elim
  | i + 1, _ :: _, [], h => h.elim
  | i + 1, _ :: _, _ :: _, h => PlsH.drop i h.2
theorem PlsH.take {H : Hp} : ∀ (i : Nat) {xs : List V} {ps : List Pl}, PlsH H xs ps → PlsH H (xs.take i) (ps.take i)
  | 0, _, _, _ => trivial
  | i + 1, [], [], _ => trivial
  | i + 1, [], _ :: _, h => h.elim
  | i + 1, _ :: _, [], h => h.elim
  | i + 1, _ :: _, _ :: _, h => ⟨h.1, PlsH.take i h.2⟩
/-- a row of short places -/
def RowS (K : PySem.W.Frag) (H : Hp) (o : Addr) (n : Nat) : Prop := ∃ ps, RowP K H o ps ∧ ps.length ≤ n ∧ ∀ p ∈ ps, p.length ≤ 500
theorem RowS.same {K : PySem.W.Frag} {H H1 : Hp} {o : Addr} {n : Nat} (e : Same H H1) (h : RowS K H o n) : RowS K H1 o n := by
  obtain ⟨ps, h1, h2⟩ := h
  exact ⟨ps, h1.same e, h2⟩
theorem RowS.le {K : PySem.W.Frag} {H : Hp} {o : Addr} {n m : Nat} (h : RowS K H o n) (hl : n ≤ m) : RowS K H o m := by
  obtain ⟨ps, h1, h2, h3⟩ := h
  exact ⟨ps, h1, Nat.le_trans h2 hl, h3⟩
theorem sl_row {K : PySem.W.Frag} {H : Hp} {o : Addr} {n : Nat} {lo hi : Option Int} {Q : VK} (h : RowS K H o n) (q : ∀ a H', Same H H' → RowS K H' a n → Q (.ref a) H') : rSlA K (.ref o) lo hi H Q := by
  obtain ⟨ps, ⟨xs, hx, hp⟩, hl, hs⟩ := h
  refine ⟨o, xs, rfl, hx, fun _ => q o H (Same.refl H) ⟨ps, ⟨xs, hx, hp⟩, hl, hs⟩, fun _ p hpn => ?_⟩
  have s1 := same_new hpn (.tup (cutV xs lo hi))
  refine q p _ s1 ⟨(ps.drop (HT.sIx xs.length 0 lo)).take (HT.sIx xs.length xs.length hi - HT.sIx xs.length 0 lo), ⟨_, SqT.of upd_same, ?_⟩, ?_, fun z hz => hs z (List.mem_of_mem_drop (List.mem_of_mem_take hz))⟩
  · exact PlsH.same s1 (PlsH.take _ (PlsH.drop _ hp))
  · rw [List.length_take, List.length_drop]
    omega
theorem cat_row {K : PySem.W.Frag} {H : Hp} {a b : Addr} {n m : Nat} {Q : VK} (h1 : RowS K H a n) (h2 : RowS K H b m) (hl : n + m ≤ 5000) (q : ∀ c H', Same H H' → RowS K H' c (n + m) → Q (.ref c) H') : rCatA K (.ref a) (.ref b) H Q := by
  obtain ⟨ps, ⟨xs, hx, hp⟩, hl1, hs1⟩ := h1
  obtain ⟨qs, ⟨ys, hy, hq⟩, hl2, hs2⟩ := h2
  have lx := hp.len
  have ly := hq.len
  refine ⟨a, b, xs, ys, rfl, rfl, hx, hy, Nat.le_trans (show xs.length + ys.length ≤ 5000 by omega) (by decide), fun _ => ?_, fun _ _ => ?_, fun _ _ p hpn => ?_⟩
  · exact q b H (Same.refl H) ⟨qs, ⟨ys, hy, hq⟩, by omega, hs2⟩
  · exact q a H (Same.refl H) ⟨ps, ⟨xs, hx, hp⟩, by omega, hs1⟩
  · have s1 := same_new hpn (.tup (xs ++ ys))
    refine q p _ s1 ⟨ps ++ qs, ⟨_, SqT.of upd_same, PlsH.app (hp.same s1) (hq.same s1)⟩, by rw [List.length_append]; omega, fun z hz => ?_⟩
    rcases List.mem_append.mp hz with hz | hz
    · exact hs1 z hz
    · exact hs2 z hz
/-- a row of one place -/
theorem one_row {K : PySem.W.Frag} {H : Hp} {x : V} {pl : Pl} {p : Addr} (h : PlH H x pl) (hl : pl.length ≤ 500) (hp : H p = none) : RowS K (upd H p (.tup [x])) p 1 :=
  ⟨[pl], ⟨[x], SqT.of upd_same, h.same (same_new hp _), trivial⟩, Nat.le_refl _, fun z hz => by rw [List.mem_singleton.mp hz]; exact hl⟩
/-- two places put together -/
theorem cat_pl {K : PySem.W.Frag} {H : Hp} {a b : Addr} {p q : Pl} {Q : VK} (h1 : H a = some (.tup (p.map V.int))) (h2 : H b = some (.tup (q.map V.int))) (hl : p.length + q.length ≤ 2000) (hq : ∀ c H', Same H H' → H' c = some (.tup ((p ++ q).map V.int)) → Q (.ref c) H') : rCatA K (.ref a) (.ref b) H Q := by
  refine ⟨a, b, _, _, rfl, rfl, SqT.of h1, SqT.of h2, Nat.le_trans (show (p.map V.int).length + (q.map V.int).length ≤ 2000 by rw [List.length_map, List.length_map]; exact hl) (by decide), fun e => ?_, fun _ e => ?_, fun _ _ c hc => ?_⟩
  · have e2 : p = [] := by cases p with | nil => rfl | cons _ _ => cases e
    subst e2
    exact hq b H (Same.refl H) h2
  · have e2 : q = [] := by cases q with | nil => rfl | cons _ _ => cases e
    subst e2
    refine hq a H (Same.refl H) ?_
    rw [List.append_nil]
    exact h1
  · refine hq c _ (same_new hc _) ?_
    rw [upd_same, List.map_append]
/-- a comprehension over a list, backwards -/
theorem lc_rev {K : PySem.W.Frag} {a : Addr} {xs : List V} {g : TG} {tt : TT} {te : TE} {vs : List Nat} {σ : L2.St} {H1 : Hp} {D : Addr} {Qd : Hp → Prop} (Pv : Nat → Hp → Prop) (p0 : Pv 0 (upd H1 D (.lst []))) (at_ : ∀ i H, i ≤ xs.length → Pv i H → SqL K H a xs)
    (turn : ∀ i x H, i < xs.length → xs[xs.length - 1 - i]? = some x → Pv i H → g x (wipe σ vs) H fun σ2 H2 => wipe σ2 vs = wipe σ vs ∧ tt σ2 H2 fun b H3 =>
      if b = true then te σ2 H3 fun y H4 => ∃ acc, H4 D = some (.lst acc) ∧ acc.length < sizeLine ∧ Pv (i + 1) (upd H4 D (.lst (acc ++ [y]))) else Pv (i + 1) H3) (fin : ∀ H, Pv xs.length H → Qd H) :
    ∃ W : Nat → Nat → Hp → Prop, (∃ m, W 0 m (upd H1 D (.lst []))) ∧ ∀ i m H, W i m H →
      ((Itv K a xs.length).stop i H ∧ Qd H) ∨ ((Itv K a xs.length).go i H ∧ ∃ Nx : Hp → Prop, (∀ H', Nx H' → ∃ m', m' < m ∧ W (i + 1) m' H') ∧ ∀ x H', (Itv K a xs.length).yld i H x H' → g x (wipe σ vs) H' fun σ2 H2 => wipe σ2 vs = wipe σ vs ∧ tt σ2 H2 fun b H3 =>
        if b = true then te σ2 H3 fun y H4 => ∃ acc, H4 D = some (.lst acc) ∧ acc.length < sizeLine ∧ Nx (upd H4 D (.lst (acc ++ [y]))) else Nx H3) := by
  refine ⟨fun i m H => m + i = xs.length ∧ Pv i H, ⟨xs.length, rfl, p0⟩, fun i m H w => ?_⟩
  obtain ⟨hm, p⟩ := w
  have st := at_ i H (by omega) p
  rcases Nat.lt_or_ge i xs.length with lt | ge
  · have hx : xs[xs.length - 1 - i]? = some xs[xs.length - 1 - i] := List.getElem?_eq_getElem (by omega)
    refine .inr ⟨⟨lt, xs, xs[xs.length - 1 - i], st, hx⟩, Pv (i + 1), fun H' p' => ⟨m - 1, by omega, by omega, p'⟩, fun x H' y => ?_⟩
    obtain ⟨rfl, y⟩ := y
    exact turn i x _ lt (y xs st) p
  · obtain rfl : i = xs.length := by omega
    exact .inl ⟨Nat.le_refl _, fin H p⟩
end Ns
namespace Km
open PySem PySem.Spec PyProof.Rows L2 Ns
abbrev sSp : Stmt := top 26
abbrev nSp : List Str := ["_law_nodes_here", "_law_order", "_law_draw", "_law_other", "_law_at", "_law_next_at", "_law_way", "_law_leaves", "_law_node", "_law_leaf", "_law_strange", "_law_low", "_law_high", "_law_place"]
abbrev pSp : List Str := ["_law_nodes_here", "_law_order", "_law_draw", "_law_other"]
theorem scSp : FnScope nSp pSp (defScope sSp) := ⟨rfl, rfl, rfl, by decide +kernel, rfl, by decide +kernel, by decide +kernel⟩
def spSp (K : PySem.W.Frag) : Sp := fun vs H Q _ => ∃ (a o : Addr) (ns : List Nd) (ps : List Pl) (d e : Int), vs = [.ref a, .ref o, .int d, .int e] ∧ Nodes K H a ns ∧ (∃ p ∈ ns, p.2 = true) ∧ (∀ p ∈ ns, p.1.length ≤ 400) ∧ RowP K H o ps ∧ 0 < ps.length ∧ ps.length ≤ 1000 ∧ (∀ p ∈ ps, p.length ≤ 400) ∧ 0 ≤ d ∧ d < 60 ∧ 0 ≤ e ∧ e < 60 ∧
  ∀ p H', Same H H' → RowS K H' p 5000 → Q (.ref p) H'
section
variable {P : Program} {w : World} {K : PySem.W.Frag} {mg : Str → Option Value} {base : Heap} {f : Addr} {fd : FuncData}
theorem ok_sp {k : Nat} (T : Blt mg) (T2 : Blt2 mg) (F : Fun K "_law_spoilt" "_law_spoilt" sSp f fd) : FnOk P w K mg base CX0 (k + 1) f fd pSp (spSp K) := by
  refine F.ok scSp (fun vs H Q E h => ?_) (fun cdv A outer s H vs Q E hr h => ?_)
  · obtain ⟨a, o, ns, ps, d, e, rfl, _⟩ := h
    rfl
  obtain ⟨a, o, ns, ps, d, e, rfl, ⟨nx, eN, rN, ndN, lN⟩, hlf, hlo, hP, hpos, h1000, hs, d0, d1, e0, e1, q⟩ := h
  have nd := scSp.nd
  refine ⟨_, (pss_cons (ps_set (i := 4) nd rfl (Or.inl rfl) (pe_op op_mod (pe_op op_add (pe_op op_fdiv (pv 2) pe_int) (pe_op op_mul pe_int (pv 3))) (pe_callB call_len_seq rfl T.mlen PySem.boot_len (pa_cons (pv 1) pa_nil))))
    (pss_cons (ps_set (i := 5) nd rfl (Or.inl rfl) (pe_op op_mod (pe_op op_add (pe_op op_add (pv 4) pe_int) (pe_op op_mod (pv 3) pe_int)) (pe_callB call_len_seq rfl T.mlen PySem.boot_len (pa_cons (pv 1) pa_nil))))
    (pss_cons (ps_set (i := 6) nd rfl (Or.inl rfl) (pe_op op_mod (pv 2) pe_int))
    (pss_cons (ps_if (pt_cmpR op_eq (pv 6) pe_int (nomark _)) (pss_one (ps_ret (pe_op op_catA (pe_slice sl_tupA (pv 1) po_none (po_some (pv 4))) (pe_slice sl_tupA (pv 1) (po_some (pe_op op_add (pv 4) pe_int)) po_none)))) pss_nil)
    (pss_cons (ps_if (pt_cmpR op_eq (pv 6) pe_int (nomark _)) (pss_one (ps_ret (pe_op op_catA (pe_op op_catA (pe_slice sl_tupA (pv 1) po_none (po_some (pv 5))) (pe_tup (pa_cons (pe_ix ix_tup (pv 1) (pv 4) (fun _ _ => rfl)) pa_nil))) (pe_slice sl_tupA (pv 1) (po_some (pv 5)) po_none)))) pss_nil)
    (pss_cons (ps_if (pt_cmpR op_eq (pv 6) pe_int (nomark _)) (pss_cons (ps_setLc (i := 7) (own := [("_law_node", 8)]) (g := gName 8) (tt := tB (tOp (rIxT K) (tVar 8) (tC (.int 1)))) (te := tOp (rIxT K) (tVar 8) (tC (.int 0))) rfl nd rfl rfl (sw_true rfl rfl rfl (by decide +kernel)) (pi_list (pv 0)) (blkOk_by (N := nSp) (sc := defScope sSp) (by decide +kernel)) (fun _ _ _ _ _ => pg_name (i := 8) nd rfl (Or.inl rfl)) (fun _ _ _ _ _ => pts_one (pt_val (pe_ix (r := rIxT K) ix_tup (pv 8) pe_int (fun _ _ => rfl)))) (fun _ _ _ _ _ => pe_ix (r := rIxT K) ix_tup (pv 8) pe_int (fun _ _ => rfl)))
    (pss_cons (ps_set (i := 9) nd rfl (Or.inl rfl) (pe_ix ix_list (pv 7) (pe_op op_mod (pv 3) (pe_callB call_len_seq rfl T.mlen PySem.boot_len (pa_cons (pv 7) pa_nil))) (fun _ _ => rfl)))
    (pss_cons (ps_set (i := 10) nd rfl (Or.inl rfl) (pe_ix ix_list (pe_lst (pa_cons (pe_op op_catA (pv 9) (pe_tup (pa_cons pe_int pa_nil))) (pa_cons (pe_op op_catA (pv 9) (pe_tup (pa_cons pe_int pa_nil))) (pa_cons (pe_tup (pa_cons pe_int pa_nil)) (pa_cons (pe_tup (pa_cons (pe_op op_sub pe_int pe_int) pa_nil)) (pa_cons (pe_op op_catA (pe_ix ix_tup (pv 1) (pv 4) (fun _ _ => rfl)) (pe_tup (pa_cons pe_int pa_nil))) (pa_cons (pe_op op_catA (pe_op op_catA (pe_tup (pa_cons pe_int pa_nil)) (pv 9)) (pe_tup (pa_cons pe_int (pa_cons pe_int pa_nil)))) pa_nil))))))) (pe_op op_mod (pe_op op_fdiv (pv 2) pe_int) pe_int) (fun _ _ => rfl)))
    (pss_one (ps_ret (pe_op op_catA (pe_op op_catA (pe_slice sl_tupA (pv 1) po_none (po_some (pv 5))) (pe_tup (pa_cons (pv 10) pa_nil))) (pe_slice sl_tupA (pv 1) (po_some (pv 5)) po_none))))))) pss_nil)
    (pss_cons (ps_if (pt_cmpR op_eq (pv 6) pe_int (nomark _)) (pss_cons (ps_set (i := 11) nd rfl (Or.inl rfl) (pe_callB (call_min2 rfl) rfl T2.mmin PyProof.Rows.boot_min (pa_cons (pv 4) (pa_cons (pv 5) pa_nil))))
    (pss_cons (ps_set (i := 12) nd rfl (Or.inl rfl) (pe_callB (call_max2 rfl) rfl T2.mmax PyProof.Rows.boot_max (pa_cons (pv 4) (pa_cons (pv 5) pa_nil))))
    (pss_one (ps_ret (pe_op op_catA (pe_op op_catA (pe_op op_catA (pe_op op_catA (pe_slice sl_tupA (pv 1) po_none (po_some (pv 11))) (pe_tup (pa_cons (pe_ix ix_tup (pv 1) (pv 12) (fun _ _ => rfl)) pa_nil))) (pe_slice sl_tupA (pv 1) (po_some (pe_op op_add (pv 11) pe_int)) (po_some (pv 12)))) (pe_tup (pa_cons (pe_ix ix_tup (pv 1) (pv 11) (fun _ _ => rfl)) pa_nil))) (pe_slice sl_tupA (pv 1) (po_some (pe_op op_add (pv 12) pe_int)) po_none)))))) pss_nil)
    (pss_cons (ps_if (pt_cmpR op_eq (pv 6) pe_int (nomark _)) (pss_one (ps_ret (pe_slice sl_tupA (pv 1) po_none (po_some (pv 4))))) pss_nil)
    (pss_cons (ps_if (pt_cmpR op_eq (pv 6) pe_int (nomark _)) (pss_one (ps_ret (pe_tupleOf rfl T2.mtup (pe_lc (own := [("_law_place", 13)]) (g := gName 13) (tt := tYes) (te := tVar 13) rfl nd (RT.pi_revA rfl T2.mrev (pe_callTy call_list_of rfl T2.mlist PyProof.Rows.boot_list (pa_cons (pv 1) pa_nil))) (blkOk_by (N := nSp) (sc := defScope sSp) (by decide +kernel)) (fun _ _ _ _ _ => pg_name (i := 13) nd rfl (Or.inl rfl)) (fun _ _ _ _ _ => pts_nil) (fun _ _ _ _ _ => pv 13))))) pss_nil)
    (pss_one (ps_ret (pe_op op_catA (pv 1) (pe_slice sl_tupA (pv 1) (po_some (pv 4)) po_none))))))))))))), ?_⟩
  obtain ⟨xs, hX, eX⟩ := hP
  have lx := eX.len
  have hR : RowS K H o 1000 := ⟨ps, ⟨xs, hX, eX⟩, h1000, fun z hz => Nat.le_trans (hs z hz) (by decide)⟩
  have elem : ∀ z : Int, 0 ≤ z → z < (xs.length : Int) → ∃ (x : V) (p : Pl), atI xs z = some x ∧ PlH H x p ∧ p.length ≤ 400 := fun z z0 z1 => by
    have hz : xs[z.toNat]? = some xs[z.toNat] := List.getElem?_eq_getElem (by omega)
    obtain ⟨p, hp, hx⟩ := eX.at_ hz
    exact ⟨_, p, atI_of (by omega) hz, hx, hs p (List.mem_of_getElem? hp)⟩
  have lpos : (0 : Int) < (xs.length : Int) := by omega
  refine ⟨_, rfl, _, _, rfl, rfl, ⟨by decide, by decide⟩, _, rfl, _, _, rfl, rfl, .inl ⟨by decide, by decide⟩, _, _, rfl, rfl, _, rfl, o, xs, rfl, .inr hX, _, _, rfl, rfl, lpos, ?_⟩
  have a0 : 0 ≤ (d / 7 + 9 * e) % (xs.length : Int) := Int.emod_nonneg _ (by omega)
  have a1 : (d / 7 + 9 * e) % (xs.length : Int) < (xs.length : Int) := Int.emod_lt_of_pos _ lpos
  refine ⟨_, rfl, _, _, rfl, rfl, _, rfl, _, _, rfl, rfl, (by show (0 : Int) < 3; decide), _, _, rfl, rfl, _, rfl, o, xs, rfl, .inr hX, _, _, rfl, rfl, lpos, ?_⟩
  have n0 : 0 ≤ ((((d / 7 + 9 * e) % (xs.length : Int)) + 1 + e % 3) % (xs.length : Int)) := Int.emod_nonneg _ (by omega)
  have n1 : ((((d / 7 + 9 * e) % (xs.length : Int)) + 1 + e % 3) % (xs.length : Int)) < (xs.length : Int) := Int.emod_lt_of_pos _ lpos
  refine ⟨_, rfl, _, _, rfl, rfl, (by show (0 : Int) < 7; decide), ?_⟩
  refine ⟨_, rfl, rfl, _, rfl, ite2 (fun _ => ?_) (fun _ => ?_)⟩
  · refine ⟨_, rfl, ?_⟩
    dsimp only [tNoPart]
    refine ⟨_, rfl, _, rfl, sl_row hR fun b1 H1 s1 r1 => ?_⟩
    refine ⟨_, rfl, _, rfl, _, _, rfl, rfl, _, rfl, ?_⟩
    dsimp only [tNoPart]
    refine sl_row (hR.same s1) fun b2 H2 s2 r2 => ?_
    exact cat_row (r1.same s2) r2 (by decide) fun c H3 s3 r3 => q c H3 (s1.trans (s2.trans s3)) (r3.le (by decide))
  refine ⟨_, rfl, rfl, _, rfl, ite2 (fun _ => ?_) (fun _ => ?_)⟩
  · refine ⟨_, rfl, ?_⟩
    dsimp only [tNoPart]
    refine ⟨_, rfl, _, rfl, sl_row hR fun b1 H1 s1 r1 => ?_⟩
    obtain ⟨x, p, hx, hxp, hxl⟩ := elem _ a0 a1
    refine ⟨_, rfl, _, rfl, o, _, _, _, rfl, rfl, sqT_same s1 hX, hx, by show 1 ≤ sizeLine; decide, fun t ht => ?_⟩
    have s2 := same_new ht (.tup [x])
    refine cat_row (r1.same s2) (one_row (hxp.same s1) (by omega) ht) (by decide) fun c H3 s3 r3 => ?_
    have s13 := s1.trans (s2.trans s3)
    refine ⟨_, rfl, _, rfl, _, rfl, ?_⟩
    dsimp only [tNoPart]
    refine sl_row (hR.same s13) fun b2 H4 s4 r4 => ?_
    exact cat_row (r3.same s4) r4 (by decide) fun c H5 s5 r5 => q c H5 (s13.trans (s4.trans s5)) (r5.le (by decide))
  refine ⟨_, rfl, rfl, _, rfl, ite2 (fun _ => ?_) (fun _ => ?_)⟩
  · have ln := rN.len
    refine ⟨_, rfl, a, rfl, ⟨nx, .inl (.inl eN)⟩, fun W hW => ?_⟩
    refine lc_list (K := K) (xs := nx) (fun i H2 => ∃ (vx : List V) (vs : List Pl), H2 W = some (.lst vx) ∧ Same H H2 ∧ PlsH H2 vx vs ∧ vs.length ≤ i ∧ (∀ p ∈ vs, p.length ≤ 400) ∧ ∀ p ∈ ns.take i, p.2 = true → 0 < vs.length) ⟨[], [], upd_same, same_new hW _, trivial, Nat.le_refl _, (fun p hp => nomatch hp), fun p hp => nomatch hp⟩ (fun i H2 _ ⟨_, _, _, sm, _⟩ => .inl (.inl (sm _ _ eN))) ?_ ?_
    · rintro i x H2 hi ⟨vx, vs, eV, sm, rV, hvl, hvs, hvp⟩
      obtain ⟨p, hp, hx⟩ := rN.at_ hi
      have hlt : i < ns.length := (List.getElem?_eq_some_iff.mp hp).1
      have tk : ns.take (i + 1) = ns.take i ++ [p] := by rw [List.take_succ, hp]; rfl
      have lvx := rV.len
      obtain ⟨c, c2, rfl, hc, hd⟩ := hx.same sm
      refine ⟨rfl, _, rfl, c, _, 1, _, rfl, rfl, SqT.of hc, atI_nat (j := 1) rfl, _, rfl, ite2 (fun cb => ?_) (fun cb => ?_)⟩
      · refine ⟨_, rfl, c, _, 0, _, rfl, rfl, SqT.of hc, atI_nat (j := 0) rfl, vx, eV, Nat.lt_of_le_of_lt (show vx.length ≤ 1000 by omega) (by decide), vx ++ [.ref c2], vs ++ [p.1], upd_same, fun b1 u e => ?_, ?_, by rw [List.length_append]; show _ + 1 ≤ _; omega, fun z hz => ?_, fun z hz _ => by rw [List.length_append]; show 0 < _ + 1; omega⟩
        · rw [upd_ne (ne_of_none e hW)]
          exact sm _ _ e
        · have tu : TupS H2 (upd H2 W (.lst (vx ++ [.ref c2]))) := TupS.upd eV fun _ z => nomatch z
          exact PlsH.app (rV.tu tu) ⟨⟨c2, rfl, tu _ _ hd⟩, trivial⟩
        · rcases List.mem_append.mp hz with hz | hz
          · exact hvs z hz
          · rw [List.mem_singleton.mp hz]; exact hlo p (List.mem_of_getElem? hp)
      · refine ⟨vx, vs, eV, sm, rV, by omega, hvs, fun z hz hzt => ?_⟩
        rw [tk] at hz
        rcases List.mem_append.mp hz with hz | hz
        · exact hvp z hz hzt
        · rw [List.mem_singleton.mp hz] at hzt
          exact absurd hzt cb
    rintro H1 ⟨vx, vs, eV, s1, rV, hvl, hvs, hvp⟩
    rw [ln, List.take_length] at hvp
    obtain ⟨pf, hpf, hpt⟩ := hlf
    have vpos := hvp pf hpf hpt
    have lvx := rV.len
    have hWL : SqL K H1 W vx := .inl (.inl eV)
    have vposI : (0 : Int) < (vx.length : Int) := by omega
    obtain ⟨y, lf, hy, hyp, hyl⟩ : ∃ (y : V) (lf : Pl), atI vx (e % (vx.length : Int)) = some y ∧ PlH H1 y lf ∧ lf.length ≤ 400 := by
      have b0 := Int.emod_nonneg e (show (vx.length : Int) ≠ 0 by omega)
      have b1 := Int.emod_lt_of_pos e vposI
      have hz : vx[(e % (vx.length : Int)).toNat]? = some vx[(e % (vx.length : Int)).toNat] := List.getElem?_eq_getElem (by omega)
      obtain ⟨p, hp, hx⟩ := rV.at_ hz
      exact ⟨_, p, atI_of (by omega) hz, hx, hvs p (List.mem_of_getElem? hp)⟩
    refine ⟨_, rfl, _, rfl, _, rfl, W, vx, rfl, .inl hWL, _, _, rfl, rfl, vposI, W, _, _, _, rfl, rfl, hWL, hy, ?_⟩
    obtain ⟨ly, rfl, hly⟩ := hyp
    refine ⟨_, rfl, by show 1 ≤ sizeLine; decide, fun t1 ht1 => ?_⟩
    have w1 := same_new ht1 (.tup [V.int 0])
    refine cat_pl (q := [0]) (w1 _ _ hly) upd_same (by show _ + 1 ≤ _; omega) fun x1 K1 v1 g1 => ?_
    have m1 := w1.trans v1
    refine ⟨_, rfl, by show 1 ≤ sizeLine; decide, fun t2 ht2 => ?_⟩
    have w2 := same_new ht2 (.tup [V.int 1])
    refine cat_pl (q := [1]) ((m1.trans w2) _ _ hly) upd_same (by show _ + 1 ≤ _; omega) fun x2 K2 v2 g2 => ?_
    have m2 := m1.trans (w2.trans v2)
    refine ⟨by show 1 ≤ sizeLine; decide, fun x3 ht3 => ?_⟩
    have w3 := same_new ht3 (.tup [V.int 2])
    have m3 := m2.trans w3
    refine ⟨_, _, rfl, rfl, by show 1 ≤ sizeLine; decide, fun x4 ht4 => ?_⟩
    have w4 := same_new ht4 (.tup [V.int (0 - 1)])
    have m4 := m3.trans w4
    obtain ⟨xa, pa1, hxa, ⟨ba, rfl, hba⟩, hal⟩ := elem _ a0 a1
    refine ⟨_, rfl, _, rfl, o, _, _, _, rfl, rfl, sqT_same (s1.trans m4) hX, hxa, by show 1 ≤ sizeLine; decide, fun t5 ht5 => ?_⟩
    have w5 := same_new ht5 (.tup [V.int 2])
    refine cat_pl (q := [2]) ((s1.trans (m4.trans w5)) _ _ hba) upd_same (by show _ + 1 ≤ _; omega) fun x5 K5 v5 g5 => ?_
    have m5 := m4.trans (w5.trans v5)
    refine ⟨by show 1 ≤ sizeLine; decide, fun t6 ht6 => ?_⟩
    have w6 := same_new ht6 (.tup [V.int 0])
    refine ⟨_, rfl, ?_⟩
    refine cat_pl (p := [0]) upd_same ((m5.trans w6) _ _ hly) (by show 1 + _ ≤ _; omega) fun x6 K6 v6 g6 => ?_
    have m6 := m5.trans (w6.trans v6)
    refine ⟨by show 2 ≤ sizeLine; decide, fun t7 ht7 => ?_⟩
    have w7 := same_new ht7 (.tup [V.int 0, V.int 1])
    refine cat_pl (q := [0, 1]) (w7 _ _ g6) upd_same (by rw [List.length_append]; show 1 + _ + 2 ≤ _; omega) fun x7 K7 v7 g7 => ?_
    have m7 := m6.trans (w7.trans v7)
    refine ⟨by show 6 ≤ sizeLine; decide, fun l6 hl6 => ?_⟩
    have w8 := same_new hl6 (.lst [.ref x1, .ref x2, .ref x3, .ref x4, .ref x5, .ref x7])
    have m8 := m7.trans w8
    have all6 : PlsH (upd K7 l6 (.lst [.ref x1, .ref x2, .ref x3, .ref x4, .ref x5, .ref x7])) [.ref x1, .ref x2, .ref x3, .ref x4, .ref x5, .ref x7] [lf ++ [0], lf ++ [1], [2], [0 - 1], pa1 ++ [2], [0] ++ lf ++ [0, 1]] := by
      have u7 := w8
      have u6 := w7.trans (v7.trans w8)
      have u5 := w6.trans (v6.trans u6)
      have u4 := w5.trans (v5.trans u5)
      have u3 := w4.trans u4
      have u2 := w3.trans u3
      have u1 := w2.trans (v2.trans u2)
      exact ⟨⟨x1, rfl, u1 _ _ g1⟩, ⟨x2, rfl, u2 _ _ g2⟩, ⟨x3, rfl, u3 _ _ upd_same⟩, ⟨x4, rfl, u4 _ _ upd_same⟩, ⟨x5, rfl, u5 _ _ g5⟩, ⟨x7, rfl, u7 _ _ g7⟩, trivial⟩
    have c0 : 0 ≤ d / 7 % 6 := Int.emod_nonneg _ (by decide)
    have c1 : d / 7 % 6 < 6 := Int.emod_lt_of_pos _ (by decide)
    have hz : ([.ref x1, .ref x2, .ref x3, .ref x4, .ref x5, .ref x7] : List V)[(d / 7 % 6).toNat]? = some (([.ref x1, .ref x2, .ref x3, .ref x4, .ref x5, .ref x7] : List V)[(d / 7 % 6).toNat]'(by show _ < 6; omega)) := List.getElem?_eq_getElem _
    generalize ([.ref x1, .ref x2, .ref x3, .ref x4, .ref x5, .ref x7] : List V)[(d / 7 % 6).toNat]'(by show _ < 6; omega) = xs6 at hz
    obtain ⟨p6, hp6, hx6⟩ := all6.at_ hz
    have sh6 : p6.length ≤ 500 := by
      have mm := List.mem_of_getElem? hp6
      simp only [List.mem_cons, List.not_mem_nil, or_false] at mm
      rcases mm with e | e | e | e | e | e <;> subst e
      · rw [List.length_append]; show _ + 1 ≤ _; omega
      · rw [List.length_append]; show _ + 1 ≤ _; omega
      · show 1 ≤ 500; decide
      · show 1 ≤ 500; decide
      · rw [List.length_append]; show _ + 1 ≤ _; omega
      · rw [List.length_append, List.length_append]; show 1 + _ + 2 ≤ _; omega
    refine ⟨_, rfl, _, _, rfl, rfl, ⟨by decide, by decide⟩, _, _, rfl, rfl, (by show (0 : Int) < 6; decide), l6, _, _, _, rfl, rfl, .inl (.inl upd_same), atI_of (by omega) hz, ?_⟩
    have s8 := s1.trans m8
    generalize upd K7 l6 (.lst [.ref x1, .ref x2, .ref x3, .ref x4, .ref x5, .ref x7]) = K8 at s8 hx6
    refine ⟨_, rfl, ?_⟩
    dsimp only [tNoPart]
    refine ⟨_, rfl, _, rfl, sl_row (hR.same s8) fun b1 H1 s1 r1 => ?_⟩
    refine ⟨_, rfl, by show 1 ≤ sizeLine; decide, fun t ht => ?_⟩
    have s2 := same_new ht (.tup [xs6])
    refine cat_row (r1.same s2) (one_row (hx6.same s1) sh6 ht) (by decide) fun c H3 s3 r3 => ?_
    have s13 := s8.trans (s1.trans (s2.trans s3))
    refine ⟨_, rfl, _, rfl, _, rfl, ?_⟩
    dsimp only [tNoPart]
    refine sl_row (hR.same s13) fun b2 H4 s4 r4 => ?_
    exact cat_row (r3.same s4) r4 (by decide) fun c H5 s5 r5 => q c H5 (s13.trans (s4.trans s5)) (r5.le (by decide))
  refine ⟨_, rfl, rfl, _, rfl, ite2 (fun _ => ?_) (fun _ => ?_)⟩
  · refine ⟨_, rfl, _, rfl, _, _, rfl, ?_⟩
    have l0 : 0 ≤ (if ((((d / 7 + 9 * e) % (xs.length : Int)) + 1 + e % 3) % (xs.length : Int)) < ((d / 7 + 9 * e) % (xs.length : Int)) then ((((d / 7 + 9 * e) % (xs.length : Int)) + 1 + e % 3) % (xs.length : Int)) else ((d / 7 + 9 * e) % (xs.length : Int))) := by split <;> omega
    have l1 : (if ((((d / 7 + 9 * e) % (xs.length : Int)) + 1 + e % 3) % (xs.length : Int)) < ((d / 7 + 9 * e) % (xs.length : Int)) then ((((d / 7 + 9 * e) % (xs.length : Int)) + 1 + e % 3) % (xs.length : Int)) else ((d / 7 + 9 * e) % (xs.length : Int))) < (xs.length : Int) := by split <;> omega
    refine ⟨_, rfl, _, rfl, _, _, rfl, ?_⟩
    have g0 : 0 ≤ (if ((((d / 7 + 9 * e) % (xs.length : Int)) + 1 + e % 3) % (xs.length : Int)) > ((d / 7 + 9 * e) % (xs.length : Int)) then ((((d / 7 + 9 * e) % (xs.length : Int)) + 1 + e % 3) % (xs.length : Int)) else ((d / 7 + 9 * e) % (xs.length : Int))) := by split <;> omega
    have g1 : (if ((((d / 7 + 9 * e) % (xs.length : Int)) + 1 + e % 3) % (xs.length : Int)) > ((d / 7 + 9 * e) % (xs.length : Int)) then ((((d / 7 + 9 * e) % (xs.length : Int)) + 1 + e % 3) % (xs.length : Int)) else ((d / 7 + 9 * e) % (xs.length : Int))) < (xs.length : Int) := by split <;> omega
    refine ⟨_, rfl, ?_⟩
    dsimp only [tNoPart]
    refine ⟨_, rfl, _, rfl, sl_row hR fun b1 H1 s1 r1 => ?_⟩
    obtain ⟨x, p, hx, hxp, hxl⟩ := elem _ g0 g1
    refine ⟨_, rfl, _, rfl, o, _, _, _, rfl, rfl, sqT_same s1 hX, hx, by show 1 ≤ sizeLine; decide, fun t ht => ?_⟩
    have s2 := same_new ht (.tup [x])
    refine cat_row (r1.same s2) (one_row (hxp.same s1) (by omega) ht) (by decide) fun c H3 s3 r3 => ?_
    have s13 := s1.trans (s2.trans s3)
    refine ⟨_, rfl, _, rfl, _, _, rfl, rfl, _, rfl, _, rfl, _, rfl, sl_row (hR.same s13) fun b2 H4 s4 r4 => ?_⟩
    refine cat_row (r3.same s4) r4 (by decide) fun c2 H5 s5 r5 => ?_
    have s15 := s13.trans (s4.trans s5)
    obtain ⟨x2, p2, hx2, hxp2, hxl2⟩ := elem _ l0 l1
    refine ⟨_, rfl, _, rfl, o, _, _, _, rfl, rfl, sqT_same s15 hX, hx2, by show 1 ≤ sizeLine; decide, fun t2 ht2 => ?_⟩
    have s6 := same_new ht2 (.tup [x2])
    refine cat_row (r5.same s6) (one_row (hxp2.same s15) (by omega) ht2) (by decide) fun c3 H7 s7 r7 => ?_
    have s17 := s15.trans (s6.trans s7)
    refine ⟨_, rfl, _, rfl, _, _, rfl, rfl, _, rfl, ?_⟩
    dsimp only [tNoPart]
    refine sl_row (hR.same s17) fun b4 H8 s8 r8 => ?_
    exact cat_row (r7.same s8) r8 (by decide) fun c H9 s9 r9 => q c H9 (s17.trans (s8.trans s9)) (r9.le (by decide))
  refine ⟨_, rfl, rfl, _, rfl, ite2 (fun _ => ?_) (fun _ => ?_)⟩
  · refine ⟨_, rfl, ?_⟩
    dsimp only [tNoPart]
    exact ⟨_, rfl, _, rfl, sl_row hR fun b1 H1 s1 r1 => q b1 H1 s1 (r1.le (by decide))⟩
  refine ⟨_, rfl, rfl, _, rfl, ite2 (fun _ => ?_) (fun _ => ?_)⟩
  · refine ⟨_, rfl, o, xs, rfl, .inr hX, fun l hl => ?_⟩
    have s1 := same_new hl (.lst xs)
    refine ⟨l, xs, rfl, .inl ⟨.inl (.inl upd_same), fun D hD => ?_⟩⟩
    refine lc_rev (K := K) (xs := xs) (fun i H3 => ∃ (acc : List V) (qs : List Pl), H3 D = some (.lst acc) ∧ Same (upd H l (.lst xs)) H3 ∧ PlsH H3 acc qs ∧ qs.length = i ∧ ∀ p ∈ qs, p.length ≤ 400) ⟨[], [], upd_same, same_new hD _, trivial, rfl, fun p hp => nomatch hp⟩ (fun i H3 _ ⟨_, _, _, sm, _⟩ => .inl (.inl (sm _ _ upd_same))) ?_ ?_
    · rintro i x H3 hi hx ⟨acc, qs, eD, sm, rA, hql, hqs⟩
      obtain ⟨p, hp, hxp⟩ := eX.at_ hx
      have la := rA.len
      refine ⟨rfl, _, rfl, acc, eD, Nat.lt_of_le_of_lt (show acc.length ≤ 1000 by omega) (by decide), acc ++ [x], qs ++ [p], upd_same, fun b1 u e => ?_, ?_, by rw [List.length_append, hql]; rfl, fun z hz => ?_⟩
      · rw [upd_ne (ne_of_none e hD)]
        exact sm _ _ e
      · have tu : TupS H3 (upd H3 D (.lst (acc ++ [x]))) := TupS.upd eD fun _ z => nomatch z
        exact PlsH.app (rA.tu tu) ⟨(hxp.same (s1.trans sm)).tu tu, trivial⟩
      · rcases List.mem_append.mp hz with hz | hz
        · exact hqs z hz
        · rw [List.mem_singleton.mp hz]; exact hs p (List.mem_of_getElem? hp)
    · rintro H3 ⟨acc, qs, eD, sm, rA, hql, hqs⟩
      refine .inl ⟨D, acc, rfl, .inl (.inl eD), fun p hp => ?_⟩
      have s4 := same_new hp (.tup acc)
      exact q p _ (s1.trans (sm.trans s4)) ⟨qs, ⟨acc, SqT.of upd_same, rA.same s4⟩, by omega, fun z hz => Nat.le_trans (hqs z hz) (by decide)⟩
  · refine ⟨_, rfl, _, rfl, _, rfl, _, rfl, ?_⟩
    dsimp only [tNoPart]
    refine sl_row hR fun b2 H2 s2 r2 => ?_
    exact cat_row (hR.same s2) r2 (by decide) fun c H3 s3 r3 => q c H3 (s2.trans s3) (r3.le (by decide))
end
end Km
/-! KtO -/
set_option Elab.async false
set_option linter.all false
set_option maxRecDepth 100000
set_option maxHeartbeats 2000000
namespace Km
open PySem PySem.Spec PyProof.Rows L2 Ns
abbrev sIsNum : Stmt := top 27
abbrev sFaultIs : Stmt := top 28
def spIsNum : Sp := fun vs H Q _ => ∃ (i j : Int), vs = [.int i, .int j] ∧ Q (.bl (decide (i = j))) H
theorem scIsNum : FnScope ["_law_actual", "_law_expected"] ["_law_actual", "_law_expected"] (defScope sIsNum) := ⟨rfl, rfl, rfl, by decide +kernel, rfl, by decide +kernel, by decide +kernel⟩
def spFaultIs : Sp := fun vs H Q _ => ∃ (a b : Addr) (i : Int) (k : Str), vs = [.ref a, .ref b] ∧ H a = some (.tup [.int i, .str k]) ∧ H b = some (.tup [.int i, .str k]) ∧ Q (.bl true) H
theorem scFaultIs : FnScope ["_law_actual", "_law_due_here"] ["_law_actual", "_law_due_here"] (defScope sFaultIs) := ⟨rfl, rfl, rfl, by decide +kernel, rfl, by decide +kernel, by decide +kernel⟩
section
variable {P : Program} {w : World} {K : PySem.W.Frag} {mg : Str → Option Value} {base : Heap} {f : Addr} {fd : FuncData}
theorem ok_isNum {k : Nat} (T : Blt mg) (T2 : Blt2 mg) (F : Fun K "_law_is_number" "_law_is_number" sIsNum f fd) : FnOk P w K mg base CX0 (k + 1) f fd ["_law_actual", "_law_expected"] spIsNum := by
  refine F.ok scIsNum (fun vs H Q E h => ?_) (fun cdv A outer s H vs Q E hr h => ?_)
  · obtain ⟨i, j, rfl, _⟩ := h
    rfl
  obtain ⟨i, j, rfl, q⟩ := h
  refine ⟨_, pss_one (ps_ret (pe_and (pe_callB call_isi rfl T2.misi PyProof.Rows.boot_isinstance (pa_cons (pv 0) (pa_cons (pe_bltn (v := .ty "int") rfl T.mint PyProof.Rows.boot_int rfl) pa_nil)))
      (pe_and (pe_not (pe_callB call_isi rfl T2.misi PyProof.Rows.boot_isinstance (pa_cons (pv 0) (pa_cons (pe_bltn (v := .ty "bool") rfl T2.mbool PyProof.Rows.boot_bool rfl) pa_nil)))) (pe_one (pe_cmpR op_eq (pv 0) (pv 1) (nomark _)))))), ?_⟩
  refine ⟨_, rfl, _, .ty "int", .type "int", .type "int", true, rfl, .ty _, .base (.int _), kit_ty (by decide +kernel), true, rfl, iteT ?_⟩
  refine ⟨_, rfl, _, .ty "bool", .type "int", .type "bool", false, rfl, .ty _, .base (.int _), kit_ty (by decide +kernel), false, rfl, true, rfl, iteT ⟨_, rfl, _, rfl, rfl, ?_⟩⟩
  have e : decide (V.int i = V.int j) = decide (i = j) := decide_eq_decide.mpr ⟨fun z => V.int.inj z, fun z => by rw [z]⟩
  rw [e]
  exact q
theorem ok_faultIs {fN : Addr} {fdN : FuncData} (T : Blt mg) (T2 : Blt2 mg) (F : Fun K "_law_fault_is" "_law_fault_is" sFaultIs f fd)
    (GN : FnOk P w K mg base CX0 1 fN fdN ["_law_actual", "_law_expected"] spIsNum) (kN : PySem.W.keepIn K (.ref fN) = true) (bN : Binds K fdN ["_law_actual", "_law_expected"] []) (mN : mg "_law_is_number" = some (.ref fN)) :
    FnOk P w K mg base CX0 2 f fd ["_law_actual", "_law_due_here"] spFaultIs := by
  refine F.ok scFaultIs (fun vs H Q E h => ?_) (fun cdv A outer s H vs Q E hr h => ?_)
  · obtain ⟨a, b, i, k, rfl, _⟩ := h
    rfl
  obtain ⟨a, b, i, k, rfl, ha, hb, q⟩ := h
  refine ⟨_, pss_cons (ps_if (PW.pt (pw_or (pt_not (pt_val (pe_callB call_isi rfl T2.misi PyProof.Rows.boot_isinstance (pa_cons (pv 0) (pa_cons (pe_bltn (v := .ty "tuple") rfl T2.mtup PyProof.Rows.boot_tuple rfl) pa_nil)))))
        (pw_or1 (pt_cmpR op_ne (pe_callB call_len_seq rfl T.mlen PySem.boot_len (pa_cons (pv 0) pa_nil)) pe_int (nomark _))))) (pss_one (ps_ret pe_bl)) pss_nil)
    (pss_one (ps_ret (pe_and (pe_call GN hr rfl mN kN bN .nil pass0 (pa_cons (pe_ix ix_tup (pv 0) pe_int (fun _ _ => rfl)) (pa_cons (pe_ix ix_tup (pv 1) pe_int (fun _ _ => rfl)) pa_nil)))
      (pe_and (pe_callB call_isi rfl T2.misi PyProof.Rows.boot_isinstance (pa_cons (pe_ix ix_tup (pv 0) pe_int (fun _ _ => rfl)) (pa_cons (pe_bltn (v := .ty "str") rfl T2.mstr PyProof.Rows.boot_str rfl) pa_nil)))
        (pe_one (pe_cmpR op_eq (pe_ix ix_tup (pv 0) pe_int (fun _ _ => rfl)) (pe_ix ix_tup (pv 1) pe_int (fun _ _ => rfl)) (nomark _))))))), ?_⟩
  refine ⟨_, rfl, _, .ty "tuple", .type "tuple", .type "tuple", true, rfl, .ty _, .base (.tup ha), kit_ty (by decide +kernel), true, rfl, iteF ?_⟩
  refine ⟨_, rfl, a, _, rfl, .inr (SqT.of ha), rfl, _, rfl, iteF ?_⟩
  refine ⟨_, rfl, a, _, 0, _, rfl, rfl, SqT.of ha, atI_nat (j := 0) rfl, _, rfl, b, _, 0, _, rfl, rfl, SqT.of hb, atI_nat (j := 0) rfl, i, i, rfl, _, rfl, ?_⟩
  rw [decide_eq_true rfl]
  refine iteT ⟨_, rfl, a, _, 1, _, rfl, rfl, SqT.of ha, atI_nat (j := 1) rfl, _, .ty "str", .type "str", .type "str", true, rfl, .ty _, .base (.str _), kit_ty (by decide +kernel), true, rfl, iteT ?_⟩
  refine ⟨_, rfl, a, _, 1, _, rfl, rfl, SqT.of ha, atI_nat (j := 1) rfl, _, rfl, b, _, 1, _, rfl, rfl, SqT.of hb, atI_nat (j := 1) rfl, rfl, ?_⟩
  rw [decide_eq_true rfl]
  exact q
end
end Km
/-! KtHt -/
set_option Elab.async false
set_option linter.all false
set_option maxRecDepth 100000
set_option maxHeartbeats 2000000
/-! is_number and fault_is, called within an except suite -/
namespace Ns
open PySem PySem.Spec PyProof.Rows L2 L2H
variable {P : Program} {w : World} {K : PySem.W.Frag} {mg : Str → Option Value} {base : Heap}
theorem okH {x qual : Str} {st : Stmt} {f : Addr} {fd : FuncData} {N ps : List Str} {k : Nat} {sp : Sp} (F : L2.Fun K x qual st f fd) (S : FnScope N ps (defScope st)) (len : ∀ vs H Q E, sp vs H Q E → vs.length = ps.length)
    (hbody : ∀ (cdv : Value) (A : Around) (outer : List Env) (s : Shared) (H : Hp) (vs : List V) (Q : VK) (E : XK) (p : Addr × Obj), Hot1 A p → RoomH k (A.deeper (envOfC qual (defScope st) s.heap.objs.size f cdv)) → sp vs H Q E →
      ∃ t, PSs (cxH CX0 P w K mg base N qual (defScope st) f cdv A outer s H E p) (defBody st) t ∧ t { nx := fun _ H' => Q .non H', rt := Q } (L2.start N vs) H) : FnH P w K mg base CX0 (k + 1) f fd ps sp := by
  obtain ⟨oc, od, kV, doc, pm, an, cdv, ct, osl, rfl, lk, hcd⟩ := F.ex
  exact fn_ofH lk hcd S len fun A outer s H vs Q E p hot hr hsp => hbody cdv A outer s H vs Q E p hot hr hsp
theorem pass0H {X : Cx} : ∀ σ : L2.St, PassesAt CX0 X σ E0 := fun σ => by
  intro pins H s e s' I h
  exact h.elim
end Ns
namespace Km
open PySem PySem.Spec PyProof.Rows L2 Ns
section
variable {P : Program} {w : World} {K : PySem.W.Frag} {mg : Str → Option Value} {base : Heap} {f : Addr} {fd : FuncData}
theorem okH_isNum {k : Nat} (T : Blt mg) (T2 : Blt2 mg) (F : Fun K "_law_is_number" "_law_is_number" sIsNum f fd) : L2H.FnH P w K mg base CX0 (k + 1) f fd ["_law_actual", "_law_expected"] spIsNum := by
  refine okH F scIsNum (fun vs H Q E h => ?_) (fun cdv A outer s H vs Q E pz hot hr h => ?_)
  · obtain ⟨i, j, rfl, _⟩ := h
    rfl
  obtain ⟨i, j, rfl, q⟩ := h
  refine ⟨_, pss_one (ps_ret (pe_and (pe_callB call_isi rfl T2.misi PyProof.Rows.boot_isinstance (pa_cons (pv 0) (pa_cons (pe_bltn (v := .ty "int") rfl T.mint PyProof.Rows.boot_int rfl) pa_nil)))
      (pe_and (pe_not (pe_callB call_isi rfl T2.misi PyProof.Rows.boot_isinstance (pa_cons (pv 0) (pa_cons (pe_bltn (v := .ty "bool") rfl T2.mbool PyProof.Rows.boot_bool rfl) pa_nil)))) (pe_one (pe_cmpR op_eq (pv 0) (pv 1) (nomark _)))))), ?_⟩
  refine ⟨_, rfl, _, .ty "int", .type "int", .type "int", true, rfl, .ty _, .base (.int _), kit_ty (by decide +kernel), true, rfl, iteT ?_⟩
  refine ⟨_, rfl, _, .ty "bool", .type "int", .type "bool", false, rfl, .ty _, .base (.int _), kit_ty (by decide +kernel), false, rfl, true, rfl, iteT ⟨_, rfl, _, rfl, rfl, ?_⟩⟩
  have e : decide (V.int i = V.int j) = decide (i = j) := decide_eq_decide.mpr ⟨fun z => V.int.inj z, fun z => by rw [z]⟩
  rw [e]
  exact q
theorem okH_faultIs {fN : Addr} {fdN : FuncData} (T : Blt mg) (T2 : Blt2 mg) (F : Fun K "_law_fault_is" "_law_fault_is" sFaultIs f fd)
    (GN : L2H.FnH P w K mg base CX0 1 fN fdN ["_law_actual", "_law_expected"] spIsNum) (kN : PySem.W.keepIn K (.ref fN) = true) (bN : Binds K fdN ["_law_actual", "_law_expected"] []) (mN : mg "_law_is_number" = some (.ref fN)) :
    L2H.FnH P w K mg base CX0 2 f fd ["_law_actual", "_law_due_here"] spFaultIs := by
  refine okH F scFaultIs (fun vs H Q E h => ?_) (fun cdv A outer s H vs Q E pz hot hr h => ?_)
  · obtain ⟨a, b, i, k, rfl, _⟩ := h
    rfl
  obtain ⟨a, b, i, k, rfl, ha, hb, q⟩ := h
  refine ⟨_, pss_cons (ps_if (PW.pt (pw_or (pt_not (pt_val (pe_callB call_isi rfl T2.misi PyProof.Rows.boot_isinstance (pa_cons (pv 0) (pa_cons (pe_bltn (v := .ty "tuple") rfl T2.mtup PyProof.Rows.boot_tuple rfl) pa_nil)))))
        (pw_or1 (pt_cmpR op_ne (pe_callB call_len_seq rfl T.mlen PySem.boot_len (pa_cons (pv 0) pa_nil)) pe_int (nomark _))))) (pss_one (ps_ret pe_bl)) pss_nil)
    (pss_one (ps_ret (pe_and (L2H.pe_callH (E := fun _ => E0) GN hr ⟨pz, hot, List.mem_singleton.mpr rfl⟩ rfl mN kN bN pass0H (pa_cons (pe_ix ix_tup (pv 0) pe_int (fun _ _ => rfl)) (pa_cons (pe_ix ix_tup (pv 1) pe_int (fun _ _ => rfl)) pa_nil)))
      (pe_and (pe_callB call_isi rfl T2.misi PyProof.Rows.boot_isinstance (pa_cons (pe_ix ix_tup (pv 0) pe_int (fun _ _ => rfl)) (pa_cons (pe_bltn (v := .ty "str") rfl T2.mstr PyProof.Rows.boot_str rfl) pa_nil)))
        (pe_one (pe_cmpR op_eq (pe_ix ix_tup (pv 0) pe_int (fun _ _ => rfl)) (pe_ix ix_tup (pv 1) pe_int (fun _ _ => rfl)) (nomark _))))))), ?_⟩
  refine ⟨_, rfl, _, .ty "tuple", .type "tuple", .type "tuple", true, rfl, .ty _, .base (.tup ha), kit_ty (by decide +kernel), true, rfl, iteF ?_⟩
  refine ⟨_, rfl, a, _, rfl, .inr (SqT.of ha), rfl, _, rfl, iteF ?_⟩
  refine ⟨_, rfl, a, _, 0, _, rfl, rfl, SqT.of ha, atI_nat (j := 0) rfl, _, rfl, b, _, 0, _, rfl, rfl, SqT.of hb, atI_nat (j := 0) rfl, i, i, rfl, _, rfl, ?_⟩
  rw [decide_eq_true rfl]
  refine iteT ⟨_, rfl, a, _, 1, _, rfl, rfl, SqT.of ha, atI_nat (j := 1) rfl, _, .ty "str", .type "str", .type "str", true, rfl, .ty _, .base (.str _), kit_ty (by decide +kernel), true, rfl, iteT ?_⟩
  refine ⟨_, rfl, a, _, 1, _, rfl, rfl, SqT.of ha, atI_nat (j := 1) rfl, _, rfl, b, _, 1, _, rfl, rfl, SqT.of hb, atI_nat (j := 1) rfl, rfl, ?_⟩
  rw [decide_eq_true rfl]
  exact q
end
end Km
/-! KtP -/
set_option Elab.async false
set_option linter.all false
set_option maxRecDepth 100000
set_option maxHeartbeats 2000000
namespace L2
open PySem PySem.Spec PyProof.Rows
/-- isinstance(e, c), e the exception that the suite holds, with a dict of its own at d -/
def rIsX (K : PySem.W.Frag) (C a : Addr) (cls : Value) (d : Option Addr) : List V → Hp → VK → Prop := fun xs H Q => ∃ (c : V) (cv : Value) (b : Bool) (dd : Addr) (l : List (Str × V)), xs = [.ref a, c] ∧ cls = .ref C ∧ d = some dd ∧ H dd = some (.xd l) ∧ (∀ u, RelV c u → u = cv) ∧ PySem.W.kitOne K (.ref C) cv = some b ∧ Q (.bl b) H
def rIsXT (K : PySem.W.Frag) (C a : Addr) (cls : Value) (d : Option Addr) : List V → Hp → VK → Prop := fun xs H Q => ∃ (tp : Addr) (cs : List V) (us : List Value) (b : Bool) (dd : Addr) (l : List (Str × V)), xs = [.ref a, .ref tp] ∧ H tp = some (.tup cs) ∧ Paired ClsV cs us ∧ cls = .ref C ∧ d = some dd ∧ H dd = some (.xd l) ∧ PySem.W.kitAny K (.ref C) us = some b ∧ Q (.bl b) H
section
variable {X : Cx} {a C : Addr} {cls : Value} {d : Option Addr} {oe : Obj} {pn : List (Addr × Obj)}
theorem kitX_of (G : ExcC X.K C) : (PySem.W.clsIn X.K C).isSome = true := by
  obtain ⟨cd, hc, _⟩ := PySem.W.any_some G.hd
  rw [hc]
  rfl
theorem call_isX (G : ExcC X.K C) (hz : Zc cls d oe) (hf : ∃ vs, oe.data = .fields vs) : CallR (X.suite a ((a, oe) :: pn)) (.builtin "isinstance") (rIsX X.K C a cls d) := by
  intro pins s σ H xs us Q I r h
  obtain ⟨c, cv, b, dd, l, rfl, ec, ed, ea, hcv, hk, q⟩ := h
  subst ec
  subst ed
  obtain ⟨ux, ut, rfl, rx, rt⟩ := vals2 r
  obtain rfl : ux = Value.ref a := rx
  obtain rfl := hcv _ rt
  obtain ⟨hget, _⟩ := I.pin (a, oe) (List.mem_append_left _ List.mem_cons_self)
  obtain ⟨vs, hd⟩ := hf
  have hx : ObjOk X.prog X.w H s.heap dd (.xd l) := I.hok dd _ ea
  obtain ⟨mA, hns, hr⟩ := hx
  obtain ⟨od, ho, hl⟩ := lookIn_ns hns
  have J : PySem.W.InstAt s.heap a oe C (some od) := ⟨hget, hz.1, by unfold PySem.W.notCls; rw [hd] <;> rfl, by rw [hz.2]; exact ho⟩
  exact PySem.W.kia_one (PySem.W.kitx_exc (kitX_of G) G.hg G.hk G.hs G.ha G.hn G.ht G.hm) I.kIn J hk (fun z => nomatch z) fun tk => ⟨.bl b, H, I.kept (t' := tk) fun _ _ z => z, rfl, q⟩
theorem call_isXT (G : ExcC X.K C) (hz : Zc cls d oe) (hf : ∃ vs, oe.data = .fields vs) : CallR (X.suite a ((a, oe) :: pn)) (.builtin "isinstance") (rIsXT X.K C a cls d) := by
  intro pins s σ H xs us Q I r h
  obtain ⟨tp, cs, ws, b, dd, l, rfl, hT, hp, ec, ed, ea, hk, q⟩ := h
  subst ec
  subst ed
  obtain ⟨ux, ut, rfl, rx, rt⟩ := vals2 r
  obtain rfl : ux = Value.ref a := rx
  obtain rfl : ut = Value.ref tp := rt
  obtain ⟨hget, _⟩ := I.pin (a, oe) (List.mem_append_left _ List.mem_cons_self)
  obtain ⟨vs, hd⟩ := hf
  have hx : ObjOk X.prog X.w H s.heap dd (.xd l) := I.hok dd _ ea
  obtain ⟨mA, hns, hr⟩ := hx
  obtain ⟨od, ho, hl⟩ := lookIn_ns hns
  have J : PySem.W.InstAt s.heap a oe C (some od) := ⟨hget, hz.1, by unfold PySem.W.notCls; rw [hd] <;> rfl, by rw [hz.2]; exact ho⟩
  obtain ⟨_, its, rv, o, h1, h2, n, h3⟩ := (show ObjOk X.prog X.w H s.heap tp (.tup cs) from I.hok tp _ hT)
  have e3 := ClsV.all hp rv
  subst e3
  obtain ⟨oc, od2, dt, sl⟩ := o
  simp only at h2 h3
  subst h2 h3
  exact PySem.W.kia_tup (PySem.W.kitx_exc (kitX_of G) G.hg G.hk G.hs G.ha G.hn G.ht G.hm) I.kIn J h1 hk (fun z => nomatch z) fun tk => ⟨.bl b, H, I.kept (t' := tk) fun _ _ z => z, rfl, q⟩
end
end L2
namespace Km
open PySem PySem.Spec PyProof.Rows L2 Ns
abbrev sRowH : Stmt := top 29
/-- the classes that the law's door names -/
structure Errs (K : PySem.W.Frag) (mg : Str → Option Value) (CP B BL : Addr) : Prop where
  gP : mg "BadPaper" = some (.ref CP)
  gB : mg "BookError" = some (.ref B)
  gL : mg "BadLiar" = some (.ref BL)
  xP : PySem.W.exmOne K (.ref CP) (.ref CP) = some true
  exc : ExcC K CP
  kB : PySem.W.kitOne K (.ref CP) (.ref B) = some true
  kL : PySem.W.kitOne K (.ref CP) (.ref BL) = some false
  noP : PySem.W.findIn K (.ref CP) "place" = some none
  noK : PySem.W.findIn K (.ref CP) "kind" = some none
def spRowH (K : PySem.W.Frag) : Sp := fun vs H Q _ => ∃ (x : V) (a o : Addr) (t : LT) (ps : List Pl) (le : Int), vs = [x, .ref a, .ref o, .int le] ∧ LRep K H x t ∧ t.size ≤ 1000 ∧ Nodes K H a (ndsOf [] t) ∧ RowP K H o ps ∧ ps.length ≤ 5000 ∧ (∀ p ∈ ps, p.length ≤ 1000) ∧
  (faultF (ndsOf [] t) [] ps = none → le ≤ roomF (ndsOf [] t) 0 0 ps) ∧ ∀ H', Same H H' → Q (.bl true) H'
abbrev nRowH : List Str := ["_law_paper", "_law_nodes_here", "_law_order", "_law_least", "_law_due_here", "_law_fault", "_law_room_here", "e"]
abbrev pRowH : List Str := ["_law_paper", "_law_nodes_here", "_law_order", "_law_least"]
theorem scRowH : FnScope nRowH pRowH (defScope sRowH) := ⟨rfl, rfl, rfl, by decide +kernel, rfl, by decide +kernel, by decide +kernel⟩
section
variable {P : Program} {w : World} {K : PySem.W.Frag} {mg : Str → Option Value} {base : Heap} {f : Addr} {fd : FuncData} {CP B BL fI cc : Addr}
theorem ok_rowH {fD fF fR fL fN fS : Addr} {fdD fdF fdR fdL fdN fdS : FuncData} (X : KmX.XT P K mg "BadPaper" "place" "kind" CP fI cc) (R : Errs K mg CP B BL) (T2 : Blt2 mg) (F : Fun K "_law_row_holds" "_law_row_holds" sRowH f fd)
    (GD : FnOk P w K mg base CX0 1 fD fdD ["_law_nodes_here", "_law_order"] (spDue K)) (kD : PySem.W.keepIn K (.ref fD) = true) (bD : Binds K fdD ["_law_nodes_here", "_law_order"] []) (mD : mg "_law_due" = some (.ref fD))
    (GF : FnOk P w K mg base CX0 3 fF fdF ["paper", "order"] (spReadF K)) (kF : PySem.W.keepIn K (.ref fF) = true) (bF : Binds K fdF ["paper", "order"] []) (mF : mg "reading_fault" = some (.ref fF))
    (GR : FnOk P w K mg base (L2N.CX P w) 4 fR fdR ["paper", "order"] (spRoom K CP)) (kR : PySem.W.keepIn K (.ref fR) = true) (bR : Binds K fdR ["paper", "order"] []) (mR : mg "reading_room" = some (.ref fR))
    (GL : FnOk P w K mg base CX0 1 fL fdL ["_law_nodes_here", "_law_order"] (spLRoom K)) (kL : PySem.W.keepIn K (.ref fL) = true) (bL : Binds K fdL ["_law_nodes_here", "_law_order"] []) (mL : mg "_law_room" = some (.ref fL))
    (GN : FnOk P w K mg base CX0 1 fN fdN ["_law_actual", "_law_expected"] spIsNum) (kN : PySem.W.keepIn K (.ref fN) = true) (bN : Binds K fdN ["_law_actual", "_law_expected"] []) (mN : mg "_law_is_number" = some (.ref fN))
    (GS : L2H.FnH P w K mg base CX0 2 fS fdS ["_law_actual", "_law_due_here"] spFaultIs) (kS : PySem.W.keepIn K (.ref fS) = true) (bS : Binds K fdS ["_law_actual", "_law_due_here"] []) (mS : mg "_law_fault_is" = some (.ref fS)) :
    FnOk P w K mg base CX0 5 f fd pRowH (spRowH K) := by
  refine F.ok scRowH (fun vs H Q E h => ?_) (fun cdv A outer s H vs Q E hr h => ?_)
  · obtain ⟨x, a, o, t, ps, le, rfl, _⟩ := h
    rfl
  obtain ⟨x, a, o, t, ps, le, rfl, hT, hsz, hN, hP, h5, hl, hlow, q⟩ := h
  have nd := scRowH.nd
  refine ⟨_, (pss_cons (ps_set (i := 4) nd rfl (Or.inl rfl) (pe_call GD (hr.mono (by decide)) rfl mD kD bD .nil pass0 (pa_cons (pv 1) (pa_cons (pv 2) pa_nil))))
    (pss_cons (ps_set (i := 5) nd rfl (Or.inl rfl) (pe_call GF (hr.mono (by decide)) rfl mF kF bF .nil pass0 (pa_cons (pv 0) (pa_cons (pv 2) pa_nil))))
    (pss_one (L2N.ps_try_as (i := 7) (tb := (fun W => tSeq (tAsg (tCallS (spRoom K CP) (WE W) (tCons (tVar 0) (tCons (tVar 2) tNil))) (gName 6)) (tSeq (tIfS (tOr (tB (tNotN (tVar 4))) (tB (tNotN (tVar 5)))) (tRet (tC (.bl false))) tNext) (tRet (tAndV (tCall spIsNum [] E0 (tCons (tVar 6) (tCons (tCall (spLRoom K) [] E0 (tCons (tVar 1) (tCons (tVar 2) tNil))) tNil))) (tOp (rI0 fun i j => .bl (decide (j ≤ i))) (tVar 6) (tVar 3))))))) (Wout := fun _ _ _ _ => False) rfl rfl nd rfl rfl ⟨rfl, by decide, .inl R.gP⟩ (fun _ _ x => by obtain ⟨_, _, _, _, _, _, _, _, _, _, _, _, _, _, _, _, z⟩ := x; exact z.elim) (fun W pn xe tk _ => (pss_cons (ps_set (i := 6) nd rfl (Or.inl rfl) (by exact (pe_callS GR hr rfl mR kR bR (fun σ => L2N.passAt tk σ) (by exact (pa_cons (pv 0) (pa_cons (pv 2) pa_nil))))))
    (pss_cons (ps_if (PW.pt (pw_or (pt_cmp (pc_notN (pv 4))) (pw_or1 (pt_cmp (pc_notN (pv 5)))))) (pss_one (ps_ret pe_bl)) pss_nil)
    (pss_one (ps_ret (pe_and (pe_call GN (hr.mono (by decide)) rfl mN kN bN .nil pass0 (pa_cons (pv 6) (pa_cons (pe_call GL (hr.mono (by decide)) rfl mL kL bL .nil pass0 (pa_cons (pv 1) (pa_cons (pv 2) pa_nil))) pa_nil))) (pe_one (pe_cmpR op_ge (pv 6) (pv 3) (nomark _))))))))) (fun a oe cls d pn hz hf => (pss_cons (ps_if (PW.pt (pw_or (pt_cmp (pc_isN (pv 4))) (pw_or (pt_not (pt_val (pe_callB (r := rIsX K CP a cls d) (call_isX R.exc hz.zc hf) rfl T2.misi PyProof.Rows.boot_isinstance (pa_cons (pv 7) (pa_cons (pe_glob (v := .ref B) rfl R.gB rfl) pa_nil))))) (pw_or1 (pt_val (pe_callB (r := rIsX K CP a cls d) (call_isX R.exc hz.zc hf) rfl T2.misi PyProof.Rows.boot_isinstance (pa_cons (pv 7) (pa_cons (pe_glob (v := .ref BL) rfl R.gL rfl) pa_nil)))))))) (pss_one (ps_ret pe_bl)) pss_nil)
    (pss_one (ps_ret (by exact (pe_and (L2H.pe_callH (E := fun _ => E0) GS ⟨(L2H.roomH_of (hr.mono (show 2 ≤ 4 by decide))).dp, (L2H.roomH_of (hr.mono (show 2 ≤ 4 by decide))).un⟩ ⟨(a, oe), ⟨rfl, (hf.elim fun vs e => ⟨vs, e, hz.2.2 vs e⟩)⟩, List.mem_cons_self⟩ rfl mS kS bS pass0H (pa_cons (pv 5) (pa_cons (pv 4) pa_nil))) (pe_one (L2H.pe_callH (E := fun _ => E0) GS ⟨(L2H.roomH_of (hr.mono (show 2 ≤ 4 by decide))).dp, (L2H.roomH_of (hr.mono (show 2 ≤ 4 by decide))).un⟩ ⟨(a, oe), ⟨rfl, (hf.elim fun vs e => ⟨vs, e, hz.2.2 vs e⟩)⟩, List.mem_cons_self⟩ rfl mS kS bS pass0H (pa_cons (pe_tup (pa_cons (pe_byX X R.noP hz.zc hf (pv 7)) (pa_cons (pe_byX X R.noK hz.zc hf (pv 7)) pa_nil))) (pa_cons (pv 4) pa_nil)))))))))))))), ?_⟩
  refine ⟨_, rfl, _, rfl, a, o, ndsOf [] t, ps, rfl, hN, hP, h5, hl, fun hn H1 s1 => ?_, fun i k hk a1 H1 s1 h1 => ?_⟩
  · refine ⟨_, rfl, _, rfl, x, o, t, ps, rfl, hT.same s1, hsz, hP.same s1, h5, hl, fun _ H2 s2 => ?_, fun i k hk => by rw [hn] at hk; cases hk⟩
    have s12 := s1.trans s2
    refine ⟨_, rfl, _, rfl, x, o, t, ps, rfl, hT.same s12, hsz, hP.same s12, h5, hl, fun _ H3 s3 => ?_, fun i k hk => by rw [hn] at hk; cases hk⟩
    have s13 := s12.trans s3
    refine ⟨_, rfl, _, rfl, iteF ⟨_, rfl, _, rfl, iteF ?_⟩⟩
    refine ⟨_, rfl, _, rfl, _, rfl, a, o, ndsOf [] t, ps, rfl, hN.same s13, hP.same s13, fault_in hn, fun H4 s4 => ?_⟩
    refine ⟨_, _, rfl, _, rfl, ?_⟩
    rw [decide_eq_true rfl]
    refine iteT ⟨_, rfl, _, rfl, _, _, rfl, rfl, ?_⟩
    have e : V.bl (decide (le ≤ roomF (ndsOf [] t) 0 0 ps)) = V.bl true := by rw [decide_eq_true (hlow hn)]
    show Q (V.bl (decide (le ≤ roomF (ndsOf [] t) 0 0 ps))) H4
    rw [e]
    exact q H4 (s13.trans s4)
  · refine ⟨_, rfl, _, rfl, x, o, t, ps, rfl, hT.same s1, hsz, hP.same s1, h5, hl, fun hn => (by rw [hk] at hn; cases hn), fun i2 k2 hk2 a2 H2 s2 h2 => ?_⟩
    rw [hk] at hk2
    obtain ⟨rfl, rfl⟩ : i = i2 ∧ k = k2 := by injection hk2 with e; injection e with e1 e2; exact ⟨e1, e2⟩
    have s12 := s1.trans s2
    refine ⟨_, rfl, _, rfl, x, o, t, ps, rfl, hT.same s12, hsz, hP.same s12, h5, hl, fun hn => (by rw [hk] at hn; cases hn), fun i2 k2 hk2 d H3 s3 h3 => ?_⟩
    rw [hk] at hk2
    obtain ⟨rfl, rfl⟩ : i = i2 ∧ k = k2 := by injection hk2 with e; injection e with e1 e2; exact ⟨e1, e2⟩
    refine ⟨true, R.xP, (fun _ ea hea => ?_), (fun z => nomatch z)⟩
    have h13 := s3 _ _ (s2 _ _ h1)
    have h23 := s3 _ _ h2
    refine ⟨_, rfl, _, rfl, iteF ?_⟩
    refine ⟨_, rfl, _, _, _, d, _, rfl, rfl, rfl, h3, fun u r => r, R.kB, _, rfl, iteF ?_⟩
    refine ⟨_, rfl, _, _, _, d, _, rfl, rfl, rfl, h3, fun u r => r, R.kL, _, rfl, iteF ?_⟩
    refine ⟨_, rfl, _, rfl, a2, a1, (i : Int), k, rfl, h23, h13, _, rfl, iteT ?_⟩
    refine ⟨_, rfl, rfl, rfl, d, _, _, _, rfl, h3, (by with_unfolding_all rfl), _, rfl, rfl, rfl, d, _, _, _, rfl, h3, (by with_unfolding_all rfl), by show 2 ≤ sizeLine; decide, fun a3 ha3 => ?_⟩
    have s4 := same_new ha3 (.tup [V.int (i : Int), V.str k])
    refine ⟨_, rfl, a3, a1, (i : Int), k, rfl, upd_same, s4 _ _ h13, ?_⟩
    exact q _ (s12.trans (s3.trans s4))
end
end Km
/-! KtQ -/
set_option Elab.async false
set_option linter.all false
set_option maxRecDepth 100000
set_option maxHeartbeats 2000000
namespace Km
open PySem PySem.Spec PyProof.Rows L2 Ns
abbrev sBestH : Stmt := top 30
abbrev nBestH : List Str := ["_law_paper", "_law_nodes_here", "_law_least", "_law_order", "_law_place", "_law_side"]
abbrev pBestH : List Str := ["_law_paper", "_law_nodes_here", "_law_least"]
theorem scBestH : FnScope nBestH pBestH (defScope sBestH) := ⟨rfl, rfl, rfl, by decide +kernel, rfl, by decide +kernel, by decide +kernel⟩
def spBestH (K : PySem.W.Frag) : Sp := fun vs H Q _ => ∃ (x : V) (a : Addr) (t : LT) (le : Int), vs = [x, .ref a, .int le] ∧ LRep K H x t ∧ t.size ≤ 1000 ∧ t.high ≤ 100 ∧ Nodes K H a (ndsOf [] t) ∧ faultF (ndsOf [] t) [] (bpre [] t).reverse = none ∧ roomF (ndsOf [] t) 0 0 (bpre [] t).reverse = le ∧ (∀ p ∈ bpre [] t, p.length ≤ 1000) ∧ ∀ H', Same H H' → Q (.bl true) H'
section
variable {P : Program} {w : World} {K : PySem.W.Frag} {mg : Str → Option Value} {base : Heap} {f : Addr} {fd : FuncData}
theorem ok_bestH {fB fD fL fN fH : Addr} {fdB fdD fdL fdN fdH : FuncData} (T : Blt mg) (T2 : Blt2 mg) (F : Fun K "_law_best_holds" "_law_best_holds" sBestH f fd)
    (GB : FnOk P w K mg base CX0 3 fB fdB ["paper"] (spBest K)) (kB : PySem.W.keepIn K (.ref fB) = true) (bB : Binds K fdB ["paper"] []) (mB : mg "best_reading" = some (.ref fB))
    (GD : FnOk P w K mg base CX0 1 fD fdD ["_law_nodes_here", "_law_order"] (spDue K)) (kD : PySem.W.keepIn K (.ref fD) = true) (bD : Binds K fdD ["_law_nodes_here", "_law_order"] []) (mD : mg "_law_due" = some (.ref fD))
    (GL : FnOk P w K mg base CX0 1 fL fdL ["_law_nodes_here", "_law_order"] (spLRoom K)) (kL : PySem.W.keepIn K (.ref fL) = true) (bL : Binds K fdL ["_law_nodes_here", "_law_order"] []) (mL : mg "_law_room" = some (.ref fL))
    (GN : FnOk P w K mg base CX0 1 fN fdN ["_law_actual", "_law_expected"] spIsNum) (kN : PySem.W.keepIn K (.ref fN) = true) (bN : Binds K fdN ["_law_actual", "_law_expected"] []) (mN : mg "_law_is_number" = some (.ref fN))
    (GH : FnOk P w K mg base CX0 5 fH fdH pRowH (spRowH K)) (kH : PySem.W.keepIn K (.ref fH) = true) (bH : Binds K fdH pRowH []) (mH : mg "_law_row_holds" = some (.ref fH)) :
    FnOk P w K mg base CX0 6 f fd pBestH (spBestH K) := by
  refine F.ok scBestH (fun vs H Q E h => ?_) (fun cdv A outer s H vs Q E hr h => ?_)
  · obtain ⟨x, a, t, le, rfl, _⟩ := h
    rfl
  obtain ⟨x, a, t, le, rfl, hT, hsz, hhi, hN, hv, hroom, hlo, q⟩ := h
  have nd := scBestH.nd
  refine ⟨_, (pss_cons (ps_set (i := 3) nd rfl (Or.inl rfl) (pe_call GB (hr.mono (by decide)) rfl mB kB bB .nil pass0 (pa_cons (pv 0) pa_nil)))
    (pss_cons (ps_if (pt_not (pt_val (pe_callB call_isi rfl T2.misi PyProof.Rows.boot_isinstance (pa_cons (pv 3) (pa_cons (pe_bltn (v := .ty "tuple") rfl T2.mtup PyProof.Rows.boot_tuple rfl) pa_nil))))) (pss_one (ps_ret pe_bl)) pss_nil)
    (pss_cons (ps_for PassesOwn.never rfl (pi_tup (pv 3)) (pg_name (i := 4) nd rfl (Or.inl rfl)) (pss_one (ps_if (PW.pt (pw_or (pt_not (pt_val (pe_callB call_isi rfl T2.misi PyProof.Rows.boot_isinstance (pa_cons (pv 4) (pa_cons (pe_bltn (v := .ty "tuple") rfl T2.mtup PyProof.Rows.boot_tuple rfl) pa_nil))))) (pw_or1 (pt_cmpR op_gt (pe_callB call_len_seq rfl T.mlen PySem.boot_len (pa_cons (pe_lc (own := [("_law_side", 5)]) (g := gName 5) (tt := tNot (tB (tCall spIsNum [] E0 (tCons (tVar 5) (tCons (tVar 5) tNil))))) (te := tVar 5) rfl nd (pi_tup (pv 4)) (blkOk_by (N := nBestH) (sc := defScope sBestH) (by decide +kernel)) (fun _ _ _ _ _ => pg_name (i := 5) nd rfl (Or.inl rfl)) (fun _ _ _ _ _ => pts_one (pt_not (pt_val (pe_call GN (hr.mono (show 1 ≤ 5 by decide)) rfl mN kN bN .nil pass0 (pa_cons (pv 5) (pa_cons (pv 5) pa_nil)))))) (fun _ _ _ _ _ => pv 5)) pa_nil)) pe_int (nomark _))))) (pss_one (ps_ret pe_bl)) pss_nil)))
    (pss_cons (ps_if (PW.pt (pw_or (pt_cmp (pc_notN (pe_call GD (hr.mono (by decide)) rfl mD kD bD .nil pass0 (pa_cons (pv 1) (pa_cons (pv 3) pa_nil))))) (pw_or1 (pt_cmpR op_ne (pe_call GL (hr.mono (by decide)) rfl mL kL bL .nil pass0 (pa_cons (pv 1) (pa_cons (pv 3) pa_nil))) (pv 2) (nomark _))))) (pss_one (ps_ret pe_bl)) pss_nil)
    (pss_one (ps_ret (pe_call GH hr rfl mH kH bH .nil pass0 (pa_cons (pv 0) (pa_cons (pv 1) (pa_cons (pv 3) (pa_cons (pv 2) pa_nil))))))))))), ?_⟩
  refine ⟨_, rfl, x, t, rfl, hT, hsz, hhi, fun o H1 s1 no ho => ?_⟩
  obtain ⟨xs, eo, hP⟩ := ho
  have lx := hP.len
  have ll : (bpre [] t).reverse.length ≤ 1000 := by rw [List.length_reverse, bpre_len]; exact hsz
  have hlo2 : ∀ p ∈ (bpre [] t).reverse, p.length ≤ 1000 := fun p hp => hlo p (List.mem_reverse.mp hp)
  refine ⟨_, rfl, _, .ty "tuple", .type "tuple", .type "tuple", true, rfl, .ty _, .base (.tup eo), kit_ty (by decide +kernel), true, rfl, iteF ?_⟩
  refine ⟨_, rfl, o, rfl, ⟨xs, SqT.of eo⟩, for_tup (K := K) (xs := xs) (fun i σ H2 => ∃ y4 : Option V, σ = [some x, some (.ref a), some (.int le), some (.ref o), y4, none] ∧ Same H1 H2)
    ⟨none, rfl, Same.refl _⟩ (fun i σ H2 _ ⟨_, _, sm⟩ => SqT.of (sm _ _ eo)) ?_ ?_⟩
  · rintro i y σ H2 hi ⟨y4, rfl, sm⟩
    obtain ⟨pl, hp, hy⟩ := hP.at_ hi
    obtain ⟨b, rfl, hb⟩ := hy.same sm
    have hpl := hlo2 pl (List.mem_of_getElem? hp)
    refine ⟨_, rfl, _, .ty "tuple", .type "tuple", .type "tuple", true, rfl, .ty _, .base (.tup hb), kit_ty (by decide +kernel), true, rfl, iteF ?_⟩
    refine ⟨_, rfl, b, rfl, ⟨_, SqT.of hb⟩, fun D hD => ?_⟩
    refine lc_tup (K := K) (xs := pl.map V.int) (fun j H3 => H3 D = some (.lst []) ∧ Same H2 H3) ⟨upd_same, same_new hD _⟩ (fun j H3 _ ⟨_, s3⟩ => SqT.of (s3 _ _ hb)) ?_ ?_
    · rintro j z H3 hj ⟨eD, s3⟩
      obtain ⟨v, rfl⟩ : ∃ v, z = V.int v := by
        rw [List.getElem?_map] at hj
        cases e : pl[j]? with
        | none => rw [e] at hj; cases hj
        | some v => rw [e] at hj; exact ⟨v, (Option.some.inj hj).symm⟩
      refine ⟨rfl, _, rfl, _, rfl, v, v, rfl, _, rfl, ?_⟩
      rw [decide_eq_true rfl]
      exact iteF ⟨eD, s3⟩
    · rintro H3 ⟨eD, s3⟩
      refine ⟨D, _, rfl, .inl (.inl (.inl eD)), _, _, rfl, rfl, _, rfl, iteF ⟨_, rfl, sm.trans s3⟩⟩
  · rintro σ H2 ⟨y4, rfl, sm⟩
    have s12 := s1.trans sm
    have hR2 : RowP K H2 o (bpre [] t).reverse := ⟨xs, SqT.of (sm _ _ eo), hP.same sm⟩
    refine ⟨_, rfl, _, rfl, a, o, ndsOf [] t, _, rfl, hN.same s12, hR2, by omega, hlo2, fun _ H3 s3 => ?_, fun i k hk => by rw [hv] at hk; cases hk⟩
    have s13 := s12.trans s3
    refine ⟨_, rfl, iteF ⟨_, rfl, _, rfl, a, o, ndsOf [] t, _, rfl, hN.same s13, hR2.same s3, fault_in hv, fun H4 s4 => ?_⟩⟩
    have s14 := s13.trans s4
    refine ⟨_, rfl, rfl, _, rfl, ?_⟩
    rw [hroom, decide_eq_true rfl]
    refine iteF ⟨_, rfl, _, rfl, _, rfl, _, rfl, x, a, o, t, _, le, rfl, hT.same s14, hsz, hN.same s14, (hR2.same s3).same s4, by omega, hlo2, fun _ => Int.le_of_eq hroom.symm, fun H5 s5 => q H5 (s14.trans s5)⟩
end
end Km
/-! KtW -/
set_option Elab.async false
set_option linter.all false
set_option maxRecDepth 100000
set_option maxHeartbeats 2000000
/-! what a reading needs: at least one more than the branching number; the best one needs just this -/
namespace Ns
def heldT (R : List Pl) : Pl → LT → Int
  | p, .wish _ => if p ∈ R then 1 else 0
  | p, .frm _ _ l r => heldT R (p ++ [0]) l + heldT R (p ++ [1]) r - (if p ∈ R then 1 else 0)
def closedT (R : List Pl) : Pl → LT → Prop
  | _, .wish _ => True
  | p, .frm _ _ l r => (p ∈ R → p ++ [0] ∈ R ∧ p ++ [1] ∈ R) ∧ closedT R (p ++ [0]) l ∧ closedT R (p ++ [1]) r
theorem held_root {R : List Pl} : ∀ (t : LT) (p : Pl), closedT R p t → p ∈ R → heldT R p t = 1
  | .wish _, p, _, h => if_pos h
  | .frm _ _ l r, p, c, h => by
    have z := c.1 h
    show heldT R (p ++ [0]) l + heldT R (p ++ [1]) r - (if p ∈ R then 1 else 0) = 1
    rw [held_root l _ c.2.1 z.1, held_root r _ c.2.2 z.2, if_pos h]
    rfl
theorem held_pos {R : List Pl} : ∀ (t : LT) (p : Pl), closedT R p t → 0 ≤ heldT R p t
  | .wish _, p, _ => by
    show 0 ≤ (if p ∈ R then (1 : Int) else 0)
    split <;> decide
  | .frm nm line l r, p, c => by
    by_cases h : p ∈ R
    · rw [held_root (.frm nm line l r) p c h]
      decide
    · have h1 := held_pos l _ c.2.1
      have h2 := held_pos r _ c.2.2
      show 0 ≤ heldT R (p ++ [0]) l + heldT R (p ++ [1]) r - (if p ∈ R then 1 else 0)
      rw [if_neg h]
      omega
theorem held_mono {R R' : List Pl} (hs : ∀ x ∈ R, x ∈ R') : ∀ (t : LT) (p : Pl), closedT R' p t → 1 ≤ heldT R p t → 1 ≤ heldT R' p t
  | .wish _, p, _, h => by
    have h2 : 1 ≤ (if p ∈ R then (1 : Int) else 0) := h
    by_cases c : p ∈ R
    · show 1 ≤ (if p ∈ R' then (1 : Int) else 0)
      rw [if_pos (hs p c)]
      decide
    · rw [if_neg c] at h2
      omega
  | .frm nm line l r, p, c, h => by
    by_cases hp : p ∈ R'
    · rw [held_root (.frm nm line l r) p c hp]
      decide
    · have h2 : 1 ≤ heldT R (p ++ [0]) l + heldT R (p ++ [1]) r - (if p ∈ R then 1 else 0) := h
      rw [if_neg (fun z => hp (hs p z))] at h2
      show 1 ≤ heldT R' (p ++ [0]) l + heldT R' (p ++ [1]) r - (if p ∈ R' then 1 else 0)
      rw [if_neg hp]
      have q1 := held_pos l _ c.2.1
      have q2 := held_pos r _ c.2.2
      by_cases hl : 1 ≤ heldT R (p ++ [0]) l
      · have := held_mono hs l _ c.2.1 hl
        omega
      · have := held_mono hs r _ c.2.2 (by omega)
        omega
theorem first_in {ord : List Pl} {p : Pl} : ∀ j0 : Nat, p ∈ ord.take j0 → ∃ j, j < j0 ∧ p ∉ ord.take j ∧ p ∈ ord.take (j + 1)
  | 0, h => by rw [List.take_zero] at h; cases h
  | j0 + 1, h => by
    by_cases c : p ∈ ord.take j0
    · obtain ⟨j, h1, h2⟩ := first_in j0 c
      exact ⟨j, by omega, h2⟩
    · exact ⟨j0, Nat.lt_succ_self _, c, h⟩
theorem take_sub {ord : List Pl} {i j : Nat} (h : i ≤ j) : ∀ x ∈ ord.take i, x ∈ ord.take j := fun x hx => by
  have e : ord.take i = (ord.take j).take i := by rw [List.take_take, Nat.min_eq_left h]
  rw [e] at hx
  exact List.mem_of_mem_take hx
theorem peak {ord : List Pl} : ∀ (t : LT) (p : Pl), (∀ j, closedT (ord.take j) p t) → ∀ j0, p ∈ ord.take j0 → ∃ j, j ≤ j0 ∧ (t.num : Int) + 1 ≤ heldT (ord.take j) p t
  | .wish i, p, _, j0, h => ⟨j0, Nat.le_refl _, by
      show ((0 : Nat) : Int) + 1 ≤ (if p ∈ ord.take j0 then (1 : Int) else 0)
      rw [if_pos h]
      decide⟩
  | .frm nm line l r, p, c, j0, h => by
    obtain ⟨j1, h1, h2, h3⟩ := first_in j0 h
    have z := (c (j1 + 1)).1 h3
    have last : ∀ x, x ∈ ord.take (j1 + 1) → x ≠ p → x ∈ ord.take j1 := fun x hx hxp => by
      have e : ord.take (j1 + 1) = ord.take j1 ++ ord[j1]?.toList := List.take_succ
      rw [e] at hx h3
      rcases List.mem_append.mp hx with hx | hx
      · exact hx
      · rcases List.mem_append.mp h3 with h3 | h3
        · exact absurd h3 h2
        · cases e2 : ord[j1]? with
          | none => rw [e2] at hx; cases hx
          | some y =>
            rw [e2] at hx h3
            have a1 : x = y := List.mem_singleton.mp hx
            have a2 : p = y := List.mem_singleton.mp h3
            exact absurd (a1.trans a2.symm) hxp
    have z0 := last _ z.1 snoc_ne
    have z1 := last _ z.2 snoc_ne
    obtain ⟨jl, l1, l2⟩ := peak l _ (fun j => (c j).2.1) j1 z0
    obtain ⟨jr, r1, r2⟩ := peak r _ (fun j => (c j).2.2) j1 z1
    have off : ∀ j, j ≤ j1 → heldT (ord.take j) p (.frm nm line l r) = heldT (ord.take j) (p ++ [0]) l + heldT (ord.take j) (p ++ [1]) r := fun j hj => by
      show heldT (ord.take j) (p ++ [0]) l + heldT (ord.take j) (p ++ [1]) r - (if p ∈ ord.take j then 1 else 0) = _
      rw [if_neg (fun e => h2 (take_sub hj p e))]
      omega
    have posl := fun j => held_pos l (p ++ [0]) (c j).2.1
    have posr := fun j => held_pos r (p ++ [1]) (c j).2.2
    have en : (LT.frm nm line l r).num = if l.num = r.num then l.num + 1 else max l.num r.num := rfl
    by_cases e : l.num = r.num
    · rw [if_pos e] at en
      rcases Nat.le_total jl jr with hj | hj
      · refine ⟨jr, by omega, ?_⟩
        have k := held_mono (take_sub (ord := ord) hj) l (p ++ [0]) (c jr).2.1 (by omega)
        rw [off jr r1, en]
        omega
      · refine ⟨jl, by omega, ?_⟩
        have k := held_mono (take_sub (ord := ord) hj) r (p ++ [1]) (c jl).2.2 (by omega)
        rw [off jl l1, en]
        omega
    · rw [if_neg e] at en
      rcases Nat.le_total l.num r.num with hj | hj
      · refine ⟨jr, by omega, ?_⟩
        have := posl jr
        rw [off jr r1, en]
        omega
      · refine ⟨jl, by omega, ?_⟩
        have := posr jl
        rw [off jl l1, en]
        omega
/-! what a step holds -/
def dS : List Nd → Pl → Int
  | [], _ => 0
  | q :: r, pl => (if q.1 = pl then (if q.2 = true then 1 else -1) else 0) + dS r pl
theorem dS_app (pl : Pl) : ∀ A B : List Nd, dS (A ++ B) pl = dS A pl + dS B pl
  | [], B => by show dS B pl = 0 + dS B pl; omega
  | q :: A, B => by
    show _ + dS (A ++ B) pl = _ + dS A pl + dS B pl
    rw [dS_app pl A B]
    omega
theorem dS_no {pl : Pl} : ∀ {ns : List Nd}, pl ∉ ns.map (·.1) → dS ns pl = 0
  | [], _ => rfl
  | q :: r, h => by
    show (if q.1 = pl then (if q.2 = true then (1 : Int) else -1) else 0) + dS r pl = 0
    rw [if_neg (fun e => h (by rw [List.map_cons, e]; exact List.mem_cons_self)), dS_no (fun e => h (by rw [List.map_cons]; exact List.mem_cons_of_mem _ e))]
    rfl
theorem dS_lkp {pl : Pl} : ∀ {ns : List Nd} {b : Bool}, (ns.map (·.1)).Nodup → lkp ns pl = some b → dS ns pl = if b = true then 1 else -1
  | q :: r, b, nd, h => by
    have h2 : (if q.1 = pl then some q.2 else lkp r pl) = some b := h
    rw [List.map_cons, List.nodup_cons] at nd
    show (if q.1 = pl then (if q.2 = true then (1 : Int) else -1) else 0) + dS r pl = _
    by_cases c : q.1 = pl
    · rw [if_pos c] at h2
      obtain rfl := Option.some.inj h2
      rw [if_pos c, dS_no (fun e => nd.1 (by rw [c]; exact e))]
      omega
    · rw [if_neg c] at h2
      rw [if_neg c, dS_lkp nd.2 h2]
      omega
theorem held_step {rd : List Pl} {pl : Pl} (h : pl ∉ rd) : ∀ (t : LT) (p : Pl), heldT (rd ++ [pl]) p t = heldT rd p t + dS (ndsOf p t) pl
  | .wish i, p => by
    show (if p ∈ rd ++ [pl] then (1 : Int) else 0) = (if p ∈ rd then 1 else 0) + ((if p = pl then (if true = true then 1 else -1) else 0) + 0)
    by_cases c : p = pl
    · rw [if_pos (by rw [c]; simp), if_neg (by rw [c]; exact h), if_pos c, if_pos rfl]
      rfl
    · rw [if_neg c]
      by_cases d : p ∈ rd
      · rw [if_pos (List.mem_append_left _ d), if_pos d]
        rfl
      · rw [if_neg (fun e => by rcases List.mem_append.mp e with e | e; exact d e; exact c (List.mem_singleton.mp e)), if_neg d]
        rfl
  | .frm nm line l r, p => by
    show heldT (rd ++ [pl]) (p ++ [0]) l + heldT (rd ++ [pl]) (p ++ [1]) r - (if p ∈ rd ++ [pl] then 1 else 0) = heldT rd (p ++ [0]) l + heldT rd (p ++ [1]) r - (if p ∈ rd then 1 else 0) + dS (ndsOf (p ++ [0]) l ++ ndsOf (p ++ [1]) r ++ [(p, false)]) pl
    rw [held_step h l, held_step h r, dS_app, dS_app]
    have e : dS [(p, false)] pl = if p = pl then -1 else 0 := by
      show (if p = pl then (if false = true then (1 : Int) else -1) else 0) + 0 = _
      by_cases c : p = pl
      · rw [if_pos c, if_pos c]; rfl
      · rw [if_neg c, if_neg c]; rfl
    rw [e]
    by_cases c : p = pl
    · rw [if_pos (show p ∈ rd ++ [pl] by rw [c]; simp), if_neg (show ¬ p ∈ rd by rw [c]; exact h), if_pos c]
      omega
    · rw [if_neg c]
      by_cases d : p ∈ rd
      · rw [if_pos (List.mem_append_left _ d), if_pos d]
        omega
      · rw [if_neg (fun e => by rcases List.mem_append.mp e with e | e; exact d e; exact c (List.mem_singleton.mp e)), if_neg d]
        omega
def closedL (ns : List Nd) (R : List Pl) : Prop := ∀ q, (q, false) ∈ ns → q ∈ R → q ++ [0] ∈ R ∧ q ++ [1] ∈ R
theorem closed_of {R : List Pl} : ∀ (t : LT) (p : Pl), closedL (ndsOf p t) R → closedT R p t
  | .wish _, _, _ => trivial
  | .frm nm line l r, p, h => by
    have e : ndsOf p (.frm nm line l r) = ndsOf (p ++ [0]) l ++ ndsOf (p ++ [1]) r ++ [(p, false)] := rfl
    refine ⟨fun hp => h p (by rw [e]; simp) hp, closed_of l _ fun q hq => h q ?_, closed_of r _ fun q hq => h q ?_⟩
    · rw [e]; exact List.mem_append_left _ (List.mem_append_left _ hq)
    · rw [e]; exact List.mem_append_left _ (List.mem_append_right _ hq)
theorem closed_step {ns : List Nd} (nd : (ns.map (·.1)).Nodup) {rd : List Pl} {pl : Pl} (h : stpF ns rd pl = none) (c : closedL ns rd) : closedL ns (rd ++ [pl]) := fun q hq hm => by
  rcases List.mem_append.mp hm with hm | hm
  · have z := c q hq hm
    exact ⟨List.mem_append_left _ z.1, List.mem_append_left _ z.2⟩
  · have e : q = pl := List.mem_singleton.mp hm
    subst e
    have k := lkp_some nd hq
    have new := stp_new h
    unfold stpF at h
    rw [if_neg (fun z => by rw [k] at z; cases z), if_neg new] at h
    have both : q ++ [0] ∈ rd ∧ q ++ [1] ∈ rd := by
      refine Classical.byContradiction fun no => ?_
      have ce : lkp ns q = some false ∧ (q ++ [0] ∉ rd ∨ q ++ [1] ∉ rd) := ⟨k, by
        by_cases c0 : q ++ [0] ∈ rd
        · exact .inr fun c1 => no ⟨c0, c1⟩
        · exact .inl c0⟩
      rw [if_pos ce] at h
      cases h
    exact ⟨List.mem_append_left _ both.1, List.mem_append_left _ both.2⟩
theorem valid_closed {ns : List Nd} (nd : (ns.map (·.1)).Nodup) : ∀ (rest rd : List Pl), faultF ns rd rest = none → closedL ns rd → ∀ j, closedL ns (rd ++ rest.take j)
  | [], rd, _, c, j => by rw [List.take_nil, List.append_nil]; exact c
  | pl :: r, rd, h, c, 0 => by rw [List.take_zero, List.append_nil]; exact c
  | pl :: r, rd, h, c, j + 1 => by
    cases hk : stpF ns rd pl with
    | some k => rw [fault_at hk] at h; cases h
    | none =>
      rw [fault_go hk] at h
      have z := valid_closed nd r _ h (closed_step nd hk c) j
      rw [List.append_assoc] at z
      exact z
theorem valid_len {ns : List Nd} : ∀ (rest rd : List Pl), faultF ns rd rest = none → ns.length ≤ rd.length + rest.length
  | [], rd, h => by
    have h2 : (if rd.length < ns.length then some (rd.length, ("missing" : PySem.Str)) else none) = none := h
    by_cases c : rd.length < ns.length
    · rw [if_pos c] at h2; cases h2
    · rw [List.length_nil]; omega
  | pl :: r, rd, h => by
    cases hk : stpF ns rd pl with
    | some k => rw [fault_at hk] at h; cases h
    | none =>
      rw [fault_go hk] at h
      have z := valid_len r _ h
      rw [List.length_append, List.length_singleton] at z
      rw [List.length_cons]
      omega
theorem valid_nodup {ns : List Nd} : ∀ (rest rd : List Pl), faultF ns rd rest = none → rd.Nodup → (rd ++ rest).Nodup
  | [], rd, _, n => by rw [List.append_nil]; exact n
  | pl :: r, rd, h, n => by
    cases hk : stpF ns rd pl with
    | some k => rw [fault_at hk] at h; cases h
    | none =>
      rw [fault_go hk] at h
      have z := valid_nodup r _ h (List.nodup_append.mpr ⟨n, by simp, fun a ha b hb e => by
        rw [List.mem_singleton.mp hb] at e
        exact stp_new hk (by rw [← e]; exact ha)⟩)
      rw [List.append_assoc] at z
      exact z
theorem room_ge {ns : List Nd} : ∀ (rest : List Pl) (h m : Int), m ≤ roomF ns h m rest
  | [], h, m => Int.le_refl _
  | pl :: r, h, m => Int.le_trans (Int.le_max_left _ _) (room_ge r _ _)
theorem held_room {t : LT} : ∀ (rest rd : List Pl) (m : Int), faultF (ndsOf [] t) rd rest = none → heldT rd [] t ≤ m → ∀ j, heldT (rd ++ rest.take j) [] t ≤ roomF (ndsOf [] t) (heldT rd [] t) m rest
  | [], rd, m, _, hm, j => by rw [List.take_nil, List.append_nil]; exact hm
  | pl :: r, rd, m, h, hm, 0 => by
    rw [List.take_zero, List.append_nil]
    exact Int.le_trans hm (room_ge _ _ _)
  | pl :: r, rd, m, h, hm, j + 1 => by
    cases hk : stpF (ndsOf [] t) rd pl with
    | some k => rw [fault_at hk] at h; cases h
    | none =>
      rw [fault_go hk] at h
      obtain ⟨b, hb⟩ := stp_in hk
      have st := held_step (stp_new hk) t []
      rw [dS_lkp (nds_nodup t []) hb] at st
      have e : (if lkp (ndsOf [] t) pl = some true then heldT rd [] t + 1 else heldT rd [] t - 1) = heldT (rd ++ [pl]) [] t := by
        rw [hb, st]
        cases b with
        | true => rw [if_pos rfl, if_pos rfl]
        | false => rw [if_neg (fun z => by cases z), if_neg (fun z => by cases z)]; omega
      show heldT (rd ++ pl :: r.take j) [] t ≤ roomF (ndsOf [] t) (if lkp (ndsOf [] t) pl = some true then heldT rd [] t + 1 else heldT rd [] t - 1) (max m (if lkp (ndsOf [] t) pl = some true then heldT rd [] t + 1 else heldT rd [] t - 1)) r
      rw [e]
      have z := held_room r (rd ++ [pl]) (max m (heldT (rd ++ [pl]) [] t)) h (Int.le_max_right _ _) j
      rw [List.append_assoc] at z
      exact z
theorem held_nil : ∀ (t : LT) (p : Pl), heldT [] p t = 0
  | .wish _, p => if_neg (fun h => nomatch h)
  | .frm _ _ l r, p => by
    show heldT [] (p ++ [0]) l + heldT [] (p ++ [1]) r - (if p ∈ ([] : List Pl) then 1 else 0) = 0
    rw [held_nil l, held_nil r, if_neg (fun h => nomatch h)]
    rfl
theorem root_nd : ∀ (t : LT) (p : Pl), p ∈ (ndsOf p t).map (·.1)
  | .wish _, p => List.mem_singleton.mpr rfl
  | .frm _ _ l r, p => by
    show p ∈ (ndsOf (p ++ [0]) l ++ ndsOf (p ++ [1]) r ++ [(p, false)]).map (·.1)
    rw [List.map_append]
    exact List.mem_append_right _ (List.mem_singleton.mpr rfl)
/-- no reading needs less -/
theorem room_low {t : LT} {ps : List Pl} (h : faultF (ndsOf [] t) [] ps = none) : (t.num : Int) + 1 ≤ roomF (ndsOf [] t) 0 0 ps := by
  have nd := nds_nodup t []
  have cl := valid_closed nd ps [] h (fun q _ hm => nomatch hm)
  have nd2 := valid_nodup ps [] h List.nodup_nil
  have ln := valid_len ps [] h
  have hin : ([] : Pl) ∈ ps := by
    refine Classical.byContradiction fun no => ?_
    have z := sub_len ps (((ndsOf [] t).map (·.1)).erase []) nd2 fun x hx => by
      obtain ⟨b, hb⟩ := fault_in h x hx
      exact (List.mem_erase_of_ne (fun e : x = [] => no (by rw [← e]; exact hx))).mpr (List.mem_map.mpr ⟨_, lkp_mem hb, rfl⟩)
    rw [List.length_erase_of_mem (root_nd t []), List.length_map] at z
    have pos : 0 < (ndsOf [] t).length := by
      have := List.length_pos_of_mem (root_nd t [])
      rw [List.length_map] at this
      exact this
    rw [List.length_nil] at ln
    omega
  obtain ⟨j, _, hj⟩ := peak (ord := ps) t [] (fun j => closed_of t [] (cl j)) ps.length (by rw [List.take_length]; exact hin)
  have k := held_room (t := t) ps [] 0 h (by rw [held_nil]; exact Int.le_refl _) j
  rw [held_nil] at k
  exact Int.le_trans hj k
/-! the best reading -/
def bpost : Pl → LT → List Pl
  | pl, .wish _ => [pl]
  | pl, .frm _ _ l r => if r.num ≤ l.num then bpost (pl ++ [0]) l ++ bpost (pl ++ [1]) r ++ [pl] else bpost (pl ++ [1]) r ++ bpost (pl ++ [0]) l ++ [pl]
theorem bpre_rev : ∀ (t : LT) (pl : Pl), (bpre pl t).reverse = bpost pl t
  | .wish _, _ => rfl
  | .frm _ _ l r, pl => by
    show (if r.num ≤ l.num then pl :: (bpre (pl ++ [1]) r ++ bpre (pl ++ [0]) l) else pl :: (bpre (pl ++ [0]) l ++ bpre (pl ++ [1]) r)).reverse = (if r.num ≤ l.num then bpost (pl ++ [0]) l ++ bpost (pl ++ [1]) r ++ [pl] else bpost (pl ++ [1]) r ++ bpost (pl ++ [0]) l ++ [pl])
    split <;> rw [List.reverse_cons, List.reverse_append, bpre_rev l, bpre_rev r]
theorem bpost_mem : ∀ (t : LT) (pl q : Pl), q ∈ bpost pl t → q ∈ (ndsOf pl t).map (·.1)
  | .wish _, pl, q, h => h
  | .frm _ _ l r, pl, q, h => by
    show q ∈ (ndsOf (pl ++ [0]) l ++ ndsOf (pl ++ [1]) r ++ [(pl, false)]).map (·.1)
    rw [List.map_append, List.map_append]
    have h2 : q ∈ bpost (pl ++ [0]) l ∨ q ∈ bpost (pl ++ [1]) r ∨ q = pl := by
      have h3 : q ∈ (if r.num ≤ l.num then bpost (pl ++ [0]) l ++ bpost (pl ++ [1]) r ++ [pl] else bpost (pl ++ [1]) r ++ bpost (pl ++ [0]) l ++ [pl]) := h
      split at h3 <;> (simp only [List.mem_append, List.mem_singleton] at h3; rcases h3 with (h3 | h3) | h3)
      · exact .inl h3
      · exact .inr (.inl h3)
      · exact .inr (.inr h3)
      · exact .inr (.inl h3)
      · exact .inl h3
      · exact .inr (.inr h3)
    rcases h2 with h2 | h2 | h2
    · exact List.mem_append_left _ (List.mem_append_left _ (bpost_mem l _ q h2))
    · exact List.mem_append_left _ (List.mem_append_right _ (bpost_mem r _ q h2))
    · exact List.mem_append_right _ (List.mem_singleton.mpr h2)
theorem bpost_root : ∀ (t : LT) (pl : Pl), pl ∈ bpost pl t
  | .wish _, _ => List.mem_singleton.mpr rfl
  | .frm _ _ l r, pl => by
    show pl ∈ (if r.num ≤ l.num then bpost (pl ++ [0]) l ++ bpost (pl ++ [1]) r ++ [pl] else bpost (pl ++ [1]) r ++ bpost (pl ++ [0]) l ++ [pl])
    split <;> exact List.mem_append_right _ (List.mem_singleton.mpr rfl)
/-- both at once: no fault, and what it holds -/
theorem bpost_go {ns : List Nd} : ∀ (t : LT) (pl : Pl), (∀ z ∈ ndsOf pl t, lkp ns z.1 = some z.2) → ∀ (rd rest : List Pl), (∀ q ∈ (ndsOf pl t).map (·.1), q ∉ rd) →
    faultF ns rd (bpost pl t ++ rest) = faultF ns (rd ++ bpost pl t) rest ∧ ∀ h m : Int, roomF ns h m (bpost pl t ++ rest) = roomF ns (h + 1) (max m (h + t.num + 1)) rest
  | .wish i, pl, hk, rd, rest, hn => by
    have k : lkp ns pl = some true := hk (pl, true) (List.mem_singleton.mpr rfl)
    have new : pl ∉ rd := hn pl (List.mem_singleton.mpr rfl)
    have st : stpF ns rd pl = none := by
      unfold stpF
      rw [if_neg (fun z => by rw [k] at z; cases z), if_neg new, if_neg (fun z => by rw [k] at z; cases z.1)]
    refine ⟨fault_go st, fun h m => ?_⟩
    show roomF ns (if lkp ns pl = some true then h + 1 else h - 1) (max m (if lkp ns pl = some true then h + 1 else h - 1)) rest = roomF ns (h + 1) (max m (h + ((0 : Nat) : Int) + 1)) rest
    rw [if_pos k]
    have e : h + ((0 : Nat) : Int) + 1 = h + 1 := by omega
    rw [e]
  | .frm nm line l r, pl, hk, rd, rest, hn => by
    have e : ndsOf pl (.frm nm line l r) = ndsOf (pl ++ [0]) l ++ ndsOf (pl ++ [1]) r ++ [(pl, false)] := rfl
    have k : lkp ns pl = some false := hk (pl, false) (by rw [e]; simp)
    have kl : ∀ z ∈ ndsOf (pl ++ [0]) l, lkp ns z.1 = some z.2 := fun z hz => hk z (by rw [e]; exact List.mem_append_left _ (List.mem_append_left _ hz))
    have kr : ∀ z ∈ ndsOf (pl ++ [1]) r, lkp ns z.1 = some z.2 := fun z hz => hk z (by rw [e]; exact List.mem_append_left _ (List.mem_append_right _ hz))
    have nl : ∀ q ∈ (ndsOf (pl ++ [0]) l).map (·.1), q ∉ rd := fun q hq => hn q (by rw [e, List.map_append, List.map_append]; exact List.mem_append_left _ (List.mem_append_left _ hq))
    have nr : ∀ q ∈ (ndsOf (pl ++ [1]) r).map (·.1), q ∉ rd := fun q hq => hn q (by rw [e, List.map_append, List.map_append]; exact List.mem_append_left _ (List.mem_append_right _ hq))
    have np : pl ∉ rd := hn pl (root_nd _ _)
    have apart : ∀ q, q ∈ (ndsOf (pl ++ [0]) l).map (·.1) → q ∈ (ndsOf (pl ++ [1]) r).map (·.1) → False := fun q h1 h2 => by
      obtain ⟨s, e1⟩ := nds_pre l _ _ h1
      obtain ⟨u, e2⟩ := nds_pre r _ _ h2
      rw [e1] at e2
      exact pl_ne (by decide) e2
    have offl : pl ∉ bpost (pl ++ [0]) l := fun h => by
      obtain ⟨s, e1⟩ := nds_pre l _ _ (bpost_mem l _ _ h)
      exact pl_up e1.symm
    have offr : pl ∉ bpost (pl ++ [1]) r := fun h => by
      obtain ⟨s, e1⟩ := nds_pre r _ _ (bpost_mem r _ _ h)
      exact pl_up e1.symm
    have en : (LT.frm nm line l r).num = if l.num = r.num then l.num + 1 else max l.num r.num := rfl
    have end_ : ∀ (rd2 : List Pl), pl ∉ rd2 → pl ++ [0] ∈ rd2 → pl ++ [1] ∈ rd2 → stpF ns rd2 pl = none := fun rd2 h1 h2 h3 => by
      unfold stpF
      rw [if_neg (fun z => by rw [k] at z; cases z), if_neg h1, if_neg (fun z => by rcases z.2 with z | z; exact z h2; exact z h3)]
    have rl : pl ++ [0] ∈ bpost (pl ++ [0]) l := bpost_root _ _
    have rr : pl ++ [1] ∈ bpost (pl ++ [1]) r := bpost_root _ _
    by_cases c : r.num ≤ l.num
    · have eb : bpost pl (.frm nm line l r) = bpost (pl ++ [0]) l ++ bpost (pl ++ [1]) r ++ [pl] := if_pos c
      have g1 := bpost_go l _ kl rd (bpost (pl ++ [1]) r ++ (pl :: rest)) nl
      have g2 := bpost_go r _ kr (rd ++ bpost (pl ++ [0]) l) (pl :: rest) (fun q hq hm => by
        rcases List.mem_append.mp hm with hm | hm
        · exact nr q hq hm
        · exact apart q (bpost_mem l _ _ hm) hq)
      have ee : bpost pl (.frm nm line l r) ++ rest = bpost (pl ++ [0]) l ++ (bpost (pl ++ [1]) r ++ (pl :: rest)) := by rw [eb]; simp
      have st := end_ (rd ++ bpost (pl ++ [0]) l ++ bpost (pl ++ [1]) r) (by simp only [List.mem_append, not_or]; exact ⟨⟨np, offl⟩, offr⟩) (by simp [rl]) (by simp [rr])
      refine ⟨?_, fun h m => ?_⟩
      · rw [ee, g1.1, g2.1, fault_go st, eb]
        simp only [List.append_assoc]
      · rw [ee, g1.2, g2.2]
        show roomF ns (if lkp ns pl = some true then h + 1 + 1 + 1 else h + 1 + 1 - 1) (max (max (max m (h + l.num + 1)) (h + 1 + r.num + 1)) (if lkp ns pl = some true then h + 1 + 1 + 1 else h + 1 + 1 - 1)) rest = _
        rw [if_neg (fun z => by rw [k] at z; cases z), en]
        have e1 : h + 1 + 1 - 1 = h + 1 := by omega
        have e2 : max (max (max m (h + (l.num : Int) + 1)) (h + 1 + (r.num : Int) + 1)) (h + 1) = max m (h + ((if l.num = r.num then l.num + 1 else max l.num r.num : Nat) : Int) + 1) := by
          split <;> omega
        rw [e1, e2]
    · have eb : bpost pl (.frm nm line l r) = bpost (pl ++ [1]) r ++ bpost (pl ++ [0]) l ++ [pl] := if_neg c
      have g1 := bpost_go r _ kr rd (bpost (pl ++ [0]) l ++ (pl :: rest)) nr
      have g2 := bpost_go l _ kl (rd ++ bpost (pl ++ [1]) r) (pl :: rest) (fun q hq hm => by
        rcases List.mem_append.mp hm with hm | hm
        · exact nl q hq hm
        · exact apart q hq (bpost_mem r _ _ hm))
      have ee : bpost pl (.frm nm line l r) ++ rest = bpost (pl ++ [1]) r ++ (bpost (pl ++ [0]) l ++ (pl :: rest)) := by rw [eb]; simp
      have st := end_ (rd ++ bpost (pl ++ [1]) r ++ bpost (pl ++ [0]) l) (by simp only [List.mem_append, not_or]; exact ⟨⟨np, offr⟩, offl⟩) (by simp [rl]) (by simp [rr])
      refine ⟨?_, fun h m => ?_⟩
      · rw [ee, g1.1, g2.1, fault_go st, eb]
        simp only [List.append_assoc]
      · rw [ee, g1.2, g2.2]
        show roomF ns (if lkp ns pl = some true then h + 1 + 1 + 1 else h + 1 + 1 - 1) (max (max (max m (h + r.num + 1)) (h + 1 + l.num + 1)) (if lkp ns pl = some true then h + 1 + 1 + 1 else h + 1 + 1 - 1)) rest = _
        rw [if_neg (fun z => by rw [k] at z; cases z), en]
        have e1 : h + 1 + 1 - 1 = h + 1 := by omega
        have e2 : max (max (max m (h + (r.num : Int) + 1)) (h + 1 + (l.num : Int) + 1)) (h + 1) = max m (h + ((if l.num = r.num then l.num + 1 else max l.num r.num : Nat) : Int) + 1) := by
          split <;> omega
        rw [e1, e2]
theorem best_go (t : LT) : faultF (ndsOf [] t) [] (bpre [] t).reverse = none ∧ roomF (ndsOf [] t) 0 0 (bpre [] t).reverse = (t.num : Int) + 1 := by
  have nd := nds_nodup t []
  have g := bpost_go (ns := ndsOf [] t) t [] (fun z hz => lkp_some nd hz) [] [] (fun q _ h => nomatch h)
  rw [List.append_nil] at g
  rw [bpre_rev]
  have ll : (bpost [] t).length = (ndsOf [] t).length := by rw [← bpre_rev, List.length_reverse, bpre_len, nds_len]
  refine ⟨?_, ?_⟩
  · rw [g.1]
    show (if ([] ++ bpost [] t).length < (ndsOf [] t).length then some (([] ++ bpost [] t).length, ("missing" : PySem.Str)) else none) = none
    rw [if_neg (by rw [List.nil_append, ll]; omega)]
  · rw [g.2]
    show max (0 : Int) (0 + (t.num : Int) + 1) = _
    omega
end Ns
/-! KtS -/
set_option Elab.async false
set_option linter.all false
set_option maxRecDepth 100000
set_option maxHeartbeats 4000000
namespace Ns
theorem nds_leaf : ∀ (t : LT) (pl : Pl), ∃ p ∈ ndsOf pl t, p.2 = true
  | .wish _, pl => ⟨(pl, true), List.mem_singleton.mpr rfl, rfl⟩
  | .frm _ _ l r, pl => by
    obtain ⟨p, h1, h2⟩ := nds_leaf l (pl ++ [0])
    exact ⟨p, List.mem_append_left _ (List.mem_append_left _ h1), h2⟩
theorem nds_low {t : LT} {q : Pl} (h : q ∈ (ndsOf [] t).map (·.1)) : q.length + 1 ≤ t.high := by
  rw [← post_nds, List.map_map] at h
  obtain ⟨p, hp, e⟩ := List.mem_map.mp h
  have z := post_low t [] p hp
  rw [List.length_nil] at z
  have e2 : p.1 = q := e
  rw [← e2]
  omega
end Ns
namespace Km
open PySem PySem.Spec PyProof.Rows L2 Ns
abbrev sLaw : Stmt := top 31
def spLaw (K : PySem.W.Frag) : Sp := fun vs H Q _ => ∃ (a : Addr) (ns : List Int), vs = [.ref a] ∧ SqL K H a (ns.map V.int) ∧ ns.length ≤ 63 ∧ ∀ H', Q (.bl true) H'
abbrev nLaw : List Str := ["_law_script", "_law_first", "_law_narrow", "_law_deep", "_law_draws_here", "_law_paper", "_law_nodes_here", "_law_least", "_law_steps", "_law_more", "_law_k", "_law_order", "_law_j", "_law_spoilt_here"]
theorem scLaw : FnScope nLaw ["_law_script"] (defScope sLaw) := ⟨rfl, rfl, rfl, by decide +kernel, rfl, by decide +kernel, by decide +kernel⟩
/-- how deep the drawn tree may be -/
def tDpS : TS := fun D σ H => ∃ (s0 : V) (f d0 : Int) (nar : Bool), σ = [some s0, some (.int f), some (.bl nar), some (.int d0), none, none, none, none, none, none, none, none, none, none] ∧ 0 ≤ f ∧ 0 ≤ d0 ∧ d0 ≤ 5 ∧
  ∀ dp : Nat, (nar = false → dp ≤ 5) → dp ≤ 30 → D.nx [some s0, some (.int f), some (.bl nar), some (.int dp), none, none, none, none, none, none, none, none, none, none] H
theorem w_dp : ∀ D σ H, tDpS D σ H → tIfS (tB (tVar 2)) (tAsg (tOp (rI (fun _ j => 0 < j) fun i j => .int (i % j)) (tOp (rI CDiv fun i j => .int (i / j)) (tVar 1) (tC (.int 3))) (tC (.int 31))) (gName 3)) tNext D σ H := by
  rintro D σ H ⟨s0, f, d0, nar, rfl, f0, h0, h5, q⟩
  refine ⟨_, rfl, _, rfl, ?_⟩
  cases nar with
  | true =>
    refine iteT ⟨_, rfl, _, _, rfl, rfl, ⟨by decide, by decide⟩, _, _, rfl, rfl, (by show (0 : Int) < 31; decide), ?_⟩
    have b0 : 0 ≤ f / 3 % 31 := Int.emod_nonneg _ (by decide)
    have b1 : f / 3 % 31 < 31 := Int.emod_lt_of_pos _ (by decide)
    have z := q (f / 3 % 31).toNat (fun e => by cases e) (by omega)
    rw [Int.toNat_of_nonneg b0] at z
    exact z
  | false =>
    have z := q d0.toNat (fun _ => by omega) (by omega)
    rw [Int.toNat_of_nonneg h0] at z
    exact iteF z
theorem sqL_same {K : PySem.W.Frag} {H H1 : Hp} {a : Addr} {xs : List V} (e : Same H H1) (h : SqL K H a xs) : SqL K H1 a xs := by
  rcases h with (h | ⟨o, h⟩) | h
  · exact .inl (.inl (e _ _ h))
  · exact .inl (.inr ⟨o, e _ _ h⟩)
  · exact .inr h
section
variable {P : Program} {w : World} {K : PySem.W.Frag} {mg : Str → Option Value} {base : Heap} {f : Addr} {fd : FuncData}
theorem ok_law {fC fD fS fF fN fM fI fB fT fH fP fR fU : Addr} {fdC fdD fdS fdF fdN fdM fdI fdB fdT fdH fdP fdR fdU : FuncData} (T : Blt mg) (T2 : Blt2 mg) (F : Fun K "law" "law" sLaw f fd)
    (GC : FnOk P w K mg base CX0 1 fC fdC ["_law_script", "_law_k"] (spCell K)) (kC : PySem.W.keepIn K (.ref fC) = true) (bC : Binds K fdC ["_law_script", "_law_k"] []) (mC : mg "_law_cell" = some (.ref fC))
    (GD : FnOk P w K mg base CX0 1 fD fdD ["_law_cell_here", "_law_many"] spDraws) (kD : PySem.W.keepIn K (.ref fD) = true) (bD : Binds K fdD ["_law_cell_here", "_law_many"] []) (mD : mg "_law_draws" = some (.ref fD))
    (GS : FnOk P w K mg base CX0 2 fS fdS ["_law_script", "_law_k"] (spSeed K)) (kS : PySem.W.keepIn K (.ref fS) = true) (bS : Binds K fdS ["_law_script", "_law_k"] []) (mS : mg "_law_seed" = some (.ref fS))
    (GF : FnOk P w K mg base CX0 32 fF fdF pForm (spForm K 31)) (kF : PySem.W.keepIn K (.ref fF) = true) (bF : Binds K fdF pForm []) (mF : mg "_law_form" = some (.ref fF))
    (GN : FnOk P w K mg base CX0 40 fN fdN ["_law_paper", "_law_place"] (spNodes K 40)) (kN : PySem.W.keepIn K (.ref fN) = true) (bN : Binds K fdN ["_law_paper", "_law_place"] []) (mN : mg "_law_nodes" = some (.ref fN))
    (GM : FnOk P w K mg base CX0 40 fM fdM ["_law_paper"] (spBranch K 40)) (kM : PySem.W.keepIn K (.ref fM) = true) (bM : Binds K fdM ["_law_paper"] []) (mM : mg "_law_number" = some (.ref fM))
    (GI : FnOk P w K mg base CX0 1 fI fdI ["_law_actual", "_law_expected"] spIsNum) (kI : PySem.W.keepIn K (.ref fI) = true) (bI : Binds K fdI ["_law_actual", "_law_expected"] []) (mI : mg "_law_is_number" = some (.ref fI))
    (GB : FnOk P w K mg base CX0 41 fB fdB ["tree"] (spBranch K 40)) (kB : PySem.W.keepIn K (.ref fB) = true) (bB : Binds K fdB ["tree"] []) (mB : mg "branching" = some (.ref fB))
    (GT : FnOk P w K mg base CX0 6 fT fdT pBestH (spBestH K)) (kT : PySem.W.keepIn K (.ref fT) = true) (bT : Binds K fdT pBestH []) (mT : mg "_law_best_holds" = some (.ref fT))
    (GH : FnOk P w K mg base CX0 5 fH fdH pRowH (spRowH K)) (kH : PySem.W.keepIn K (.ref fH) = true) (bH : Binds K fdH pRowH []) (mH : mg "_law_row_holds" = some (.ref fH))
    (GP : FnOk P w K mg base CX0 1 fP fdP pSp (spSp K)) (kP : PySem.W.keepIn K (.ref fP) = true) (bP : Binds K fdP pSp []) (mP : mg "_law_spoilt" = some (.ref fP))
    (GR : FnOk P w K mg base CX0 1 fR fdR pDrawn (spDrawn K)) (kR : PySem.W.keepIn K (.ref fR) = true) (bR : Binds K fdR pDrawn []) (mR : mg "_law_drawn_order" = some (.ref fR))
    (GU : FnOk P w K mg base CX0 1 fU fdU ["_law_nodes_here", "_law_order"] (spDue K)) (kU : PySem.W.keepIn K (.ref fU) = true) (bU : Binds K fdU ["_law_nodes_here", "_law_order"] []) (mU : mg "_law_due" = some (.ref fU)) :
    FnOk P w K mg base CX0 50 f fd ["_law_script"] (spLaw K) := by
  refine F.ok scLaw (fun vs H Q E h => ?_) (fun cdv A outer s H vs Q E hr h => ?_)
  · obtain ⟨a, ns, rfl, _⟩ := h
    rfl
  obtain ⟨a, ns, rfl, hS, h63, q⟩ := h
  have nd := scLaw.nd
  refine ⟨_, (pss_cons (ps_set (i := 1) nd rfl (Or.inl rfl) (pe_callB call_abs rfl T.mabs PyProof.Rows.boot_abs (pa_cons (pe_call GC (hr.mono (by decide)) rfl mC kC bC .nil pass0 (pa_cons (pv 0) (pa_cons pe_int pa_nil))) pa_nil)))
    (pss_cons (ps_set (i := 2) nd rfl (Or.inl rfl) (pe_cmpR op_eq (pe_op op_mod (pv 1) pe_int) pe_int (nomark _)))
    (pss_cons (ps_set (i := 3) nd rfl (Or.inl rfl) (pe_op op_add pe_int (pe_op op_mod (pe_op op_fdiv (pv 1) pe_int) pe_int)))
    (pss_cons (ps_weak (ps_if (pt_val (pv 2)) (pss_one (ps_set (i := 3) nd rfl (Or.inl rfl) (pe_op op_mod (pe_op op_fdiv (pv 1) pe_int) pe_int))) pss_nil) w_dp)
    (pss_cons (ps_set (i := 4) nd rfl (Or.inl rfl) (pe_call GD (hr.mono (by decide)) rfl mD kD bD .nil pass0 (pa_cons (pe_call GS (hr.mono (by decide)) rfl mS kS bS .nil pass0 (pa_cons (pv 0) (pa_cons pe_int pa_nil))) (pa_cons pe_int pa_nil))))
    (pss_cons (ps_set (i := 5) nd rfl (Or.inl rfl) (pe_ix ix_tup (pe_call GF (hr.mono (by decide)) rfl mF kF bF .nil pass0 (pa_cons (pv 4) (pa_cons (pv 3) (pa_cons (pv 2) (pa_cons pe_int pa_nil))))) pe_int (fun _ _ => rfl)))
    (pss_cons (ps_set (i := 6) nd rfl (Or.inl rfl) (pe_call GN (hr.mono (by decide)) rfl mN kN bN .nil pass0 (pa_cons (pv 5) (pa_cons (pe_tup pa_nil) pa_nil))))
    (pss_cons (ps_set (i := 7) nd rfl (Or.inl rfl) (pe_op op_add (pe_call GM (hr.mono (by decide)) rfl mM kM bM .nil pass0 (pa_cons (pv 5) pa_nil)) pe_int))
    (pss_cons (ps_if (PW.pt (pw_or (pt_not (pt_val (pe_call GI (hr.mono (by decide)) rfl mI kI bI .nil pass0 (pa_cons (pe_call GB (hr.mono (by decide)) rfl mB kB bB .nil pass0 (pa_cons (pv 5) pa_nil)) (pa_cons (pe_op op_sub (pv 7) pe_int) pa_nil))))) (pw_or1 (pt_not (pt_val (pe_call GT (hr.mono (by decide)) rfl mT kT bT .nil pass0 (pa_cons (pv 5) (pa_cons (pv 6) (pa_cons (pv 7) pa_nil))))))))) (pss_one (ps_ret pe_bl)) pss_nil)
    (pss_cons (ps_set (i := 8) nd rfl (Or.inl rfl) (pe_call GD (hr.mono (by decide)) rfl mD kD bD .nil pass0 (pa_cons (pe_call GS (hr.mono (by decide)) rfl mS kS bS .nil pass0 (pa_cons (pv 0) (pa_cons pe_int pa_nil))) (pa_cons pe_int pa_nil))))
    (pss_cons (ps_set (i := 9) nd rfl (Or.inl rfl) (pe_call GD (hr.mono (by decide)) rfl mD kD bD .nil pass0 (pa_cons (pe_call GS (hr.mono (by decide)) rfl mS kS bS .nil pass0 (pa_cons (pv 0) (pa_cons pe_int pa_nil))) (pa_cons pe_int pa_nil))))
    (pss_cons (ps_for PassesOwn.never rfl (pi_range1 rfl T.mran (pa_cons pe_int pa_nil)) (pg_name (i := 10) nd rfl (Or.inl rfl)) (pss_cons (ps_set (i := 11) nd rfl (Or.inl rfl) (pe_call GR (hr.mono (by decide)) rfl mR kR bR .nil pass0 (pa_cons (pv 6) (pa_cons (pv 8) (pa_cons (pe_op op_mul pe_int (pv 10)) pa_nil)))))
    (pss_cons (ps_if (PW.pt (pw_or (pt_cmp (pc_notN (pe_call GU (hr.mono (by decide)) rfl mU kU bU .nil pass0 (pa_cons (pv 6) (pa_cons (pv 11) pa_nil))))) (pw_or1 (pt_not (pt_val (pe_call GH (hr.mono (by decide)) rfl mH kH bH .nil pass0 (pa_cons (pv 5) (pa_cons (pv 6) (pa_cons (pv 11) (pa_cons (pv 7) pa_nil)))))))))) (pss_one (ps_ret pe_bl)) pss_nil)
    (pss_cons (ps_for PassesOwn.never rfl (pi_range1 rfl T.mran (pa_cons (pe_op op_add pe_int (pe_op op_mod (pv 10) pe_int)) pa_nil)) (pg_name (i := 12) nd rfl (Or.inl rfl)) (pss_cons (ps_set (i := 13) nd rfl (Or.inl rfl) (pe_call GP (hr.mono (by decide)) rfl mP kP bP .nil pass0 (pa_cons (pv 6) (pa_cons (pv 11) (pa_cons (pe_ix ix_list (pv 9) (pe_op op_add (pe_op op_mul pe_int (pv 10)) (pv 12)) (fun _ _ => rfl)) (pa_cons (pe_ix ix_list (pv 9) (pe_op op_sub (pe_op op_sub pe_int (pe_op op_mul pe_int (pv 10))) (pv 12)) (fun _ _ => rfl)) pa_nil))))))
    (pss_one (ps_if (pt_not (pt_val (pe_call GH (hr.mono (by decide)) rfl mH kH bH .nil pass0 (pa_cons (pv 5) (pa_cons (pv 6) (pa_cons (pv 13) (pa_cons (pv 7) pa_nil))))))) (pss_one (ps_ret pe_bl)) pss_nil))))
    (pss_one (ps_if (pt_not (pt_val (pe_call GH (hr.mono (by decide)) rfl mH kH bH .nil pass0 (pa_cons (pv 5) (pa_cons (pv 6) (pa_cons (pv 11) (pa_cons (pv 7) pa_nil))))))) (pss_one (ps_ret pe_bl)) pss_nil))))))
    (pss_one (ps_ret (pe_call GT (hr.mono (by decide)) rfl mT kT bT .nil pass0 (pa_cons (pv 5) (pa_cons (pv 6) (pa_cons (pv 7) pa_nil)))))))))))))))))), ?_⟩
  refine ⟨_, rfl, a, ns, 0, rfl, hS, _, rfl, ?_⟩
  have f0 : 0 ≤ (if ns.getD 0 0 < 0 then -(ns.getD 0 0) else ns.getD 0 0) := by split <;> omega
  refine ⟨_, rfl, _, _, rfl, rfl, (by show (0 : Int) < 3; decide), rfl, ?_⟩
  refine ⟨_, rfl, _, _, rfl, rfl, ⟨by decide, by decide⟩, _, _, rfl, rfl, (by show (0 : Int) < 5; decide), _, _, rfl, rfl, ?_⟩
  refine ⟨_, _, _, _, rfl, f0, ?_, ?_, fun dp hdp5 hdp30 => ?_⟩
  · have := Int.emod_nonneg ((if ns.getD 0 0 < 0 then -(ns.getD 0 0) else ns.getD 0 0) / 3) (show (5 : Int) ≠ 0 by decide)
    omega
  · have := Int.emod_lt_of_pos ((if ns.getD 0 0 < 0 then -(ns.getD 0 0) else ns.getD 0 0) / 3) (show (0 : Int) < 5 by decide)
    omega
  have lB : leafB (decide (V.int ((if ns.getD 0 0 < 0 then -(ns.getD 0 0) else ns.getD 0 0) % 3) = V.int 1)) dp ≤ 32 := by
    generalize (decide (V.int ((if ns.getD 0 0 < 0 then -(ns.getD 0 0) else ns.getD 0 0) % 3) = V.int 1)) = nar at hdp5
    cases nar with
    | true =>
      show dp + 1 ≤ 32
      omega
    | false =>
      have h5 := hdp5 rfl
      show 2 ^ dp ≤ 32
      exact Nat.le_trans (Nat.pow_le_pow_right (by decide) h5) (by decide)
  refine ⟨_, rfl, a, ns, 1, rfl, hS, by decide, fun z1 hz1 => ⟨z1, 64, rfl, by decide, fun ds1 o1 H1 l1 d1 s1 e1 => ?_⟩⟩
  refine ⟨_, rfl, _, rfl, _, rfl, o1, ds1, dp, 0, _, rfl, e1, l1, d1, by omega, fun p x t at1 H2 s2 ep hT hh hz => ⟨p, _, 0, _, rfl, rfl, SqT.of ep, atI_nat (j := 0) rfl, ?_⟩⟩
  have hz2 : t.size + 1 ≤ 2 * leafB (decide (V.int ((if ns.getD 0 0 < 0 then -(ns.getD 0 0) else ns.getD 0 0) % 3) = V.int 1)) dp := hz
  have hsz : t.size ≤ 63 := by omega
  have hhi : t.high ≤ 31 := by omega
  refine ⟨_, rfl, Nat.zero_le _, fun em hem => ?_⟩
  have s3 := same_new hem (.tup [])
  refine ⟨x, em, t, [], rfl, hT.same s3, upd_same, by rw [List.length_nil]; omega, by omega, by omega, fun o4 xs H4 s4 _ e4 r4 => ?_⟩
  have s34 := s3.trans s4
  have hT4 := hT.same s34
  have hN4 : Nodes K H4 o4 (ndsOf [] t) := ⟨xs, e4, r4, nds_nodup t [], by rw [nds_len]; omega⟩
  have s04 : Same H H4 := s1.trans (s2.trans s34)
  have bg := best_go t
  have lowb : ∀ z ∈ bpre [] t, z.length ≤ 1000 := fun z hz => by
    have h1 : z ∈ bpost [] t := by rw [← bpre_rev]; exact List.mem_reverse.mpr hz
    have := nds_low (bpost_mem t [] z h1)
    omega
  refine ⟨_, rfl, x, t, rfl, hT4, by omega, _, _, rfl, rfl, ?_⟩
  refine ⟨_, rfl, x, t, rfl, hT4, by omega, _, rfl, _, _, rfl, rfl, _, _, rfl, _, rfl, ?_⟩
  rw [decide_eq_true (show (t.num : Int) = (t.num : Int) + 1 - 1 by omega)]
  refine iteF ⟨_, rfl, _, rfl, _, rfl, x, o4, t, _, rfl, hT4, by omega, by omega, hN4, bg.1, bg.2, lowb, fun H5 s5 => ⟨_, rfl, iteF ?_⟩⟩
  have s05 := s04.trans s5
  have hS5 : SqL K H5 a (ns.map V.int) := sqL_same s05 hS
  refine ⟨_, rfl, a, ns, 2, rfl, hS5, by decide, fun z2 hz2 => ⟨z2, 64, rfl, by decide, fun ds2 o6 H6 l6 d6 s6 e6 => ?_⟩⟩
  have hS6 : SqL K H6 a (ns.map V.int) := sqL_same s6 hS5
  refine ⟨_, rfl, a, ns, 3, rfl, hS6, by decide, fun z3 hz3 => ⟨z3, 40, rfl, by decide, fun ds3 o7 H7 l7 d7 s7 e7 => ?_⟩⟩
  have s57 := s6.trans s7
  have hT7 := (hT4.same s5).same s57
  have hN7 := (hN4.same s5).same s57
  have e67 := s7 _ _ e6
  have loN : ∀ z ∈ ndsOf [] t, z.1.length ≤ 400 := fun z hz => by
    have := nds_low (t := t) (q := z.1) (List.mem_map.mpr ⟨z, hz, rfl⟩)
    omega
  have l40 : (ds3.map V.int).length = 40 := by rw [List.length_map, l7]
  have pick : ∀ z : Int, 0 ≤ z → z < 40 → ∃ v, atI (ds3.map V.int) z = some (.int v) ∧ 0 ≤ v ∧ v < 60 := fun z z0 z1 => by
    have hj : z.toNat < ds3.length := by omega
    exact ⟨ds3[z.toNat], atI_of (i := z.toNat) (by omega) (by rw [List.getElem?_map, List.getElem?_eq_getElem hj]; rfl), d7 _ (List.getElem_mem hj)⟩
  refine ⟨5, rfl, by decide, by decide, for_range (n := 5) (fun i σ H8 => ∃ (y10 y11 y12 y13 : Option V), σ = [_, _, _, _, _, some x, some (.ref o4), some (.int ((t.num : Int) + 1)), some (.ref o6), some (.ref o7), y10, y11, y12, y13] ∧ Same H7 H8) ⟨none, none, none, none, rfl, Same.refl _⟩ ?_ ?_⟩
  · rintro i σ H8 hi ⟨y10, y11, y12, y13, rfl, s8⟩
    have hT8 := hT7.same s8
    have hN8 := hN7.same s8
    refine ⟨_, rfl, _, rfl, _, rfl, _, _, rfl, rfl, .inl ⟨by decide, by decide⟩, o4, o6, ndsOf [] t, ds2, 13 * i, by show [V.ref o4, V.ref o6, V.int (13 * (0 + (i : Int)))] = _; rw [show (13 : Int) * (0 + (i : Int)) = ((13 * i : Nat) : Int) by omega], hN8, nds_sided t [], fun z hz => Nat.le_trans (loN z hz) (by decide), s8 _ _ e67, l6, d6, fun po H9 ord s9 rO fO lO mO => ?_⟩
    have hT9 := hT8.same s9
    have hN9 := hN8.same s9
    have lo400 : ∀ z ∈ ord, z.length ≤ 400 := fun z hz => by
      have := nds_low (mO z hz)
      omega
    have lo1000 : ∀ z ∈ ord, z.length ≤ 1000 := fun z hz => Nat.le_trans (lo400 z hz) (by decide)
    have lN : (ndsOf [] t).length = t.size := nds_len t []
    have tpos : 1 ≤ t.size := by cases t <;> simp only [LT.size] <;> omega
    refine ⟨_, rfl, _, rfl, o4, po, ndsOf [] t, ord, rfl, hN9, rO, by omega, lo1000, fun _ HA sA => ?_, fun i2 k2 hk => by rw [fO] at hk; cases hk⟩
    have hTA := hT9.same sA
    have hNA := hN9.same sA
    have rOA := rO.same sA
    refine ⟨_, rfl, iteF ⟨_, rfl, _, rfl, _, rfl, _, rfl, x, o4, po, t, ord, _, rfl, hTA, by omega, hNA, rOA, by omega, lo1000, fun h => room_low h, fun HB sB => ⟨_, rfl, iteF ?_⟩⟩⟩
    have sB0 := s8.trans (s9.trans (sA.trans sB))
    have rOB := rOA.same sB
    refine ⟨_, rfl, _, _, rfl, rfl, (by show (0 : Int) < 2; decide), _, _, rfl, rfl, 2 + (0 + (i : Int)) % 2, rfl, by omega, by omega, for_range (n := (2 + (0 + (i : Int)) % 2).toNat) (fun j σ HC => ∃ (y12 y13 : Option V), σ = [_, _, _, _, _, some x, some (.ref o4), some (.int ((t.num : Int) + 1)), some (.ref o6), some (.ref o7), some (.int (0 + (i : Int))), some (.ref po), y12, y13] ∧ Same H7 HC ∧ RowP K HC po ord) ⟨y12, y13, rfl, sB0, rOB⟩ ?_ ?_⟩
    · rintro j σ HC hj ⟨y12, y13, rfl, sC, rC⟩
      obtain ⟨v1, hv1, p1, p2⟩ := pick (4 * (0 + (i : Int)) + (0 + (j : Int))) (by omega) (by omega)
      obtain ⟨v2, hv2, p3, p4⟩ := pick (39 - 4 * (0 + (i : Int)) - (0 + (j : Int))) (by omega) (by omega)
      have eM : SqL K HC o7 (ds3.map V.int) := .inl (.inl (sC _ _ e7))
      refine ⟨_, rfl, _, rfl, _, rfl, _, rfl, _, _, rfl, rfl, .inl ⟨by decide, by decide⟩, _, rfl, _, _, rfl, rfl, o7, _, _, _, rfl, rfl, eM, hv1, _, rfl, _, rfl, _, _, rfl, rfl, .inl ⟨by decide, by decide⟩, _, _, rfl, rfl, _, rfl, _, _, rfl, rfl, o7, _, _, _, rfl, rfl, eM, hv2, ?_⟩
      refine ⟨o4, po, ndsOf [] t, ord, v1, v2, rfl, hN7.same sC, nds_leaf t [], loN, rC, by omega, by omega, lo400, p1, p2, p3, p4, fun qo HD sD rD => ?_⟩
      obtain ⟨qs, rq, lq, sq⟩ := rD
      have sCD := sC.trans sD
      refine ⟨_, rfl, _, rfl, _, rfl, _, rfl, x, o4, qo, t, qs, _, rfl, hT7.same sCD, by omega, hN7.same sCD, rq, lq, fun z hz => Nat.le_trans (sq z hz) (by decide), fun h => room_low h, fun HE sE => ⟨_, rfl, iteF ?_⟩⟩
      exact ⟨_, _, rfl, sCD.trans sE, (rC.same sD).same sE⟩
    · rintro σ HC ⟨y12, y13, rfl, sC, rC⟩
      refine ⟨_, rfl, _, rfl, _, rfl, _, rfl, x, o4, po, t, ord, _, rfl, hT7.same sC, by omega, hN7.same sC, rC, by omega, lo1000, fun h => room_low h, fun HE sE => ⟨_, rfl, iteF ?_⟩⟩
      exact ⟨_, _, _, _, rfl, sC.trans sE⟩
  · rintro σ H8 ⟨y10, y11, y12, y13, rfl, s8⟩
    refine ⟨_, rfl, _, rfl, _, rfl, x, o4, t, _, rfl, hT7.same s8, by omega, by omega, hN7.same s8, bg.1, bg.2, lowb, fun H9 s9 => q H9⟩
end
end Km
/-! KtEnd -/
set_option Elab.async false
set_option linter.all false
set_option maxRecDepth 100000
set_option maxHeartbeats 4000000
namespace Km
open PySem PySem.Spec PyProof.Rows L2 Ns
section
variable {P : Program} {w : World} {K : PySem.W.Frag} {mg : Str → Option Value} {base : Heap} {f : Addr} {fd : FuncData}
theorem kit_true {x : Value} {c : Addr} (hd : PySem.W.hasDictIn K c = true) (ht : PySem.W.typeIn K (.ref c) = some (.type "type")) (hs : PySem.W.subIn K x (.ref c) = some true) : PySem.W.kitOne K x (.ref c) = some true := by
  unfold PySem.W.kitOne
  by_cases e : (x == Value.ref c) = true
  · rw [if_pos e]
  · rw [if_neg e]
    obtain ⟨cd, hc, _⟩ := PySem.W.any_some hd
    have e2 : ((PySem.W.clsIn K c).isSome && PySem.W.typeIn K (.ref c) == some (.type "type")) = true := by rw [hc, ht] <;> rfl
    show (if ((PySem.W.clsIn K c).isSome && PySem.W.typeIn K (.ref c) == some (.type "type")) = true then PySem.W.subIn K x (.ref c) else none) = some true
    rw [if_pos e2]
    exact hs
theorem kit_cls_of {x : Value} {c : Addr} {b : Bool} (hd : PySem.W.hasDictIn K c = true) (ht : PySem.W.typeIn K (.ref c) = some (.type "type")) (hs : PySem.W.subIn K x (.ref c) = some b) (hx : x ≠ .ref c) : PySem.W.kitOne K x (.ref c) = some b := by
  obtain ⟨cd, hc, _⟩ := PySem.W.any_some hd
  have e2 : ((PySem.W.clsIn K c).isSome && PySem.W.typeIn K (.ref c) == some (.type "type")) = true := by rw [hc, ht] <;> rfl
  unfold PySem.W.kitOne
  rw [if_neg (fun z => hx (beq_iff_eq.mp z))]
  show (if ((PySem.W.clsIn K c).isSome && PySem.W.typeIn K (.ref c) == some (.type "type")) = true then PySem.W.subIn K x (.ref c) else none) = some b
  rw [if_pos e2]
  exact hs
end
theorem all_mk {l : PySem.W.OpenLaw} {w : World} {K : PySem.W.Frag} {h : Heap} {mg : Str → Option Value} {fa CP B BL fI cc cda : Addr} {f1 f2 f3 f4 f5 f6 f7 f8 f9 f10 f11 f12 f13 f14 f15 f16 f17 f18 f19 f20 f21 f22 f23 f24 : Addr} (X : K.In h) (G : h.Ns mainGlobals mg) (hfa : mg "law" = some (.ref fa))
    {nm q2 : Str} {N : Addr} {bs : List Value} {sn : List Str} {sub : List Value} {ab : Bool} {col : Option Bool} {dd : Option Addr} {m0 m1 m2 m3 m5 : Option Value}
    {od0 an0 cld cdd : Option Addr} {sl0 csl ccs : Array (Option Value)} {oc0 dc0 pm0 ct0 cl ccl : Value} {vs : Array Value} {file : Str} {tf : Tok}
    {od1 an1 od2 an2 od3 an3 od4 an4 od5 an5 od6 an6 od7 an7 od8 an8 od9 an9 od10 an10 od11 an11 od12 an12 od13 an13 od14 an14 od15 an15 od16 an16 od17 an17 od18 an18 od19 an19 od20 an20 od21 an21 od22 an22 od23 an23 od24 an24 : Option Addr} {sl1 sl2 sl3 sl4 sl5 sl6 sl7 sl8 sl9 sl10 sl11 sl12 sl13 sl14 sl15 sl16 sl17 sl18 sl19 sl20 sl21 sl22 sl23 sl24 : Array (Option Value)} {oc1 kV1 dc1 pm1 cd1 ct1 oc2 kV2 dc2 pm2 cd2 ct2 oc3 kV3 dc3 pm3 cd3 ct3 oc4 kV4 dc4 pm4 cd4 ct4 oc5 kV5 dc5 pm5 cd5 ct5 oc6 kV6 dc6 pm6 cd6 ct6 oc7 kV7 dc7 pm7 cd7 ct7 oc8 kV8 dc8 pm8 cd8 ct8 oc9 kV9 dc9 pm9 cd9 ct9 oc10 kV10 dc10 pm10 cd10 ct10 oc11 kV11 dc11 pm11 cd11 ct11 oc12 kV12 dc12 pm12 cd12 ct12 oc13 kV13 dc13 pm13 cd13 ct13 oc14 kV14 dc14 pm14 cd14 ct14 oc15 kV15 dc15 pm15 cd15 ct15 oc16 kV16 dc16 pm16 cd16 ct16 oc17 kV17 dc17 pm17 cd17 ct17 oc18 kV18 dc18 pm18 cd18 ct18 oc19 kV19 dc19 pm19 cd19 ct19 oc20 kV20 dc20 pm20 cd20 ct20 oc21 kV21 dc21 pm21 cd21 ct21 oc22 kV22 dc22 pm22 cd22 ct22 oc23 kV23 dc23 pm23 cd23 ct23 oc24 kV24 dc24 pm24 cd24 ct24 : Value}
    (aC : PySem.W.nsIn K mainGlobals "BadPaper" = some (some (.ref CP)))
    (aB : PySem.W.nsIn K mainGlobals "BookError" = some (some (.ref B)))
    (aL : PySem.W.nsIn K mainGlobals "BadLiar" = some (some (.ref BL)))
    (aS : PySem.W.nsIn K mainGlobals "super" = some none)
    (xL : K.lookup CP = some (excClassObj nm q2 CP N bs [.ref B, .type "ValueError", .type "Exception", .type "BaseException", .type "object"] true sn sub ab col dd m0 m1 m2 m3 m5 "ValueError.__new__"))
    (sa : PySem.W.findIn K (.ref CP) "__setattr__" = some (some (.builtin "object.__setattr__")))
    (ga : PySem.W.findIn K (.ref CP) "__getattribute__" = some (some (.builtin "BaseException.__getattribute__")))
    (gg : PySem.W.findIn K (.ref CP) "__getattr__" = some none)
    (nb1 : PySem.W.findIn K (.ref CP) "place" = some none)
    (nb2 : PySem.W.findIn K (.ref CP) "kind" = some none)
    (a0 : PySem.W.findIn K (.ref CP) "__init__" = some (some (.ref fI)))
    (t0 : PySem.W.typeIn K (.ref fI) = some (.type "function"))
    (kC : PySem.W.keepIn K (.ref CP) = true)
    (eC : PySem.W.subIn K (.ref CP) (.type "BaseException") = some true)
    (vC : PySem.W.subIn K (.ref CP) (.type "ValueError") = some true)
    (tC : PySem.W.typeIn K (.ref CP) = some (.type "type"))
    (hC : PySem.W.hasDictIn K CP = true)
    (sC : PySem.W.subIn K (.ref CP) (.ref CP) = some true)
    (sB : PySem.W.subIn K (.ref CP) (.ref B) = some true)
    (sL : PySem.W.subIn K (.ref CP) (.ref BL) = some false)
    (mC : PySem.W.mroIn K CP (.ref CP) = some true)
    (su : PySem.W.ks_superIn K CP CP "__init__" = some (some (.builtin "ValueError.__init__")))
    (opq : PySem.W.nsIn K cStatics "thirdparty.any" = some none)
    (l0 : K.lookup fI = some ⟨oc0, od0, .func (PySem.W.ksFn "__init__" "BadPaper.__init__" (KmX.xA "place" "kind" ⟨6, 17, 6, 21⟩ ⟨6, 23, 6, 28⟩ ⟨6, 30, 6, 34⟩) (KmX.xB "place" "kind" "the paper has a fault" ⟨7, 8, 7, 13⟩ ⟨7, 8, 7, 15⟩ ⟨7, 25, 7, 48⟩ ⟨7, 8, 7, 49⟩ ⟨8, 8, 8, 12⟩ ⟨8, 8, 8, 18⟩ ⟨8, 21, 8, 26⟩ ⟨8, 8, 8, 26⟩ ⟨9, 8, 9, 12⟩ ⟨9, 8, 9, 17⟩ ⟨9, 20, 9, 24⟩ ⟨9, 8, 9, 24⟩) (KmX.xS "place" "kind") .none .none dc0 pm0 an0 (.ref cda) ct0 cc), sl0⟩)
    (c0 : PySem.W.codeIn K (.ref cda) "BadPaper.__init__" = true)
    (lcd : K.lookup cda = some ⟨ccl, cdd, .fields vs, ccs⟩)
    (lv : vs[2]? = some (.str file tf))
    (lf : ((l.prog.main.file : Str) == file) = true)
    (lc : K.lookup cc = some ⟨cl, cld, .cell (some (.ref CP)), csl⟩)
    (tp : (l.prog.main.scope.names.lookup ("super" : Str)).isSome = false)
    (hB : PySem.W.hasDictIn K B = true)
    (tyB : PySem.W.typeIn K (.ref B) = some (.type "type"))
    (hL : PySem.W.hasDictIn K BL = true)
    (tyL : PySem.W.typeIn K (.ref BL) = some (.type "type"))
    (xa : PySem.W.findIn K (.ref CP) "__class__" = some (some (.builtin "object.__class__")))
    (xn : PySem.W.specialIn K (.builtin "object.__class__") "__get__" = some (some (.builtin "getset_descriptor.__get__")))
    (xt : PySem.W.takesIn K (.builtin "object.__class__") = some true)
    (xm : PySem.W.mroIn K CP (.type "object") = some true)
    (z1 : PySem.W.nsIn K mainGlobals "len" = some none)
    (z2 : PySem.W.nsIn K mainGlobals "int" = some none)
    (z3 : PySem.W.nsIn K mainGlobals "range" = some none)
    (z4 : PySem.W.nsIn K mainGlobals "abs" = some none)
    (z5 : PySem.W.nsIn K mainGlobals "max" = some none)
    (z6 : PySem.W.nsIn K mainGlobals "min" = some none)
    (z7 : PySem.W.nsIn K mainGlobals "tuple" = some none)
    (z8 : PySem.W.nsIn K mainGlobals "list" = some none)
    (z9 : PySem.W.nsIn K mainGlobals "enumerate" = some none)
    (z10 : PySem.W.nsIn K mainGlobals "reversed" = some none)
    (z11 : PySem.W.nsIn K mainGlobals "isinstance" = some none)
    (z12 : PySem.W.nsIn K mainGlobals "str" = some none)
    (z13 : PySem.W.nsIn K mainGlobals "bool" = some none)
    (a1 : PySem.W.nsIn K mainGlobals "nodes_upwards" = some (some (.ref f1)))
    (l1 : K.lookup f1 = some ⟨oc1, od1, .func (PySem.W.fnOf "nodes_upwards" "nodes_upwards" (defArgs sUp) (defBody sUp) (defScope sUp) .none kV1 dc1 pm1 an1 cd1 ct1), sl1⟩)
    (c1 : PySem.W.codeIn K cd1 "nodes_upwards" = true)
    (k1 : PySem.W.keepIn K (.ref f1) = true)
    (a2 : PySem.W.nsIn K mainGlobals "branching" = some (some (.ref f2)))
    (l2 : K.lookup f2 = some ⟨oc2, od2, .func (PySem.W.fnOf "branching" "branching" (defArgs sBranch) (defBody sBranch) (defScope sBranch) .none kV2 dc2 pm2 an2 cd2 ct2), sl2⟩)
    (c2 : PySem.W.codeIn K cd2 "branching" = true)
    (k2 : PySem.W.keepIn K (.ref f2) = true)
    (a3 : PySem.W.nsIn K mainGlobals "joined_points" = some (some (.ref f3)))
    (l3 : K.lookup f3 = some ⟨oc3, od3, .func (PySem.W.fnOf "joined_points" "joined_points" (defArgs sJoin) (defBody sJoin) (defScope sJoin) .none kV3 dc3 pm3 an3 cd3 ct3), sl3⟩)
    (c3 : PySem.W.codeIn K cd3 "joined_points" = true)
    (k3 : PySem.W.keepIn K (.ref f3) = true)
    (a4 : PySem.W.nsIn K mainGlobals "reading_fault" = some (some (.ref f4)))
    (l4 : K.lookup f4 = some ⟨oc4, od4, .func (PySem.W.fnOf "reading_fault" "reading_fault" (defArgs sReadF) (defBody sReadF) (defScope sReadF) .none kV4 dc4 pm4 an4 cd4 ct4), sl4⟩)
    (c4 : PySem.W.codeIn K cd4 "reading_fault" = true)
    (k4 : PySem.W.keepIn K (.ref f4) = true)
    (a5 : PySem.W.nsIn K mainGlobals "leaves_by_place" = some (some (.ref f5)))
    (l5 : K.lookup f5 = some ⟨oc5, od5, .func (PySem.W.fnOf "leaves_by_place" "leaves_by_place" (defArgs sByPlace) (defBody sByPlace) (defScope sByPlace) .none kV5 dc5 pm5 an5 cd5 ct5), sl5⟩)
    (c5 : PySem.W.codeIn K cd5 "leaves_by_place" = true)
    (k5 : PySem.W.keepIn K (.ref f5) = true)
    (a6 : PySem.W.nsIn K mainGlobals "step_fault" = some (some (.ref f6)))
    (l6 : K.lookup f6 = some ⟨oc6, od6, .func (PySem.W.fnOf "step_fault" "step_fault" (defArgs sStep) (defBody sStep) (defScope sStep) .none kV6 dc6 pm6 an6 cd6 ct6), sl6⟩)
    (c6 : PySem.W.codeIn K cd6 "step_fault" = true)
    (k6 : PySem.W.keepIn K (.ref f6) = true)
    (a7 : PySem.W.nsIn K mainGlobals "reading_room" = some (some (.ref f7)))
    (l7 : K.lookup f7 = some ⟨oc7, od7, .func (PySem.W.fnOf "reading_room" "reading_room" (defArgs sRoom) (defBody sRoom) (defScope sRoom) .none kV7 dc7 pm7 an7 cd7 ct7), sl7⟩)
    (c7 : PySem.W.codeIn K cd7 "reading_room" = true)
    (k7 : PySem.W.keepIn K (.ref f7) = true)
    (a8 : PySem.W.nsIn K mainGlobals "best_reading" = some (some (.ref f8)))
    (l8 : K.lookup f8 = some ⟨oc8, od8, .func (PySem.W.fnOf "best_reading" "best_reading" (defArgs sBest) (defBody sBest) (defScope sBest) .none kV8 dc8 pm8 an8 cd8 ct8), sl8⟩)
    (c8 : PySem.W.codeIn K cd8 "best_reading" = true)
    (k8 : PySem.W.keepIn K (.ref f8) = true)
    (a9 : PySem.W.nsIn K mainGlobals "branching_by_place" = some (some (.ref f9)))
    (l9 : K.lookup f9 = some ⟨oc9, od9, .func (PySem.W.fnOf "branching_by_place" "branching_by_place" (defArgs sByNum) (defBody sByNum) (defScope sByNum) .none kV9 dc9 pm9 an9 cd9 ct9), sl9⟩)
    (c9 : PySem.W.codeIn K cd9 "branching_by_place" = true)
    (k9 : PySem.W.keepIn K (.ref f9) = true)
    (a10 : PySem.W.nsIn K mainGlobals "_law_cell" = some (some (.ref f10)))
    (l10 : K.lookup f10 = some ⟨oc10, od10, .func (PySem.W.fnOf "_law_cell" "_law_cell" (defArgs sCell) (defBody sCell) (defScope sCell) .none kV10 dc10 pm10 an10 cd10 ct10), sl10⟩)
    (c10 : PySem.W.codeIn K cd10 "_law_cell" = true)
    (k10 : PySem.W.keepIn K (.ref f10) = true)
    (a11 : PySem.W.nsIn K mainGlobals "_law_draws" = some (some (.ref f11)))
    (l11 : K.lookup f11 = some ⟨oc11, od11, .func (PySem.W.fnOf "_law_draws" "_law_draws" (defArgs sDraws) (defBody sDraws) (defScope sDraws) .none kV11 dc11 pm11 an11 cd11 ct11), sl11⟩)
    (c11 : PySem.W.codeIn K cd11 "_law_draws" = true)
    (k11 : PySem.W.keepIn K (.ref f11) = true)
    (a12 : PySem.W.nsIn K mainGlobals "_law_seed" = some (some (.ref f12)))
    (l12 : K.lookup f12 = some ⟨oc12, od12, .func (PySem.W.fnOf "_law_seed" "_law_seed" (defArgs sSeed) (defBody sSeed) (defScope sSeed) .none kV12 dc12 pm12 an12 cd12 ct12), sl12⟩)
    (c12 : PySem.W.codeIn K cd12 "_law_seed" = true)
    (k12 : PySem.W.keepIn K (.ref f12) = true)
    (a13 : PySem.W.nsIn K mainGlobals "_law_form" = some (some (.ref f13)))
    (l13 : K.lookup f13 = some ⟨oc13, od13, .func (PySem.W.fnOf "_law_form" "_law_form" (defArgs sForm) (defBody sForm) (defScope sForm) .none kV13 dc13 pm13 an13 cd13 ct13), sl13⟩)
    (c13 : PySem.W.codeIn K cd13 "_law_form" = true)
    (k13 : PySem.W.keepIn K (.ref f13) = true)
    (a14 : PySem.W.nsIn K mainGlobals "_law_nodes" = some (some (.ref f14)))
    (l14 : K.lookup f14 = some ⟨oc14, od14, .func (PySem.W.fnOf "_law_nodes" "_law_nodes" (defArgs sNodes) (defBody sNodes) (defScope sNodes) .none kV14 dc14 pm14 an14 cd14 ct14), sl14⟩)
    (c14 : PySem.W.codeIn K cd14 "_law_nodes" = true)
    (k14 : PySem.W.keepIn K (.ref f14) = true)
    (a15 : PySem.W.nsIn K mainGlobals "_law_number" = some (some (.ref f15)))
    (l15 : K.lookup f15 = some ⟨oc15, od15, .func (PySem.W.fnOf "_law_number" "_law_number" (defArgs sNumber) (defBody sNumber) (defScope sNumber) .none kV15 dc15 pm15 an15 cd15 ct15), sl15⟩)
    (c15 : PySem.W.codeIn K cd15 "_law_number" = true)
    (k15 : PySem.W.keepIn K (.ref f15) = true)
    (a16 : PySem.W.nsIn K mainGlobals "_law_drawn_order" = some (some (.ref f16)))
    (l16 : K.lookup f16 = some ⟨oc16, od16, .func (PySem.W.fnOf "_law_drawn_order" "_law_drawn_order" (defArgs sDrawn) (defBody sDrawn) (defScope sDrawn) .none kV16 dc16 pm16 an16 cd16 ct16), sl16⟩)
    (c16 : PySem.W.codeIn K cd16 "_law_drawn_order" = true)
    (k16 : PySem.W.keepIn K (.ref f16) = true)
    (a17 : PySem.W.nsIn K mainGlobals "_law_due" = some (some (.ref f17)))
    (l17 : K.lookup f17 = some ⟨oc17, od17, .func (PySem.W.fnOf "_law_due" "_law_due" (defArgs sDue) (defBody sDue) (defScope sDue) .none kV17 dc17 pm17 an17 cd17 ct17), sl17⟩)
    (c17 : PySem.W.codeIn K cd17 "_law_due" = true)
    (k17 : PySem.W.keepIn K (.ref f17) = true)
    (a18 : PySem.W.nsIn K mainGlobals "_law_room" = some (some (.ref f18)))
    (l18 : K.lookup f18 = some ⟨oc18, od18, .func (PySem.W.fnOf "_law_room" "_law_room" (defArgs sLRoom) (defBody sLRoom) (defScope sLRoom) .none kV18 dc18 pm18 an18 cd18 ct18), sl18⟩)
    (c18 : PySem.W.codeIn K cd18 "_law_room" = true)
    (k18 : PySem.W.keepIn K (.ref f18) = true)
    (a19 : PySem.W.nsIn K mainGlobals "_law_spoilt" = some (some (.ref f19)))
    (l19 : K.lookup f19 = some ⟨oc19, od19, .func (PySem.W.fnOf "_law_spoilt" "_law_spoilt" (defArgs sSp) (defBody sSp) (defScope sSp) .none kV19 dc19 pm19 an19 cd19 ct19), sl19⟩)
    (c19 : PySem.W.codeIn K cd19 "_law_spoilt" = true)
    (k19 : PySem.W.keepIn K (.ref f19) = true)
    (a20 : PySem.W.nsIn K mainGlobals "_law_is_number" = some (some (.ref f20)))
    (l20 : K.lookup f20 = some ⟨oc20, od20, .func (PySem.W.fnOf "_law_is_number" "_law_is_number" (defArgs sIsNum) (defBody sIsNum) (defScope sIsNum) .none kV20 dc20 pm20 an20 cd20 ct20), sl20⟩)
    (c20 : PySem.W.codeIn K cd20 "_law_is_number" = true)
    (k20 : PySem.W.keepIn K (.ref f20) = true)
    (a21 : PySem.W.nsIn K mainGlobals "_law_fault_is" = some (some (.ref f21)))
    (l21 : K.lookup f21 = some ⟨oc21, od21, .func (PySem.W.fnOf "_law_fault_is" "_law_fault_is" (defArgs sFaultIs) (defBody sFaultIs) (defScope sFaultIs) .none kV21 dc21 pm21 an21 cd21 ct21), sl21⟩)
    (c21 : PySem.W.codeIn K cd21 "_law_fault_is" = true)
    (k21 : PySem.W.keepIn K (.ref f21) = true)
    (a22 : PySem.W.nsIn K mainGlobals "_law_row_holds" = some (some (.ref f22)))
    (l22 : K.lookup f22 = some ⟨oc22, od22, .func (PySem.W.fnOf "_law_row_holds" "_law_row_holds" (defArgs sRowH) (defBody sRowH) (defScope sRowH) .none kV22 dc22 pm22 an22 cd22 ct22), sl22⟩)
    (c22 : PySem.W.codeIn K cd22 "_law_row_holds" = true)
    (k22 : PySem.W.keepIn K (.ref f22) = true)
    (a23 : PySem.W.nsIn K mainGlobals "_law_best_holds" = some (some (.ref f23)))
    (l23 : K.lookup f23 = some ⟨oc23, od23, .func (PySem.W.fnOf "_law_best_holds" "_law_best_holds" (defArgs sBestH) (defBody sBestH) (defScope sBestH) .none kV23 dc23 pm23 an23 cd23 ct23), sl23⟩)
    (c23 : PySem.W.codeIn K cd23 "_law_best_holds" = true)
    (k23 : PySem.W.keepIn K (.ref f23) = true)
    (a24 : PySem.W.nsIn K mainGlobals "law" = some (some (.ref f24)))
    (l24 : K.lookup f24 = some ⟨oc24, od24, .func (PySem.W.fnOf "law" "law" (defArgs sLaw) (defBody sLaw) (defScope sLaw) .none kV24 dc24 pm24 an24 cd24 ct24), sl24⟩)
    (c24 : PySem.W.codeIn K cd24 "law" = true)
    (k24 : PySem.W.keepIn K (.ref f24) = true)
    : ∃ fd : FuncData, (∀ (s : Shared) (v : Value), BindsTo s fd ⟨[v], []⟩ [("_law_script", v)]) ∧ ∀ base : Heap, K.In base → base.Ns mainGlobals mg → FnOk l.prog w K mg base CX0 50 fa fd ["_law_script"] (spLaw K) := by
  have e := hfa.symm.trans (PySem.W.mg_of X G a24)
  cases e
  have XT : KmX.XT l.prog K mg "BadPaper" "place" "kind" CP fI cc :=
    { gC := PySem.W.mg_of X G aC, gS := PySem.W.mg_none_of X G aS, cls := ⟨nm, q2, N, bs, _, sn, sub, ab, col, dd, m0, m1, m2, m3, m5, xL, rfl⟩, sa := sa, ga := ga, gg := gg, noF := nb1, noG := nb2, iC := a0, tI := t0, kC := kC, exC := eC, veC := vC, tyC := tC, hdC := hC, mrC := mC, suC := su, opq := opq, top := tp,
      fn := ⟨_, _, _, _, _, _, _, cda, _, _, _, _, _, _, _, _, _, _, _, _, _, _, _, _, _, l0, c0, _, _, _, _, _, _, lcd, lv, lf⟩, cell := ⟨_, _, _, lc⟩ }
  have nL : (Value.ref CP) ≠ Value.ref BL := fun z => by
    rw [← z, sC] at sL
    cases sL
  have RE : Errs K mg CP B BL :=
    { gP := PySem.W.mg_of X G aC, gB := PySem.W.mg_of X G aB, gL := PySem.W.mg_of X G aL, xP := PySem.W.exm_ref eC hC tC sC, exc := ⟨ga, gg, eC, hC, xa, xn, xt, xm⟩, kB := kit_true hB tyB sB, kL := kit_cls_of hL tyL sL nL, noP := nb1, noK := nb2 }
  have T : Blt mg := { mlen := (PySem.W.mg_none_of X G z1), mint := (PySem.W.mg_none_of X G z2), mran := (PySem.W.mg_none_of X G z3), mabs := (PySem.W.mg_none_of X G z4) }
  have T2 : Blt2 mg := { mmax := (PySem.W.mg_none_of X G z5), mmin := (PySem.W.mg_none_of X G z6), mtup := (PySem.W.mg_none_of X G z7), mlist := (PySem.W.mg_none_of X G z8), menum := (PySem.W.mg_none_of X G z9), mrev := (PySem.W.mg_none_of X G z10), misi := (PySem.W.mg_none_of X G z11), mstr := (PySem.W.mg_none_of X G z12), mbool := (PySem.W.mg_none_of X G z13) }
  have F1 := fun_mk (st := sUp) l1 c1 k1
  have b1 := F1.binds (ps := ["paper"]) fun _ _ _ _ _ _ us hl => match us, hl with | [_], _ => rfl
  have m1 := PySem.W.mg_of X G a1
  have F2 := fun_mk (st := sBranch) l2 c2 k2
  have b2 := F2.binds (ps := ["tree"]) fun _ _ _ _ _ _ us hl => match us, hl with | [_], _ => rfl
  have m2 := PySem.W.mg_of X G a2
  have F3 := fun_mk (st := sJoin) l3 c3 k3
  have b3 := F3.binds (ps := ["first", "second"]) fun _ _ _ _ _ _ us hl => match us, hl with | [_, _], _ => rfl
  have m3 := PySem.W.mg_of X G a3
  have F4 := fun_mk (st := sReadF) l4 c4 k4
  have b4 := F4.binds (ps := ["paper", "order"]) fun _ _ _ _ _ _ us hl => match us, hl with | [_, _], _ => rfl
  have m4 := PySem.W.mg_of X G a4
  have F5 := fun_mk (st := sByPlace) l5 c5 k5
  have b5 := F5.binds (ps := ["paper"]) fun _ _ _ _ _ _ us hl => match us, hl with | [_], _ => rfl
  have m5 := PySem.W.mg_of X G a5
  have F6 := fun_mk (st := sStep) l6 c6 k6
  have b6 := F6.binds (ps := ["leaves", "read", "place"]) fun _ _ _ _ _ _ us hl => match us, hl with | [_, _, _], _ => rfl
  have m6 := PySem.W.mg_of X G a6
  have F7 := fun_mk (st := sRoom) l7 c7 k7
  have b7 := F7.binds (ps := ["paper", "order"]) fun _ _ _ _ _ _ us hl => match us, hl with | [_, _], _ => rfl
  have m7 := PySem.W.mg_of X G a7
  have F8 := fun_mk (st := sBest) l8 c8 k8
  have b8 := F8.binds (ps := ["paper"]) fun _ _ _ _ _ _ us hl => match us, hl with | [_], _ => rfl
  have m8 := PySem.W.mg_of X G a8
  have F9 := fun_mk (st := sByNum) l9 c9 k9
  have b9 := F9.binds (ps := ["paper"]) fun _ _ _ _ _ _ us hl => match us, hl with | [_], _ => rfl
  have m9 := PySem.W.mg_of X G a9
  have F10 := fun_mk (st := sCell) l10 c10 k10
  have b10 := F10.binds (ps := ["_law_script", "_law_k"]) fun _ _ _ _ _ _ us hl => match us, hl with | [_, _], _ => rfl
  have m10 := PySem.W.mg_of X G a10
  have F11 := fun_mk (st := sDraws) l11 c11 k11
  have b11 := F11.binds (ps := ["_law_cell_here", "_law_many"]) fun _ _ _ _ _ _ us hl => match us, hl with | [_, _], _ => rfl
  have m11 := PySem.W.mg_of X G a11
  have F12 := fun_mk (st := sSeed) l12 c12 k12
  have b12 := F12.binds (ps := ["_law_script", "_law_k"]) fun _ _ _ _ _ _ us hl => match us, hl with | [_, _], _ => rfl
  have m12 := PySem.W.mg_of X G a12
  have F13 := fun_mk (st := sForm) l13 c13 k13
  have b13 := F13.binds (ps := ["_law_draws_here", "_law_deep", "_law_narrow", "_law_at"]) fun _ _ _ _ _ _ us hl => match us, hl with | [_, _, _, _], _ => rfl
  have m13 := PySem.W.mg_of X G a13
  have F14 := fun_mk (st := sNodes) l14 c14 k14
  have b14 := F14.binds (ps := ["_law_paper", "_law_place"]) fun _ _ _ _ _ _ us hl => match us, hl with | [_, _], _ => rfl
  have m14 := PySem.W.mg_of X G a14
  have F15 := fun_mk (st := sNumber) l15 c15 k15
  have b15 := F15.binds (ps := ["_law_paper"]) fun _ _ _ _ _ _ us hl => match us, hl with | [_], _ => rfl
  have m15 := PySem.W.mg_of X G a15
  have F16 := fun_mk (st := sDrawn) l16 c16 k16
  have b16 := F16.binds (ps := ["_law_nodes_here", "_law_draws_here", "_law_shift"]) fun _ _ _ _ _ _ us hl => match us, hl with | [_, _, _], _ => rfl
  have m16 := PySem.W.mg_of X G a16
  have F17 := fun_mk (st := sDue) l17 c17 k17
  have b17 := F17.binds (ps := ["_law_nodes_here", "_law_order"]) fun _ _ _ _ _ _ us hl => match us, hl with | [_, _], _ => rfl
  have m17 := PySem.W.mg_of X G a17
  have F18 := fun_mk (st := sLRoom) l18 c18 k18
  have b18 := F18.binds (ps := ["_law_nodes_here", "_law_order"]) fun _ _ _ _ _ _ us hl => match us, hl with | [_, _], _ => rfl
  have m18 := PySem.W.mg_of X G a18
  have F19 := fun_mk (st := sSp) l19 c19 k19
  have b19 := F19.binds (ps := ["_law_nodes_here", "_law_order", "_law_draw", "_law_other"]) fun _ _ _ _ _ _ us hl => match us, hl with | [_, _, _, _], _ => rfl
  have m19 := PySem.W.mg_of X G a19
  have F20 := fun_mk (st := sIsNum) l20 c20 k20
  have b20 := F20.binds (ps := ["_law_actual", "_law_expected"]) fun _ _ _ _ _ _ us hl => match us, hl with | [_, _], _ => rfl
  have m20 := PySem.W.mg_of X G a20
  have F21 := fun_mk (st := sFaultIs) l21 c21 k21
  have b21 := F21.binds (ps := ["_law_actual", "_law_due_here"]) fun _ _ _ _ _ _ us hl => match us, hl with | [_, _], _ => rfl
  have m21 := PySem.W.mg_of X G a21
  have F22 := fun_mk (st := sRowH) l22 c22 k22
  have b22 := F22.binds (ps := ["_law_paper", "_law_nodes_here", "_law_order", "_law_least"]) fun _ _ _ _ _ _ us hl => match us, hl with | [_, _, _, _], _ => rfl
  have m22 := PySem.W.mg_of X G a22
  have F23 := fun_mk (st := sBestH) l23 c23 k23
  have b23 := F23.binds (ps := ["_law_paper", "_law_nodes_here", "_law_least"]) fun _ _ _ _ _ _ us hl => match us, hl with | [_, _, _], _ => rfl
  have m23 := PySem.W.mg_of X G a23
  have F24 := fun_mk (st := sLaw) l24 c24 k24
  have b24 := F24.binds (ps := ["_law_script"]) fun _ _ _ _ _ _ us hl => match us, hl with | [_], _ => rfl
  have m24 := PySem.W.mg_of X G a24
  refine ⟨PySem.W.fnOf "law" "law" (defArgs sLaw) (defBody sLaw) (defScope sLaw) .none kV24 dc24 pm24 an24 cd24 ct24, fun s v => .of_eq rfl, fun base _ _ => ?_⟩
  have gUp : FnOk l.prog w K mg base CX0 1 f1 _ ["paper"] (spUp K) := ok_up (P := l.prog) (w := w) (base := base) F1
  have gJoin : FnOk l.prog w K mg base CX0 1 f3 _ ["first", "second"] (spJoin) := ok_join (P := l.prog) (w := w) (base := base) T2 F3
  have gBranch := all_branch (P := l.prog) (w := w) (base := base) T F2 b2 m2 gJoin k3 b3 m3 40
  have gByP := ok_byPlace (P := l.prog) (w := w) (base := base) F5 gUp k1 b1 m1
  have gStep : FnOk l.prog w K mg base CX0 1 f6 _ ["leaves", "read", "place"] (spStep) := ok_step (P := l.prog) (w := w) (base := base) F6
  have gReadF := ok_readF (P := l.prog) (w := w) (base := base) T T2 F4 gByP k5 b5 m5 gStep k6 b6 m6
  have gRoom := ok_room (P := l.prog) (w := w) (base := base) T2 XT F7 gByP k5 b5 m5 gReadF k4 b4 m4
  have gByN := ok_byNum (P := l.prog) (w := w) (base := base) F9 gUp k1 b1 m1 gJoin k3 b3 m3
  have gBest := ok_best (P := l.prog) (w := w) (base := base) T2 F8 gByN k9 b9 m9
  have gCell : FnOk l.prog w K mg base CX0 1 f10 _ ["_law_script", "_law_k"] (spCell K) := ok_cell (P := l.prog) (w := w) (base := base) T F10
  have gDraws : FnOk l.prog w K mg base CX0 1 f11 _ ["_law_cell_here", "_law_many"] (spDraws) := ok_draws (P := l.prog) (w := w) (base := base) T F11
  have gSeed := ok_seed (P := l.prog) (w := w) (base := base) T F12 gCell k10 b10 m10
  have gForm := all_form (P := l.prog) (w := w) (base := base) T T2 F13 b13 m13 31
  have gNodes := all_nodes (P := l.prog) (w := w) (base := base) F14 b14 m14 40
  have gNum := all_number (P := l.prog) (w := w) (base := base) T2 F15 b15 m15 40
  have gDrawn : FnOk l.prog w K mg base CX0 1 f16 _ ["_law_nodes_here", "_law_draws_here", "_law_shift"] (spDrawn K) := ok_drawn (P := l.prog) (w := w) (base := base) T T2 F16
  have gDue : FnOk l.prog w K mg base CX0 1 f17 _ ["_law_nodes_here", "_law_order"] (spDue K) := ok_due (P := l.prog) (w := w) (base := base) T F17
  have gLRoom : FnOk l.prog w K mg base CX0 1 f18 _ ["_law_nodes_here", "_law_order"] (spLRoom K) := ok_lroom (P := l.prog) (w := w) (base := base) T2 F18
  have gSp : FnOk l.prog w K mg base CX0 1 f19 _ ["_law_nodes_here", "_law_order", "_law_draw", "_law_other"] (spSp K) := ok_sp (P := l.prog) (w := w) (base := base) T T2 F19
  have gIs : FnOk l.prog w K mg base CX0 1 f20 _ ["_law_actual", "_law_expected"] (spIsNum) := ok_isNum (P := l.prog) (w := w) (base := base) T T2 F20
  have gIsH : L2H.FnH l.prog w K mg base CX0 1 f20 _ ["_law_actual", "_law_expected"] spIsNum := okH_isNum (P := l.prog) (w := w) (base := base) T T2 F20
  have gFH := okH_faultIs (P := l.prog) (w := w) (base := base) T T2 F21 gIsH k20 b20 m20
  have gRowH := ok_rowH (P := l.prog) (w := w) (base := base) XT RE T2 F22 gDue k17 b17 m17 gReadF k4 b4 m4 gRoom k7 b7 m7 gLRoom k18 b18 m18 gIs k20 b20 m20 gFH k21 b21 m21
  have gBestH := ok_bestH (P := l.prog) (w := w) (base := base) T T2 F23 gBest k8 b8 m8 gDue k17 b17 m17 gLRoom k18 b18 m18 gIs k20 b20 m20 gRowH k22 b22 m22
  exact ok_law (P := l.prog) (w := w) (base := base) T T2 F24 gCell k10 b10 m10 gDraws k11 b11 m11 gSeed k12 b12 m12 gForm k13 b13 m13 gNodes k14 b14 m14 gNum k15 b15 m15 gIs k20 b20 m20 gBranch k2 b2 m2 gBestH k23 b23 m23 gRowH k22 b22 m22 gSp k19 b19 m19 gDrawn k16 b16 m16 gDue k17 b17 m17
end Km
/-! KtFin -/
set_option Elab.async false
set_option maxRecDepth 100000
open PySem PySem.W PyProof.Rows
set_option maxHeartbeats 0 in
theorem PySem.Challenge.cw_papersorliars_k19_readings_holds : PySem.Challenge.rw_papersorliars_k19_readings.Holds := by
  w_on; o_law; k_head; (case hw => w_witness2)
  k_fill
  refine L2.walk_ofB (l := PySem.Challenge.rw_papersorliars_k19_readings) (n := 63) (k := 50) (x := "_law_script") (CX := fun _ => L2.CX0) (sp := fun w => Km.spLaw _) rfl (by decide) rfl ⟨rfl, by decide, by decide⟩ (fun w h Y => PySem.W.kIn_of Y) ?F (fun _ _ a ns hl _ _ hS => ⟨a, ns, rfl, hS, hl, fun _ => rfl⟩) (fun _ _ _ _ _ h => h)
  case F =>
    intro w mg fa h KX G hmg
    refine' Km.all_mk KX G hmg ?aC ?aB ?aL ?aS ?xL ?sa ?ga ?gg ?nb1 ?nb2 ?a0 ?t0 ?kC ?eC ?vC ?tC ?hC ?sC ?sB ?sL ?mC ?su ?opq ?l0 ?c0 ?lcd ?lv ?lf ?lc ?tp ?hB ?tyB ?hL ?tyL ?xa ?xn ?xt ?xm ?z1 ?z2 ?z3 ?z4 ?z5 ?z6 ?z7 ?z8 ?z9 ?z10 ?z11 ?z12 ?z13 ?a1 ?l1 ?c1 ?k1 ?a2 ?l2 ?c2 ?k2 ?a3 ?l3 ?c3 ?k3 ?a4 ?l4 ?c4 ?k4 ?a5 ?l5 ?c5 ?k5 ?a6 ?l6 ?c6 ?k6 ?a7 ?l7 ?c7 ?k7 ?a8 ?l8 ?c8 ?k8 ?a9 ?l9 ?c9 ?k9 ?a10 ?l10 ?c10 ?k10 ?a11 ?l11 ?c11 ?k11 ?a12 ?l12 ?c12 ?k12 ?a13 ?l13 ?c13 ?k13 ?a14 ?l14 ?c14 ?k14 ?a15 ?l15 ?c15 ?k15 ?a16 ?l16 ?c16 ?k16 ?a17 ?l17 ?c17 ?k17 ?a18 ?l18 ?c18 ?k18 ?a19 ?l19 ?c19 ?k19 ?a20 ?l20 ?c20 ?k20 ?a21 ?l21 ?c21 ?k21 ?a22 ?l22 ?c22 ?k22 ?a23 ?l23 ?c23 ?k23 ?a24 ?l24 ?c24 ?k24
    (case aC => k_is)
    (case aB => k_is)
    (case aL => k_is)
    (case aS => k_is)
    (case xL => k_is)
    (case sa => k_is)
    (case ga => k_is)
    (case gg => k_is)
    (case nb1 => k_is)
    (case nb2 => k_is)
    (case a0 => k_is)
    (case t0 => k_is)
    (case kC => k_is)
    (case eC => k_is)
    (case vC => k_is)
    (case tC => k_is)
    (case hC => k_is)
    (case sC => first | rfl | k_is)
    (case sB => k_is)
    (case sL => k_is)
    (case mC => k_is)
    (case su => ks_is)
    (case opq => k_is)
    (case l0 => k_is)
    (case c0 => k_is)
    (case lcd => k_is)
    (case lv => first | rfl | decide | kernel_rfl)
    (case lf => first | rfl | decide | kernel_rfl)
    (case lc => k_is)
    (case tp => first | rfl | decide | kernel_rfl)
    (case hB => k_is)
    (case tyB => k_is)
    (case hL => k_is)
    (case tyL => k_is)
    (case xa => k_is)
    (case xn => k_is)
    (case xt => k_is)
    (case xm => k_is)
    (case z1 => k_is)
    (case z2 => k_is)
    (case z3 => k_is)
    (case z4 => k_is)
    (case z5 => k_is)
    (case z6 => k_is)
    (case z7 => k_is)
    (case z8 => k_is)
    (case z9 => k_is)
    (case z10 => k_is)
    (case z11 => k_is)
    (case z12 => k_is)
    (case z13 => k_is)
    (case a1 => k_is)
    (case l1 => k_is)
    (case c1 => k_is)
    (case k1 => k_is)
    (case a2 => k_is)
    (case l2 => k_is)
    (case c2 => k_is)
    (case k2 => k_is)
    (case a3 => k_is)
    (case l3 => k_is)
    (case c3 => k_is)
    (case k3 => k_is)
    (case a4 => k_is)
    (case l4 => k_is)
    (case c4 => k_is)
    (case k4 => k_is)
    (case a5 => k_is)
    (case l5 => k_is)
    (case c5 => k_is)
    (case k5 => k_is)
    (case a6 => k_is)
    (case l6 => k_is)
    (case c6 => k_is)
    (case k6 => k_is)
    (case a7 => k_is)
    (case l7 => k_is)
    (case c7 => k_is)
    (case k7 => k_is)
    (case a8 => k_is)
    (case l8 => k_is)
    (case c8 => k_is)
    (case k8 => k_is)
    (case a9 => k_is)
    (case l9 => k_is)
    (case c9 => k_is)
    (case k9 => k_is)
    (case a10 => k_is)
    (case l10 => k_is)
    (case c10 => k_is)
    (case k10 => k_is)
    (case a11 => k_is)
    (case l11 => k_is)
    (case c11 => k_is)
    (case k11 => k_is)
    (case a12 => k_is)
    (case l12 => k_is)
    (case c12 => k_is)
    (case k12 => k_is)
    (case a13 => k_is)
    (case l13 => k_is)
    (case c13 => k_is)
    (case k13 => k_is)
    (case a14 => k_is)
    (case l14 => k_is)
    (case c14 => k_is)
    (case k14 => k_is)
    (case a15 => k_is)
    (case l15 => k_is)
    (case c15 => k_is)
    (case k15 => k_is)
    (case a16 => k_is)
    (case l16 => k_is)
    (case c16 => k_is)
    (case k16 => k_is)
    (case a17 => k_is)
    (case l17 => k_is)
    (case c17 => k_is)
    (case k17 => k_is)
    (case a18 => k_is)
    (case l18 => k_is)
    (case c18 => k_is)
    (case k18 => k_is)
    (case a19 => k_is)
    (case l19 => k_is)
    (case c19 => k_is)
    (case k19 => k_is)
    (case a20 => k_is)
    (case l20 => k_is)
    (case c20 => k_is)
    (case k20 => k_is)
    (case a21 => k_is)
    (case l21 => k_is)
    (case c21 => k_is)
    (case k21 => k_is)
    (case a22 => k_is)
    (case l22 => k_is)
    (case c22 => k_is)
    (case k22 => k_is)
    (case a23 => k_is)
    (case l23 => k_is)
    (case c23 => k_is)
    (case k23 => k_is)
    (case a24 => k_is)
    (case l24 => k_is)
    (case c24 => k_is)
    (case k24 => k_is)
