import PyProof.Rows.All
import Wide.All
import OpenK.AllK
import Wide.FinOn
import HandS.Codes
import PyProof.EqAt
import PyProof.EqKinds
import PyProof.TupleCall
import KE.KExcSuper
import HandS.ExcSuper
import HandS.ForExc
import HandS.ForMost
import HandS.Wide
import HandS.IsInst
import HandS.RaiseMore
import HandS.TryMany
import HandS.ExcIs
import HandS.EndBits
import HandS.Conv
import HandS.TupAny
import KE.KExcIs
import KE.KIsAll
import PyProof.StrBlock2
import PySem.Challenge.RW_papersorliars_k00_value_texts
/-! KzMath -/
set_option Elab.async false
namespace Kz
open TL (numL)
open PySem.NumText (AllDigits digitsVal)

/-- what a text can write: a number, a word, a row -/
inductive Val where
  | num (n : Int)
  | word (w : List Nat)
  | tup (vs : List Val)

def numS (n : Int) : List Nat := if n < 0 then 45 :: numL n.natAbs else numL n.natAbs
def isL (c : Nat) : Bool := decide (97 ≤ c ∧ c ≤ 122)
def isD (c : Nat) : Bool := decide (48 ≤ c ∧ c ≤ 57)

mutual
def wr : Val → List Nat
  | .num n => numS n
  | .word w => w
  | .tup vs => 40 :: (TL.joinL [32] (wrl vs) ++ [41])
def wrl : List Val → List (List Nat)
  | [] => []
  | v :: r => wr v :: wrl r
end
mutual
def dep : Val → Nat
  | .num _ => 0
  | .word _ => 0
  | .tup vs => 1 + deps vs
def deps : List Val → Nat
  | [] => 0
  | v :: r => max (dep v) (deps r)
end
mutual
def Ok : Val → Prop
  | .num n => n.natAbs < 10 ^ 200
  | .word w => 1 ≤ w.length ∧ w.length ≤ 20 ∧ ∀ c ∈ w, isL c = true
  | .tup vs => Oks vs
def Oks : List Val → Prop
  | [] => True
  | v :: r => Ok v ∧ Oks r
end
theorem wrl_app : ∀ (a b : List Val), wrl (a ++ b) = wrl a ++ wrl b
  | [], b => by simp [wrl]
  | v :: r, b => by simp [wrl, wrl_app r b]
theorem deps_app : ∀ (a b : List Val), deps (a ++ b) = max (deps a) (deps b)
  | [], b => by simp [deps]
  | v :: r, b => by simp [deps, deps_app r b, Nat.max_assoc]
theorem Oks_app : ∀ (a b : List Val), Oks (a ++ b) ↔ Oks a ∧ Oks b
  | [], b => by simp [Oks]
  | v :: r, b => by simp [Oks, Oks_app r b, and_assoc]

/-! ### numbers as digits -/
theorem mem_dl {c : Nat} {ds : List Nat} (h : c ∈ ds.dropLast) : c ∈ ds := (List.dropLast_sublist ds).subset h
theorem dv_snoc (ds : List Nat) (c : Nat) : digitsVal (ds ++ [c]) = digitsVal ds * 10 + (c - 48) := by
  unfold digitsVal; rw [List.foldl_append]; rfl
theorem dv_lt : ∀ (k : Nat) (ds : List Nat), ds.length = k → AllDigits ds → digitsVal ds < 10 ^ k
  | 0, ds, h, _ => by
    have : ds = [] := List.length_eq_zero_iff.mp h
    subst this; decide
  | k + 1, ds, h, ha => by
    have hne : ds ≠ [] := by intro z; subst z; cases h
    have e : ds.dropLast ++ [ds.getLast hne] = ds := List.dropLast_concat_getLast hne
    have hl : ds.dropLast.length = k := by rw [List.length_dropLast]; omega
    have ih := dv_lt k ds.dropLast hl (fun c hc => ha c (mem_dl hc))
    have hc := ha _ (List.getLast_mem hne)
    rw [← e, dv_snoc, Nat.pow_succ]
    omega
theorem dv_pos : ∀ (k : Nat) (ds : List Nat), ds.length = k → AllDigits ds → ds ≠ [] → ds.head? ≠ some 48 → 0 < digitsVal ds
  | 0, ds, h, _, hne, _ => absurd (List.length_eq_zero_iff.mp h) hne
  | k + 1, ds, h, ha, hne, hh => by
    have e : ds.dropLast ++ [ds.getLast hne] = ds := List.dropLast_concat_getLast hne
    have hl : ds.dropLast.length = k := by rw [List.length_dropLast]; omega
    have hc := ha _ (List.getLast_mem hne)
    by_cases hz : ds.dropLast = []
    · rw [hz, List.nil_append] at e
      have h1 : ds.getLast hne ≠ 48 := by
        intro z
        rw [← e] at hh
        exact hh (by rw [List.head?_cons, z])
      rw [← e, ← List.nil_append [ds.getLast hne], dv_snoc]
      omega
    · have hh2 : ds.dropLast.head? ≠ some 48 := by
        intro z
        apply hh
        cases hd : ds.dropLast with
        | nil => exact absurd hd hz
        | cons a b =>
          rw [hd] at z
          rw [← e, hd]
          exact z
      have ih := dv_pos k ds.dropLast hl (fun c hc => ha c (mem_dl hc)) hz hh2
      rw [← e, dv_snoc]
      omega
theorem numL_dv : ∀ (k : Nat) (ds : List Nat), ds.length = k → AllDigits ds → ds ≠ [] → ds.head? ≠ some 48 → numL (digitsVal ds) = ds
  | 0, ds, h, _, hne, _ => absurd (List.length_eq_zero_iff.mp h) hne
  | k + 1, ds, h, ha, hne, hh => by
    have e : ds.dropLast ++ [ds.getLast hne] = ds := List.dropLast_concat_getLast hne
    have hl : ds.dropLast.length = k := by rw [List.length_dropLast]; omega
    have hc := ha _ (List.getLast_mem hne)
    by_cases hz : ds.dropLast = []
    · rw [hz, List.nil_append] at e
      rw [← e]
      have e2 : digitsVal [ds.getLast hne] = ds.getLast hne - 48 := by
        rw [← List.nil_append [ds.getLast hne], dv_snoc]
        show 0 * 10 + _ = _
        omega
      rw [e2, TL.numL_lt (by omega)]
      congr 1
      omega
    · have hh2 : ds.dropLast.head? ≠ some 48 := by
        intro z
        apply hh
        cases hd : ds.dropLast with
        | nil => exact absurd hd hz
        | cons a b =>
          rw [hd] at z
          rw [← e, hd]
          exact z
      have hd' : AllDigits ds.dropLast := fun c hc => ha c (mem_dl hc)
      have ih := numL_dv k ds.dropLast hl hd' hz hh2
      have ip := dv_pos k ds.dropLast hl hd' hz hh2
      have e3 : digitsVal ds = digitsVal ds.dropLast * 10 + (ds.getLast hne - 48) := by
        rw [← dv_snoc, e]
      rw [e3, TL.numL_step (by omega)]
      have e4 : (digitsVal ds.dropLast * 10 + (ds.getLast hne - 48)) / 10 = digitsVal ds.dropLast := by omega
      have e5 : 48 + (digitsVal ds.dropLast * 10 + (ds.getLast hne - 48)) % 10 = ds.getLast hne := by omega
      rw [e4, e5, ih]
      exact e
theorem numL_head {n : Nat} (h : 0 < n) : ∃ c r, numL n = c :: r ∧ 49 ≤ c ∧ c ≤ 57 := by
  induction n using Nat.strongRecOn with
  | _ n ih =>
    by_cases h9 : n < 10
    · rw [TL.numL_lt h9]
      exact ⟨48 + n, [], rfl, by omega, by omega⟩
    · rw [TL.numL_step (by omega)]
      obtain ⟨c, r, e, h1, h2⟩ := ih (n / 10) (by omega) (by omega)
      rw [e]
      exact ⟨c, r ++ [48 + n % 10], rfl, h1, h2⟩

/-! ### runs -/
def run (p : Nat → Bool) : Nat → List Nat → Nat
  | 0, _ => 0
  | _ + 1, [] => 0
  | m + 1, c :: r => if p c = true then run p m r + 1 else 0
theorem run_nil (p : Nat → Bool) (m : Nat) : run p m [] = 0 := by cases m <;> rfl
theorem run_le (p : Nat → Bool) : ∀ (m : Nat) (s : List Nat), run p m s ≤ m ∧ run p m s ≤ s.length
  | 0, s => by simp [run]
  | m + 1, [] => by simp [run]
  | m + 1, c :: r => by
    have h := run_le p m r
    unfold run
    split
    · simp only [List.length_cons]; omega
    · exact ⟨Nat.zero_le _, Nat.zero_le _⟩
theorem run_all (p : Nat → Bool) : ∀ (m : Nat) (s : List Nat), ∀ c ∈ s.take (run p m s), p c = true
  | 0, s, c, h => by simp [run] at h
  | m + 1, [], c, h => by simp [run] at h
  | m + 1, d :: r, c, h => by
    unfold run at h
    by_cases hd : p d = true
    · rw [if_pos hd, List.take_succ_cons] at h
      rcases List.mem_cons.mp h with h | h
      · rw [h]; exact hd
      · exact run_all p m r c h
    · rw [if_neg hd] at h; simp at h
/-- a run that is known: letters w, then something else -/
theorem run_app (p : Nat → Bool) : ∀ (w rest : List Nat) (m : Nat), w.length ≤ m → (∀ c ∈ w, p c = true) → (∀ c r, rest = c :: r → p c = false) → run p m (w ++ rest) = w.length
  | [], rest, m, _, _, h => by
    cases rest with
    | nil => exact run_nil p m
    | cons c r =>
      cases m with
      | zero => rfl
      | succ m =>
        have hc := h c r rfl
        show (if p c = true then _ else 0) = 0
        rw [hc]; rfl
  | c :: w, rest, 0, hm, _, _ => by simp at hm
  | c :: w, rest, m + 1, hm, hw, h => by
    have hc := hw c List.mem_cons_self
    show (if p c = true then run p m (w ++ rest) + 1 else 0) = w.length + 1
    rw [if_pos hc, run_app p w rest m (by simp at hm; omega) (fun x hx => hw x (List.mem_cons_of_mem _ hx)) h]

/-! ### the automaton -/
inductive M where
  | start | first | minus | zero | digits | word | after
  deriving DecidableEq
abbrev St := M × Nat × Nat
def acc : M → Bool
  | .zero => true
  | .digits => true
  | .word => true
  | .after => true
  | _ => false
def tl1 (d c : Nat) : Option St := if c = 32 ∧ 0 < d then some (.start, d, 0) else if c = 41 ∧ 0 < d then some (.after, d - 1, 0) else none
def op (d c : Nat) : Option St :=
  if c = 40 ∧ d < 100 then some (.first, d + 1, 0) else if c = 45 then some (.minus, d, 0) else if c = 48 then some (.zero, d, 0)
  else if isD c = true then some (.digits, d, 1) else if isL c = true then some (.word, d, 1) else none
def stp : St → Nat → Option St
  | (.start, d, _), c => op d c
  | (.first, d, _), c => if c = 41 then some (.after, d - 1, 0) else op d c
  | (.minus, d, _), c => if isD c = true ∧ c ≠ 48 then some (.digits, d, 1) else none
  | (.word, d, r), c => if r < 20 ∧ isL c = true then some (.word, d, r + 1) else tl1 d c
  | (.digits, d, r), c => if r < 200 ∧ isD c = true then some (.digits, d, r + 1) else tl1 d c
  | (.zero, d, _), c => tl1 d c
  | (.after, d, _), c => tl1 d c
/-- None if the text is read to a right end; else how many signs are left where it goes wrong -/
def go : St → List Nat → Option Nat
  | st, [] => if st.2.1 = 0 ∧ acc st.1 = true then none else some 0
  | st, c :: r => match stp st c with
    | none => some (r.length + 1)
    | some st' => go st' r
def due (t : List Nat) : Option Nat := go (.start, 0, 0) t
theorem go_some {st st' : St} {c : Nat} {r : List Nat} (h : stp st c = some st') : go st (c :: r) = go st' r := by
  show (match stp st c with | none => some (r.length + 1) | some st' => go st' r) = _
  rw [h]
theorem go_none {st : St} {c : Nat} {r : List Nat} (h : stp st c = none) : go st (c :: r) = some (r.length + 1) := by
  show (match stp st c with | none => some (r.length + 1) | some st' => go st' r) = _
  rw [h]
/-- the run is over: the next sign is judged by the tail alone -/
def Bd (st : St) (s : List Nat) : Prop := ∀ c t, s = c :: t → stp st c = tl1 st.2.1 c
theorem go_run {m : M} {p : Nat → Bool} {B d : Nat} (h : ∀ r c, stp (m, d, r) c = if r < B ∧ p c = true then some (m, d, r + 1) else tl1 d c) :
    ∀ (s : List Nat) (r : Nat), r ≤ B → go (m, d, r) s = go (m, d, r + run p (B - r) s) (s.drop (run p (B - r) s)) ∧ Bd (m, d, r + run p (B - r) s) (s.drop (run p (B - r) s))
  | [], r, _ => by
    rw [run_nil]
    exact ⟨rfl, fun c t e => by simp at e⟩
  | c :: s, r, hr => by
    by_cases hlt : r < B
    · obtain ⟨k, hk⟩ : ∃ k, B - r = k + 1 := ⟨B - r - 1, by omega⟩
      have hk2 : B - (r + 1) = k := by omega
      by_cases hp : p c = true
      · have ih := go_run h s (r + 1) (by omega)
        rw [hk2] at ih
        have e : run p (B - r) (c :: s) = run p k s + 1 := by rw [hk]; show (if p c = true then _ else 0) = _; rw [if_pos hp]
        rw [e, go_some (st' := (m, d, r + 1)) (by rw [h, if_pos ⟨hlt, hp⟩]), List.drop_succ_cons]
        have e2 : r + (run p k s + 1) = r + 1 + run p k s := by omega
        rw [e2]
        exact ih
      · have e : run p (B - r) (c :: s) = 0 := by rw [hk]; show (if p c = true then _ else 0) = _; rw [if_neg hp]
        rw [e]
        refine ⟨rfl, fun c' t' e' => ?_⟩
        rw [List.drop_zero] at e'
        injection e' with e1 e2
        subst e1
        show stp (m, d, r + 0) c = tl1 d c
        rw [h, if_neg (fun z => hp z.2)]
    · have e : run p (B - r) (c :: s) = 0 := by rw [show B - r = 0 by omega]; rfl
      rw [e]
      refine ⟨rfl, fun c' t' e' => ?_⟩
      show stp (m, d, r + 0) c' = tl1 d c'
      rw [h, if_neg (fun z => hlt (by omega))]

/-! ### value_start -/
inductive Out where
  | push
  | item (v : Val) (k : Nat)
  | bad (k : Nat)
def num1 (s : List Nat) : Option Nat := if run isD 200 s = 0 ∨ s.head? = some 48 then none else some (run isD 200 s)
def vs1 (n : Nat) : List Nat → Out
  | [] => .bad 0
  | c :: r =>
    if c = 40 ∧ n ≤ 100 then .push
    else if isL c = true then .item (.word ((c :: r).take (run isL 20 (c :: r)))) (run isL 20 (c :: r))
    else if c = 48 then .item (.num 0) 1
    else if c = 45 then (match num1 r with
      | none => .bad 1
      | some k => .item (.num (-((digitsVal (r.take k) : Nat) : Int))) (k + 1))
    else if isD c = true then .item (.num ((digitsVal ((c :: r).take (run isD 200 (c :: r))) : Nat) : Int)) (run isD 200 (c :: r))
    else .bad 0
theorem go_first {d r : Nat} {s : List Nat} (h : s.head? ≠ some 41) : go (.first, d, r) s = go (.start, d, 0) s := by
  cases s with
  | nil =>
    have h1 : go (.first, d, r) [] = some 0 := if_neg (fun z => Bool.false_ne_true z.2)
    have h2 : go (.start, d, 0) [] = some 0 := if_neg (fun z => Bool.false_ne_true z.2)
    rw [h1, h2]
  | cons c t =>
    have hc : c ≠ 41 := fun e => h (by rw [e]; rfl)
    show (match (if c = 41 then some _ else op d c) with | none => some (t.length + 1) | some st' => go st' t) = (match op d c with | none => some (t.length + 1) | some st' => go st' t)
    rw [if_neg hc]
/-- what value_start promises -/
def VsP (d : Nat) (s : List Nat) : Out → Prop
  | .push => ∃ r, s = 40 :: r ∧ d < 100 ∧ go (.start, d, 0) s = go (.first, d + 1, 0) r
  | .item v k => 1 ≤ k ∧ k ≤ s.length ∧ s.take k = wr v ∧ Ok v ∧ dep v = 0 ∧ ∃ m r, acc m = true ∧ go (.start, d, 0) s = go (m, d, r) (s.drop k) ∧ Bd (m, d, r) (s.drop k)
  | .bad k => k ≤ s.length ∧ go (.start, d, 0) s = some (s.length - k)
theorem stp_word (d r c : Nat) : stp (.word, d, r) c = if r < 20 ∧ isL c = true then some (.word, d, r + 1) else tl1 d c := rfl
theorem stp_digits (d r c : Nat) : stp (.digits, d, r) c = if r < 200 ∧ isD c = true then some (.digits, d, r + 1) else tl1 d c := rfl
theorem not_LD {c : Nat} (h : isL c = true) : c ≠ 40 ∧ c ≠ 41 ∧ c ≠ 45 ∧ c ≠ 48 ∧ c ≠ 32 ∧ isD c = false := by
  unfold isL at h
  have h' := of_decide_eq_true h
  refine ⟨by omega, by omega, by omega, by omega, by omega, ?_⟩
  unfold isD
  exact decide_eq_false (by omega)
theorem isD_iff {c : Nat} : isD c = true ↔ 48 ≤ c ∧ c ≤ 57 := by unfold isD; exact decide_eq_true_iff
theorem isL_iff {c : Nat} : isL c = true ↔ 97 ≤ c ∧ c ≤ 122 := by unfold isL; exact decide_eq_true_iff
theorem run_cons {p : Nat → Bool} {m c : Nat} {r : List Nat} (h : p c = true) : run p (m + 1) (c :: r) = run p m r + 1 := by
  show (if p c = true then _ else 0) = _
  rw [if_pos h]
theorem num_of {ds : List Nat} (ha : AllDigits ds) (hne : ds ≠ []) (hh : ds.head? ≠ some 48) (hl : ds.length ≤ 200) : numL (digitsVal ds) = ds ∧ digitsVal ds < 10 ^ 200 ∧ 0 < digitsVal ds :=
  ⟨numL_dv _ ds rfl ha hne hh, Nat.lt_of_lt_of_le (dv_lt _ ds rfl ha) (Nat.pow_le_pow_right (by decide) hl), dv_pos _ ds rfl ha hne hh⟩
theorem digs (m : Nat) (s : List Nat) : AllDigits (s.take (run isD m s)) := fun c hc => isD_iff.mp (run_all isD m s c hc)
theorem vs1_ok (d : Nat) (s : List Nat) : VsP d s (vs1 (d + 1) s) := by
  cases s with
  | nil => exact ⟨Nat.le_refl _, if_neg (fun z => Bool.false_ne_true z.2)⟩
  | cons c r =>
    simp only [vs1]
    by_cases h1 : c = 40 ∧ d + 1 ≤ 100
    · rw [if_pos h1]
      obtain ⟨rfl, h1⟩ := h1
      exact ⟨r, rfl, by omega, go_some (by show op d 40 = _; unfold op; rw [if_pos ⟨rfl, by omega⟩])⟩
    · rw [if_neg h1]
      have h1' : ¬ (c = 40 ∧ d < 100) := fun z => h1 ⟨z.1, by omega⟩
      by_cases h2 : isL c = true
      · rw [if_pos h2]
        obtain ⟨n1, n2, n3, n4, n5, n6⟩ := not_LD h2
        have hs : stp (.start, d, 0) c = some (.word, d, 1) := by
          show op d c = _
          unfold op
          rw [if_neg h1', if_neg n3, if_neg n4, if_neg (by rw [n6]; exact Bool.false_ne_true), if_pos h2]
        have hr := go_run (stp_word d) r 1 (by omega)
        have e : run isL 20 (c :: r) = run isL 19 r + 1 := run_cons h2
        have hle := run_le isL 20 (c :: r)
        refine ⟨by omega, hle.2, by simp only [wr], ?_, rfl, .word, 1 + run isL 19 r, rfl, ?_, ?_⟩
        · refine ⟨?_, ?_, run_all isL 20 (c :: r)⟩
          · rw [List.length_take, Nat.min_eq_left hle.2]; omega
          · rw [List.length_take, Nat.min_eq_left hle.2]; omega
        · rw [go_some hs, e, List.drop_succ_cons]; exact hr.1
        · rw [e, List.drop_succ_cons]; exact hr.2
      · rw [if_neg h2]
        by_cases h3 : c = 48
        · rw [if_pos h3]
          subst h3
          refine ⟨Nat.le_refl _, by simp, by simp only [wr, numS]; rfl, by simp only [Ok]; decide, rfl, .zero, 0, rfl, go_some (by show op d 48 = _; unfold op; rw [if_neg h1', if_neg (by decide), if_pos rfl]), fun c t _ => rfl⟩
        · rw [if_neg h3]
          by_cases h4 : c = 45
          · rw [if_pos h4]
            subst h4
            have hs : stp (.start, d, 0) 45 = some (.minus, d, 0) := by show op d 45 = _; unfold op; rw [if_neg h1', if_pos rfl]
            unfold num1
            by_cases h5 : run isD 200 r = 0 ∨ r.head? = some 48
            · rw [if_pos h5]
              refine ⟨by simp, ?_⟩
              rw [go_some hs]
              show _ = some (r.length + 1 - 1)
              cases r with
              | nil => exact if_neg (fun z => Bool.false_ne_true z.2)
              | cons x t =>
                refine go_none ?_
                show (if isD x = true ∧ x ≠ 48 then _ else none) = none
                refine if_neg fun z => ?_
                rcases h5 with h5 | h5
                · rw [run_cons z.1] at h5; omega
                · exact z.2 (Option.some.inj h5)
            · rw [if_neg h5]
              have h5a : run isD 200 r ≠ 0 := fun z => h5 (.inl z)
              have h5b : r.head? ≠ some 48 := fun z => h5 (.inr z)
              cases r with
              | nil => exact absurd (run_nil _ _) h5a
              | cons x t =>
                have hx : isD x = true := by
                  refine Decidable.byContradiction fun z => h5a ?_
                  show (if isD x = true then _ else 0) = 0
                  rw [if_neg z]
                have hx48 : x ≠ 48 := fun z => h5b (by rw [z]; rfl)
                have e : run isD 200 (x :: t) = run isD 199 t + 1 := run_cons hx
                have hle := run_le isD 200 (x :: t)
                have htake : (x :: t).take (run isD 200 (x :: t)) ≠ [] := by rw [e, List.take_succ_cons]; simp
                have hhead : ((x :: t).take (run isD 200 (x :: t))).head? ≠ some 48 := by rw [e, List.take_succ_cons]; intro z; exact hx48 (Option.some.inj z)
                have hN := num_of (digs 200 (x :: t)) htake hhead (by rw [List.length_take, Nat.min_eq_left hle.2]; exact hle.1)
                have hs2 : stp (.minus, d, 0) x = some (.digits, d, 1) := by
                  show (if isD x = true ∧ x ≠ 48 then _ else none) = _
                  rw [if_pos ⟨hx, hx48⟩]
                have hr := go_run (stp_digits d) t 1 (by omega)
                refine ⟨by omega, by simp only [List.length_cons] at hle ⊢; omega, ?_, ?_, rfl, .digits, 1 + run isD 199 t, rfl, ?_, ?_⟩
                · rw [List.take_succ_cons]
                  simp only [wr, numS]
                  rw [if_pos (by omega), Int.natAbs_neg, Int.natAbs_natCast, hN.1]
                · simp only [Ok]
                  rw [Int.natAbs_neg, Int.natAbs_natCast]
                  exact hN.2.1
                · rw [go_some hs, go_some hs2, e, List.drop_succ_cons, List.drop_succ_cons]; exact hr.1
                · rw [e, List.drop_succ_cons, List.drop_succ_cons]; exact hr.2
          · rw [if_neg h4]
            by_cases h6 : isD c = true
            · rw [if_pos h6]
              have hs : stp (.start, d, 0) c = some (.digits, d, 1) := by
                show op d c = _
                unfold op
                rw [if_neg h1', if_neg h4, if_neg h3, if_pos h6]
              have e : run isD 200 (c :: r) = run isD 199 r + 1 := run_cons h6
              have hle := run_le isD 200 (c :: r)
              have htake : (c :: r).take (run isD 200 (c :: r)) ≠ [] := by rw [e, List.take_succ_cons]; simp
              have hhead : ((c :: r).take (run isD 200 (c :: r))).head? ≠ some 48 := by rw [e, List.take_succ_cons]; intro z; exact h3 (Option.some.inj z)
              have hN := num_of (digs 200 (c :: r)) htake hhead (by rw [List.length_take, Nat.min_eq_left hle.2]; exact hle.1)
              have hr := go_run (stp_digits d) r 1 (by omega)
              refine ⟨by omega, hle.2, ?_, ?_, rfl, .digits, 1 + run isD 199 r, rfl, ?_, ?_⟩
              · simp only [wr, numS]
                rw [if_neg (by omega), Int.natAbs_natCast, hN.1]
              · simp only [Ok]
                rw [Int.natAbs_natCast]
                exact hN.2.1
              · rw [go_some hs, e, List.drop_succ_cons]; exact hr.1
              · rw [e, List.drop_succ_cons]; exact hr.2
            · rw [if_neg h6]
              refine ⟨Nat.zero_le _, go_none ?_⟩
              show op d c = none
              unfold op
              rw [if_neg h1', if_neg h4, if_neg h3, if_neg h6, if_neg h2]
/-! ### the stack of open rows, the innermost first -/
abbrev Stk := List (List Val)
inductive Res where
  | ok (st : Stk) (k : Nat)
  | bad (k : Nat)
def put (st : Stk) (o : Out) (e : Nat) : Res :=
  match o with
  | .push => .ok ([] :: st) (e + 1)
  | .item v k => (match st with
    | top :: r => .ok ((top ++ [v]) :: r) (e + k)
    | [] => .bad 0)
  | .bad k => .bad (e + k)
def nx (st : Stk) (s : List Nat) : Res :=
  match st with
  | top :: q :: rest =>
    if s.head? = some 41 then .ok ((q ++ [.tup top]) :: rest) 1
    else if top.isEmpty = true then put st (vs1 st.length s) 0
    else if s.head? = some 32 then put st (vs1 st.length (s.drop 1)) 1
    else .bad 0
  | _ => .bad 0
def lp (st : Stk) (s : List Nat) : Except Nat (Stk × List Nat) :=
  if st.length ≤ 1 then .ok (st, s) else
  match nx st s with
  | .bad k => .error (s.length - k)
  | .ok st' k => if _h : (s.drop k).length < s.length then lp st' (s.drop k) else .error 0
termination_by s.length
decreasing_by exact _h
def fin (r : Except Nat (Stk × List Nat)) : Except Nat Val :=
  match r with
  | .error n => .error n
  | .ok (st, s) => if s = [] then (match st with | [[v]] => .ok v | _ => .error 0) else .error s.length
theorem fin_nil (v : Val) : fin (.ok ([[v]], [])) = .ok v := by simp [fin]
theorem fin_ne {st : Stk} {s : List Nat} (h : s ≠ []) : fin (.ok (st, s)) = .error s.length := by simp [fin, h]
def parse (t : List Nat) : Except Nat Val :=
  match put [[]] (vs1 1 t) 0 with
  | .bad k => .error (t.length - k)
  | .ok st k => fin (lp st (t.drop k))

def prow (r : List Val) : List Nat := TL.joinL [32] (wrl r)
def sep (r : List Val) : List Nat := if r.isEmpty = true then [] else [32]
def P : Stk → List Nat
  | [] => []
  | [b] => prow b
  | top :: q :: rest => P (q :: rest) ++ sep q ++ 40 :: prow top
theorem joinL_snoc : ∀ (l : List (List Nat)) (p : List Nat), TL.joinL [32] (l ++ [p]) = TL.joinL [32] l ++ (if l.isEmpty = true then [] else [32]) ++ p
  | [], p => by simp [TL.joinL]
  | [a], p => by simp [TL.joinL]
  | a :: b :: r, p => by
    have ih := joinL_snoc (b :: r) p
    show a ++ ([32] ++ TL.joinL [32] ((b :: r) ++ [p])) = a ++ ([32] ++ TL.joinL [32] (b :: r)) ++ _ ++ p
    rw [ih]
    simp
theorem wrl_empty (r : List Val) : (wrl r).isEmpty = r.isEmpty := by cases r <;> simp [wrl]
theorem prow_snoc (r : List Val) (v : Val) : prow (r ++ [v]) = prow r ++ sep r ++ wr v := by
  unfold prow sep
  rw [wrl_app]
  show TL.joinL [32] (wrl r ++ [wr v]) = _
  rw [joinL_snoc, wrl_empty]
theorem P_snoc (q : List Val) (v : Val) (rest : Stk) : P ((q ++ [v]) :: rest) = P (q :: rest) ++ sep q ++ wr v := by
  cases rest with
  | nil => exact prow_snoc q v
  | cons a b =>
    show P (a :: b) ++ sep a ++ 40 :: prow (q ++ [v]) = P (a :: b) ++ sep a ++ 40 :: prow q ++ sep q ++ wr v
    rw [prow_snoc]
    simp
theorem P_push (st : Stk) (top : List Val) (rest : Stk) (e : st = top :: rest) : P ([] :: st) = P st ++ sep top ++ [40] := by
  subst e
  show P (top :: rest) ++ sep top ++ 40 :: prow [] = _
  rfl

def DepOk : Stk → Prop
  | [] => True
  | top :: rest => deps top + rest.length ≤ 100 ∧ Oks top ∧ DepOk rest
structure Inv (t : List Nat) (st : Stk) (s : List Nat) : Prop where
  txt : t = P st ++ s
  aut : ∃ m r, due t = go (m, st.length - 1, r) s ∧ (st.head? = some [] → m = .first) ∧ (st.head? ≠ some [] → acc m = true ∧ Bd (m, st.length - 1, r) s)
  ok : DepOk st
  base : (∃ v, st = [[v]]) ∨ (2 ≤ st.length ∧ st.getLast? = some [])
theorem put_sound {t s : List Nat} {top : List Val} {rest : Stk} (e : Nat) (h1 : t = P (top :: rest) ++ sep top ++ s) (h2 : due t = go (.start, rest.length, 0) s) (h3 : DepOk (top :: rest))
    (h4 : (top :: rest) = [[]] ∨ (2 ≤ (top :: rest).length ∧ (top :: rest).getLast? = some [])) :
    match put (top :: rest) (vs1 (rest.length + 1) s) e with
    | .bad k => ∃ j, k = e + j ∧ j ≤ s.length ∧ due t = some (s.length - j)
    | .ok st' k => ∃ j, k = e + j ∧ 1 ≤ j ∧ j ≤ s.length ∧ Inv t st' (s.drop j) := by
  have hv := vs1_ok rest.length s
  generalize vs1 (rest.length + 1) s = o at hv
  cases o with
  | bad k => exact ⟨k, rfl, hv.1, h2.trans hv.2⟩
  | push =>
    obtain ⟨r, rfl, hd, hg⟩ := hv
    refine ⟨1, rfl, Nat.le_refl _, by simp, ?_⟩
    refine ⟨?_, ⟨.first, 0, ?_, fun _ => rfl, fun z => absurd rfl z⟩, ⟨?_, trivial, h3⟩, .inr ⟨by simp, ?_⟩⟩
    · rw [P_push _ top rest rfl, h1]
      simp
    · rw [h2, hg]
      rfl
    · show 0 + (rest.length + 1) ≤ 100
      omega
    · rcases h4 with h4 | h4
      · rw [h4]; rfl
      · show ([] :: top :: rest).getLast? = some []
        rw [List.getLast?_cons_cons]
        exact h4.2
  | item v k =>
    obtain ⟨k1, k2, k3, k4, k5, m, r, ha, hg, hb⟩ := hv
    refine ⟨k, rfl, k1, k2, ?_⟩
    have hne : ((top ++ [v]) :: rest).head? ≠ some [] := by
      intro z
      have z' : top ++ [v] = [] := Option.some.inj z
      simp at z'
    refine ⟨?_, ⟨m, r, ?_, fun z => absurd z hne, fun _ => ⟨ha, ?_⟩⟩, ⟨?_, ?_, h3.2.2⟩, ?_⟩
    · rw [P_snoc, ← k3, h1]
      simp
    · rw [h2, hg]
      rfl
    · exact hb
    · rw [deps_app]
      have := h3.1
      show max (deps top) (max (dep v) 0) + rest.length ≤ 100
      rw [k5]
      simp only [Nat.max_self, Nat.max_zero]
      exact this
    · rw [Oks_app]
      exact ⟨h3.2.1, k4, trivial⟩
    · rcases h4 with h4 | h4
      · obtain ⟨rfl, rfl⟩ := List.cons.inj h4
        exact .inl ⟨v, rfl⟩
      · refine .inr ⟨h4.1, ?_⟩
        cases rest with
        | nil => simp at h4
        | cons a b =>
          rw [List.getLast?_cons_cons]
          rw [List.getLast?_cons_cons] at h4
          exact h4.2
theorem head_cons {s : List Nat} {c : Nat} (h : s.head? = some c) : ∃ r, s = c :: r := by
  cases s with
  | nil => cases h
  | cons a r => exact ⟨r, by rw [Option.some.inj h]⟩
theorem nx_sound {t s : List Nat} {st : Stk} (I : Inv t st s) (h2 : 2 ≤ st.length) :
    match nx st s with
    | .bad k => k ≤ s.length ∧ due t = some (s.length - k)
    | .ok st' k => 1 ≤ k ∧ k ≤ s.length ∧ Inv t st' (s.drop k) := by
  cases st with
  | nil => simp at h2
  | cons top rest =>
  cases rest with
  | nil => simp at h2
  | cons q rest =>
  obtain ⟨htxt, ⟨m, r, hg, hm1, hm2⟩, hok, hbase⟩ := I
  have hb2 : (top :: q :: rest).getLast? = some [] := by
    rcases hbase with ⟨v, hv⟩ | hb
    · simp at hv
    · exact hb.2
  have hlen : (top :: q :: rest).length - 1 = rest.length + 1 := by simp
  rw [hlen] at hg hm2
  simp only [nx]
  by_cases h41 : s.head? = some 41
  · rw [if_pos h41]
    obtain ⟨s', rfl⟩ := head_cons h41
    refine ⟨Nat.le_refl _, by simp, ?_⟩
    have hstep : stp (m, rest.length + 1, r) 41 = some (.after, rest.length, 0) := by
      by_cases ht : top = []
      · rw [hm1 (by rw [ht]; rfl)]
        rfl
      · have := (hm2 (by intro z; exact ht (Option.some.inj z))).2 41 s' rfl
        rw [this]
        rfl
    have hne : ((q ++ [Val.tup top]) :: rest).head? ≠ some [] := by
      intro z
      have z' : q ++ [Val.tup top] = [] := Option.some.inj z
      simp at z'
    refine ⟨?_, ⟨.after, 0, ?_, fun z => absurd z hne, fun _ => ⟨rfl, fun c t e => rfl⟩⟩, ⟨?_, ?_, hok.2.2.2.2⟩, ?_⟩
    · rw [P_snoc, htxt]
      show P (q :: rest) ++ sep q ++ 40 :: prow top ++ 41 :: s' = P (q :: rest) ++ sep q ++ wr (.tup top) ++ s'
      simp only [wr, prow]
      simp
    · rw [hg, go_some hstep]
      rfl
    · have h1 := hok.1
      have h3 := hok.2.2.1
      simp only [List.length_cons] at h1
      rw [deps_app]
      show max (deps q) (max (1 + deps top) 0) + rest.length ≤ 100
      rw [Nat.max_zero]
      rcases Nat.le_total (deps q) (1 + deps top) with h | h
      · rw [Nat.max_eq_right h]; omega
      · rw [Nat.max_eq_left h]; omega
    · rw [Oks_app]
      exact ⟨hok.2.2.2.1, hok.2.1, trivial⟩
    · cases rest with
      | nil =>
        left
        have : q = [] := by
          rw [List.getLast?_cons_cons] at hb2
          exact Option.some.inj hb2
        subst this
        exact ⟨_, rfl⟩
      | cons a b =>
        right
        refine ⟨by simp, ?_⟩
        rw [List.getLast?_cons_cons, List.getLast?_cons_cons] at hb2
        rw [List.getLast?_cons_cons]
        exact hb2
  · rw [if_neg h41]
    by_cases ht : top.isEmpty = true
    · rw [if_pos ht]
      have ht' : top = [] := List.isEmpty_iff.mp ht
      have hput := put_sound (t := t) (s := s) (top := top) (rest := q :: rest) 0 (by rw [htxt]; unfold sep; rw [if_pos ht]; simp)
        (by rw [hg, hm1 (by rw [ht']; rfl), go_first h41]; rfl) hok (.inr ⟨by simp, hb2⟩)
      show match put (top :: q :: rest) (vs1 ((q :: rest).length + 1) s) 0 with | .bad k => _ | .ok st' k => _
      generalize put (top :: q :: rest) (vs1 ((q :: rest).length + 1) s) 0 = o at hput
      cases o with
      | bad k =>
        obtain ⟨j, e, h1, h2⟩ := hput
        have : k = j := by omega
        subst this
        exact ⟨h1, h2⟩
      | ok st' k =>
        obtain ⟨j, e, h1, h2, h3⟩ := hput
        have : k = j := by omega
        subst this
        exact ⟨h1, h2, h3⟩
    · rw [if_neg ht]
      have hne : (top :: q :: rest).head? ≠ some [] := by
        intro z
        have z' : top = [] := Option.some.inj z
        exact ht (by rw [z']; rfl)
      obtain ⟨hacc, hbd⟩ := hm2 hne
      by_cases h32 : s.head? = some 32
      · rw [if_pos h32]
        obtain ⟨s', rfl⟩ := head_cons h32
        have hstep : stp (m, rest.length + 1, r) 32 = some (.start, rest.length + 1, 0) := by
          rw [hbd 32 s' rfl]
          rfl
        have hput := put_sound (t := t) (s := s') (top := top) (rest := q :: rest) 1 (by rw [htxt]; unfold sep; rw [if_neg ht]; simp)
          (by rw [hg, go_some hstep]; rfl) hok (.inr ⟨by simp, hb2⟩)
        show match put (top :: q :: rest) (vs1 ((q :: rest).length + 1) s') 1 with | .bad k => _ | .ok st' k => _
        generalize put (top :: q :: rest) (vs1 ((q :: rest).length + 1) s') 1 = o at hput
        cases o with
        | bad k =>
          obtain ⟨j, e, h1, h2⟩ := hput
          subst e
          refine ⟨by simp only [List.length_cons]; omega, ?_⟩
          rw [h2]
          congr 1
          simp only [List.length_cons]
          omega
        | ok st' k =>
          obtain ⟨j, e, h1, h2, h3⟩ := hput
          subst e
          refine ⟨by omega, by simp only [List.length_cons]; omega, ?_⟩
          rw [show 1 + j = j + 1 by omega, List.drop_succ_cons]
          exact h3
      · rw [if_neg h32]
        refine ⟨Nat.zero_le _, ?_⟩
        rw [hg]
        cases s with
        | nil => exact if_neg (fun z => absurd z.1 (by simp))
        | cons c s' =>
          refine go_none ?_
          rw [hbd c s' rfl]
          have hc32 : c ≠ 32 := fun z => h32 (by rw [z]; rfl)
          have hc41 : c ≠ 41 := fun z => h41 (by rw [z]; rfl)
          unfold tl1
          rw [if_neg (fun z => hc32 z.1), if_neg (fun z => hc41 z.1)]
theorem lp_stop {st : Stk} {s : List Nat} (h : st.length ≤ 1) : lp st s = .ok (st, s) := by
  rw [lp, if_pos h]
theorem lp_bad {st : Stk} {s : List Nat} {k : Nat} (h : 2 ≤ st.length) (e : nx st s = .bad k) : lp st s = .error (s.length - k) := by
  rw [lp, if_neg (by omega), e]
theorem lp_ok {st st' : Stk} {s : List Nat} {k : Nat} (h : 2 ≤ st.length) (e : nx st s = .ok st' k) (h1 : 1 ≤ k) (h2 : k ≤ s.length) : lp st s = lp st' (s.drop k) := by
  rw [lp, if_neg (by omega), e]
  exact dif_pos (by rw [List.length_drop]; omega)
theorem lp_sound {t : List Nat} : ∀ (n : Nat) (s : List Nat) (st : Stk), s.length ≤ n → Inv t st s →
    match lp st s with
    | .error e => due t = some e
    | .ok (st', s') => st'.length ≤ 1 ∧ Inv t st' s' := by
  intro n
  induction n with
  | zero =>
    intro s st hn I
    by_cases h : st.length ≤ 1
    · rw [lp_stop h]; exact ⟨h, I⟩
    · have hx := nx_sound I (by omega)
      cases e : nx st s with
      | bad k => rw [e] at hx; rw [lp_bad (by omega) e]; exact hx.2
      | ok st' k =>
        rw [e] at hx
        obtain ⟨a, b, _⟩ := hx
        omega
  | succ n ih =>
    intro s st hn I
    by_cases h : st.length ≤ 1
    · rw [lp_stop h]; exact ⟨h, I⟩
    · have hx := nx_sound I (by omega)
      cases e : nx st s with
      | bad k => rw [e] at hx; rw [lp_bad (by omega) e]; exact hx.2
      | ok st' k =>
        rw [e] at hx
        obtain ⟨a, b, J⟩ := hx
        rw [lp_ok (by omega) e a b]
        exact ih _ _ (by rw [List.length_drop]; omega) J
/-- what is read is right, what is refused is refused where it is due -/
theorem parse_sound (t : List Nat) : match parse t with
    | .error e => due t = some e ∧ e ≤ t.length
    | .ok v => due t = none ∧ wr v = t ∧ Ok v ∧ dep v ≤ 100 := by
  have bound : ∀ (s : List Nat) (st : St) e, go st s = some e → e ≤ s.length := by
    intro s
    induction s with
    | nil =>
      intro st e h
      have h' : (if _ then none else some 0) = some e := h
      split at h'
      · cases h'
      · rw [← Option.some.inj h']; exact Nat.zero_le _
    | cons c r ih =>
      intro st e h
      cases hs : stp st c with
      | none => rw [go_none hs] at h; rw [← Option.some.inj h]; exact Nat.le_refl _
      | some st' => rw [go_some hs] at h; exact Nat.le_succ_of_le (ih _ _ h)
  have hput := put_sound (t := t) (s := t) (top := []) (rest := []) 0 rfl rfl ⟨Nat.zero_le _, trivial, trivial⟩ (.inl rfl)
  unfold parse
  show match (match put [[]] (vs1 (([] : Stk).length + 1) t) 0 with | .bad k => Except.error (t.length - k) | .ok st k => fin (lp st (t.drop k))) with | .error e => _ | .ok v => _
  generalize put [[]] (vs1 (([] : Stk).length + 1) t) 0 = o at hput
  cases o with
  | bad k =>
    obtain ⟨j, e, h1, h2⟩ := hput
    have : k = j := by omega
    subst this
    exact ⟨h2, Nat.sub_le _ _⟩
  | ok st k =>
    obtain ⟨j, e, h1, h2, I⟩ := hput
    have : k = j := by omega
    subst this
    have hl := lp_sound _ _ _ (Nat.le_refl _) I
    show match fin (lp st (t.drop k)) with | .error e => _ | .ok v => _
    generalize lp st (t.drop k) = o at hl
    cases o with
    | error e => exact ⟨hl, bound _ _ _ hl⟩
    | ok p =>
      obtain ⟨st', s'⟩ := p
      obtain ⟨hlen, htxt, ⟨m, r, hg, hm1, hm2⟩, hok, hbase⟩ := hl
      rcases hbase with ⟨v, rfl⟩ | hb
      · obtain ⟨hacc, hbd⟩ := hm2 (by intro z; cases z)
        have ht : t = wr v ++ s' := htxt
        by_cases hs : s' = []
        · subst hs
          rw [fin_nil]
          refine ⟨?_, by rw [ht, List.append_nil], hok.2.1.1, ?_⟩
          · rw [hg]
            exact if_pos ⟨rfl, hacc⟩
          · have := hok.1
            have e : deps [v] = max (dep v) 0 := rfl
            rw [e, Nat.max_zero] at this
            exact this
        · rw [fin_ne hs]
          have hd : due t = some s'.length := by
            rw [hg]
            cases s' with
            | nil => exact absurd rfl hs
            | cons c s'' =>
              refine go_none ?_
              rw [hbd c s'' rfl]
              unfold tl1
              rw [if_neg (fun z => absurd z.2 (Nat.lt_irrefl 0)), if_neg (fun z => absurd z.2 (Nat.lt_irrefl 0))]
          exact ⟨hd, bound _ _ _ hd⟩
      · omega

/-! ### what is written is read back -/
def ev (st : Stk) (s : List Nat) : Except Nat (Stk × List Nat) :=
  match put st (vs1 st.length s) 0 with
  | .bad k => .error (s.length - k)
  | .ok st' k => lp st' (s.drop k)
theorem lp_ev {top q : List Val} {rest : Stk} {s : List Nat} (h1 : s.head? ≠ some 41) (h2 : top.isEmpty = true) : lp (top :: q :: rest) s = ev (top :: q :: rest) s := by
  have e : nx (top :: q :: rest) s = put (top :: q :: rest) (vs1 (top :: q :: rest).length s) 0 := by
    simp only [nx]; rw [if_neg h1, if_pos h2]
  have hv := vs1_ok (q :: rest).length s
  unfold ev
  cases ho : vs1 (top :: q :: rest).length s with
  | bad k => rw [ho] at e; rw [lp_bad (by simp) e]; rfl
  | push =>
    rw [ho] at e
    have hv' : VsP (q :: rest).length s .push := by rw [← ho]; exact hv
    obtain ⟨r, rfl, _⟩ := hv'
    rw [lp_ok (by simp) e (by omega) (by simp)]
    rfl
  | item v k =>
    rw [ho] at e
    have hv' : VsP (q :: rest).length s (.item v k) := by rw [← ho]; exact hv
    obtain ⟨k1, k2, _⟩ := hv'
    rw [lp_ok (by simp) e (by omega) (by omega)]
    rfl
theorem lp_ev32 {top q : List Val} {rest : Stk} {s : List Nat} (h2 : ¬ top.isEmpty = true) : lp (top :: q :: rest) (32 :: s) = ev (top :: q :: rest) s := by
  have e : nx (top :: q :: rest) (32 :: s) = put (top :: q :: rest) (vs1 (top :: q :: rest).length s) 1 := by
    simp only [nx]; rw [if_neg (by simp), if_neg h2]; exact if_pos rfl
  have hv := vs1_ok (q :: rest).length s
  unfold ev
  cases ho : vs1 (top :: q :: rest).length s with
  | bad k =>
    rw [ho] at e
    rw [lp_bad (by simp) e]
    show Except.error (s.length + 1 - (1 + k)) = Except.error (s.length - (0 + k))
    congr 1
    omega
  | push =>
    rw [ho] at e
    have hv' : VsP (q :: rest).length s .push := by rw [← ho]; exact hv
    obtain ⟨r, rfl, _⟩ := hv'
    rw [lp_ok (by simp) e (by omega) (by simp)]
    rfl
  | item v k =>
    rw [ho] at e
    have hv' : VsP (q :: rest).length s (.item v k) := by rw [← ho]; exact hv
    obtain ⟨k1, k2, _⟩ := hv'
    rw [lp_ok (by simp) e (by omega) (by simp only [List.length_cons]; omega)]
    show lp _ ((32 :: s).drop (1 + k)) = lp _ (s.drop (0 + k))
    rw [show 1 + k = k + 1 by omega, List.drop_succ_cons, Nat.zero_add]
def Bdy (s : List Nat) : Prop := ∀ c r, s = c :: r → c = 32 ∨ c = 41
theorem Bdy.L {s : List Nat} (h : Bdy s) : ∀ c r, s = c :: r → isL c = false := fun c r e => by
  rcases h c r e with rfl | rfl <;> rfl
theorem Bdy.D {s : List Nat} (h : Bdy s) : ∀ c r, s = c :: r → isD c = false := fun c r e => by
  rcases h c r e with rfl | rfl <;> rfl
theorem isD_numL (m : Nat) : ∀ c ∈ numL m, isD c = true := fun c hc => isD_iff.mpr (TL.numL_digits m c hc)
theorem vs1_num (n : Nat) (i : Int) (s : List Nat) (hi : i.natAbs < 10 ^ 200) (hb : Bdy s) : vs1 n (wr (.num i) ++ s) = .item (.num i) (wr (.num i)).length := by
  simp only [wr, numS]
  have hlen : (numL i.natAbs).length ≤ 200 := TL.numL_len (by decide) hi
  have hrun := run_app isD (numL i.natAbs) s 200 hlen (isD_numL _) hb.D
  by_cases h0 : i < 0
  · rw [if_pos h0]
    obtain ⟨c, r, hc, c1, c2⟩ := numL_head (n := i.natAbs) (by omega)
    show vs1 n (45 :: (numL i.natAbs ++ s)) = _
    have hn : num1 (numL i.natAbs ++ s) = some (numL i.natAbs).length := by
      unfold num1
      rw [hrun, hc]
      refine if_neg fun z => ?_
      rcases z with z | z
      · simp at z
      · have := Option.some.inj z
        omega
    simp only [vs1]
    rw [if_neg (by omega), if_neg (by decide), if_neg (by decide), if_pos trivial, hn]
    show Out.item _ _ = _
    rw [List.take_left, TL.numL_val]
    congr 1
    congr 1
    omega
  · rw [if_neg h0]
    by_cases hz : i = 0
    · subst hz
      have e : numL (Int.natAbs 0) = [48] := TL.numL_lt (by decide)
      rw [e]
      show vs1 n (48 :: s) = _
      simp only [vs1]
      rw [if_neg (by omega), if_neg (by decide), if_pos trivial]
      rfl
    · obtain ⟨c, r, hc, c1, c2⟩ := numL_head (n := i.natAbs) (by omega)
      have e2 : vs1 n (numL i.natAbs ++ s) = .item (.num ((digitsVal ((numL i.natAbs ++ s).take (run isD 200 (numL i.natAbs ++ s))) : Nat) : Int)) (run isD 200 (numL i.natAbs ++ s)) := by
        rw [hc]
        show vs1 n (c :: (r ++ s)) = _
        simp only [vs1]
        rw [if_neg (by omega), if_neg (by rw [isL_iff]; omega), if_neg (by omega), if_neg (by omega), if_pos (isD_iff.mpr ⟨by omega, c2⟩)]
        rfl
      rw [e2, hrun, List.take_left, TL.numL_val]
      congr 1
      congr 1
      omega
theorem vs1_word (n : Nat) (w s : List Nat) (h : Ok (.word w)) (hb : Bdy s) : vs1 n (wr (.word w) ++ s) = .item (.word w) (wr (.word w)).length := by
  simp only [Ok] at h
  simp only [wr]
  have hrun := run_app isL w s 20 h.2.1 h.2.2 hb.L
  cases w with
  | nil => simp at h
  | cons c r =>
    have hc := h.2.2 c List.mem_cons_self
    obtain ⟨n1, _⟩ := not_LD hc
    show vs1 n (c :: (r ++ s)) = _
    simp only [vs1]
    rw [if_neg (fun z => n1 z.1), if_pos hc]
    have hr : run isL 20 (c :: (r ++ s)) = (c :: r).length := hrun
    rw [hr]
    show Out.item (.word ((c :: r ++ s).take (c :: r).length)) _ = _
    rw [List.take_left]
theorem wr_head {v : Val} (h : Ok v) : ∃ c r, wr v = c :: r ∧ c ≠ 41 ∧ c ≠ 32 := by
  cases v with
  | num n =>
    simp only [wr, numS]
    by_cases h0 : n < 0
    · rw [if_pos h0]; exact ⟨45, _, rfl, by decide, by decide⟩
    · rw [if_neg h0]
      cases e : numL n.natAbs with
      | nil => exact absurd e (TL.numL_ne _)
      | cons c r =>
        have := TL.numL_digits n.natAbs c (by rw [e]; exact List.mem_cons_self)
        exact ⟨c, r, rfl, by omega, by omega⟩
  | word w =>
    simp only [Ok] at h
    cases w with
    | nil => simp at h
    | cons c r =>
      have := isL_iff.mp (h.2.2 c List.mem_cons_self)
      exact ⟨c, r, by simp only [wr], by omega, by omega⟩
  | tup vs => exact ⟨40, TL.joinL [32] (wrl vs) ++ [41], by simp only [wr], by decide, by decide⟩
def tt (accu vs : List Val) : List Nat := match vs with
  | [] => []
  | _ => sep accu ++ prow vs
theorem prow_cons (v : Val) (r accu : List Val) : prow (v :: r) = wr v ++ tt (accu ++ [v]) r := by
  cases r with
  | nil =>
    show TL.joinL [32] [wr v] = wr v ++ []
    rw [List.append_nil]
    rfl
  | cons a b =>
    show TL.joinL [32] (wr v :: wr a :: wrl b) = wr v ++ (sep (accu ++ [v]) ++ prow (a :: b))
    have e : sep (accu ++ [v]) = [32] := if_neg (by simp)
    rw [e]
    rfl
theorem tt_bdy (accu r : List Val) (s : List Nat) : Bdy (tt (accu ++ [v]) r ++ 41 :: s) := by
  intro c x e
  cases r with
  | nil =>
    have e' : 41 :: s = c :: x := e
    exact .inr (List.cons.inj e').1.symm
  | cons a b =>
    have es : sep (accu ++ [v]) = [32] := if_neg (by simp)
    have e' : (sep (accu ++ [v]) ++ prow (a :: b)) ++ 41 :: s = c :: x := e
    rw [es] at e'
    exact .inl (List.cons.inj e').1.symm
mutual
theorem cl : ∀ (v : Val), Ok v → ∀ (top : List Val) (rest : Stk) (s : List Nat), Bdy s → dep v + rest.length ≤ 100 → ev (top :: rest) (wr v ++ s) = lp ((top ++ [v]) :: rest) s
  | .num n, h, top, rest, s, hb, hd => by
    simp only [Ok] at h
    unfold ev
    rw [vs1_num _ n s h hb]
    show lp _ ((wr (.num n) ++ s).drop (0 + _)) = _
    rw [Nat.zero_add, List.drop_left]
  | .word w, h, top, rest, s, hb, hd => by
    unfold ev
    rw [vs1_word _ w s h hb]
    show lp _ ((wr (.word w) ++ s).drop (0 + _)) = _
    rw [Nat.zero_add, List.drop_left]
  | .tup vs, h, top, rest, s, hb, hd => by
    simp only [Ok] at h
    simp only [dep] at hd
    have ih := cls vs h [] top rest s (by omega)
    have e : wr (.tup vs) ++ s = 40 :: (tt [] vs ++ 41 :: s) := by
      simp only [wr]
      cases vs with
      | nil => rfl
      | cons a b =>
        show 40 :: (TL.joinL [32] (wrl (a :: b)) ++ [41]) ++ s = 40 :: ((sep [] ++ prow (a :: b)) ++ 41 :: s)
        show 40 :: ((TL.joinL [32] (wrl (a :: b)) ++ [41]) ++ s) = 40 :: (prow (a :: b) ++ 41 :: s)
        rw [List.append_assoc]
        rfl
    rw [e]
    unfold ev
    have e2 : vs1 (top :: rest).length (40 :: (tt [] vs ++ 41 :: s)) = .push := by
      simp only [vs1]
      exact if_pos ⟨trivial, by simp only [List.length_cons]; omega⟩
    rw [e2]
    show lp ([] :: top :: rest) (tt [] vs ++ 41 :: s) = _
    rw [ih]
    rfl
theorem cls : ∀ (vs : List Val), Oks vs → ∀ (accu top : List Val) (rest : Stk) (s : List Nat), deps vs + rest.length ≤ 99 → lp (accu :: top :: rest) (tt accu vs ++ 41 :: s) = lp ((top ++ [.tup (accu ++ vs)]) :: rest) s
  | [], h, accu, top, rest, s, hd => by
    show lp (accu :: top :: rest) (41 :: s) = _
    have e : nx (accu :: top :: rest) (41 :: s) = .ok ((top ++ [.tup accu]) :: rest) 1 := by
      simp only [nx]; exact if_pos rfl
    rw [lp_ok (by simp) e (Nat.le_refl _) (by simp), List.append_nil]
    rfl
  | v :: r, h, accu, top, rest, s, hd => by
    simp only [Oks] at h
    simp only [deps] at hd
    have ih1 := cl v h.1 accu (top :: rest) (tt (accu ++ [v]) r ++ 41 :: s) (tt_bdy accu r s) (by simp only [List.length_cons]; omega)
    have ih2 := cls r h.2 (accu ++ [v]) top rest s (by omega)
    obtain ⟨c, x, hc, c41, c32⟩ := wr_head h.1
    show lp (accu :: top :: rest) ((sep accu ++ prow (v :: r)) ++ 41 :: s) = _
    rw [prow_cons v r accu]
    have e3 : accu ++ v :: r = accu ++ [v] ++ r := by simp
    rw [e3, ← ih2, ← ih1]
    by_cases ha : accu.isEmpty = true
    · have es : sep accu = [] := if_pos ha
      rw [es, List.nil_append, List.append_assoc]
      exact lp_ev (by rw [hc]; intro z; exact c41 (Option.some.inj z)) ha
    · have es : sep accu = [32] := if_neg ha
      rw [es, List.append_assoc, List.append_assoc]
      exact lp_ev32 ha
end
theorem parse_back {v : Val} (h : Ok v) (hd : dep v ≤ 100) : parse (wr v) = .ok v := by
  have e := cl v h [] [] [] (fun c r e => by cases e) (by simpa using hd)
  rw [List.append_nil, lp_stop (by simp)] at e
  unfold ev at e
  unfold parse
  have e' : (match put [[]] (vs1 1 (wr v)) 0 with | .bad k => Except.error ((wr v).length - k) | .ok st' k => lp st' ((wr v).drop k)) = Except.ok ([[v]], []) := e
  generalize put [[]] (vs1 1 (wr v)) 0 = o at e'
  cases o with
  | bad k => cases e'
  | ok st k =>
    have e2 : lp st ((wr v).drop k) = Except.ok ([[v]], []) := e'
    show fin (lp st ((wr v).drop k)) = _
    rw [e2]
    simp [fin]
end Kz
/-! KzExc -/
set_option Elab.async false
set_option linter.all false
set_option maxRecDepth 100000
set_option maxHeartbeats 2000000
namespace KzX
open PySem PySem.W PySem.Calls PyProof.Rows PySem.HandSPX
/-! an error of one field, whose __init__ says super().__init__('..'); self.f = f -/
def xA (f : Str) (p1 p2 : Pos) : Arguments where
  posonlyargs := []
  args := [⟨"self", none, p1⟩, ⟨f, none, p2⟩]
  vararg := none
  kwonlyargs := []
  kw_defaults := []
  kwarg := none
  defaults := []
/-- the places of super().__init__ and of its call: in one line -/
abbrev qa3 : Pos := ⟨12, 8, 12, 24⟩
abbrev qa5 : Pos := ⟨12, 8, 12, 69⟩
def xB (f m : Str) (a1 a2 a4 a6 b1 b2 b3 b4 : Pos) : List Stmt :=
  [.Expr (.Call (.Attribute (.Call (.Name "super" a1) [] [] a2) "__init__" qa3) [.Constant (.str m) 0 a4] [] qa5) a6,
   .Assign [.Attribute (.Name "self" b1) f b2] (.Name f b3) b4]
def xS (f : Str) : Scope where
  kind := .function
  names := [("self", .local), (f, .local), ("__class__", .free), ("super", .globalImplicit)]
  isGenerator := false
  isCoroutine := false
  more := []
/-- what the written part says of such a class, its name nm, its field f -/
structure XT (prog : Program) (K : Frag) (mg : Str → Option Value) (nm f : Str) (C fI cc : Addr) : Prop where
  gC : mg nm = some (.ref C)
  gS : mg "super" = none
  cls : ∃ n2 q N bs bm sn sub ab col dd k0 k1 k2 k3 k5, K.lookup C = some (excClassObj n2 q C N bs bm true sn sub ab col dd k0 k1 k2 k3 k5 "ValueError.__new__") ∧ refsVE bm = true
  sa : findIn K (.ref C) "__setattr__" = some (some (.builtin "object.__setattr__"))
  ga : findIn K (.ref C) "__getattribute__" = some (some (.builtin "BaseException.__getattribute__"))
  gg : findIn K (.ref C) "__getattr__" = some none
  noF : findIn K (.ref C) f = some none
  iC : findIn K (.ref C) "__init__" = some (some (.ref fI))
  tI : typeIn K (.ref fI) = some (.type "function")
  kC : keepIn K (.ref C) = true
  exC : subIn K (.ref C) (.type "BaseException") = some true
  veC : subIn K (.ref C) (.type "ValueError") = some true
  tyC : typeIn K (.ref C) = some (.type "type")
  hdC : hasDictIn K C = true
  mrC : mroIn K C (.ref C) = some true
  suC : ks_superIn K C C "__init__" = some (some (.builtin "ValueError.__init__"))
  opq : nsIn K cStatics "thirdparty.any" = some none
  top : (prog.main.scope.names.lookup ("super" : Str)).isSome = false
  fn : ∃ (oc : Value) (od : Option Addr) (doc pm ct : Value) (an : Option Addr) (osl : Array (Option Value)) (cda : Addr) (m q : Str) (p1 p2 a1 a2 a4 a6 b1 b2 b3 b4 : Pos),
    K.lookup fI = some ⟨oc, od, .func (ksFn "__init__" q (xA f p1 p2) (xB f m a1 a2 a4 a6 b1 b2 b3 b4) (xS f) .none .none doc pm an (.ref cda) ct cc), osl⟩ ∧ codeIn K (.ref cda) q = true ∧
      ∃ ccl cdd vs ccs file tf, K.lookup cda = some ⟨ccl, cdd, .fields vs, ccs⟩ ∧ vs[2]? = some (.str file tf) ∧ ((prog.main.file : Str) == file) = true
  cell : ∃ cl cld csl, K.lookup cc = some ⟨cl, cld, .cell (some (.ref C)), csl⟩
/-- what __init__ leaves of a fresh exception at x -/
structure XEnd (f : Str) (h h' : Heap) (x C dx : Addr) (v : Value) : Prop where
  keep : ∀ b o, b ≠ x → h.get? b = some o → h'.get? b = some o
  obj : ∃ t1 : Addr, h'.get? x = some { cls := .ref C, dict := some dx, data := .fields #[.ref t1, .none, .none, .none, .bool false, .none] }
  dbig : h.objs.size ≤ dx
  dne : dx ≠ x
  ns : h'.Ns1 dx (fun y => if y = f then some v else none)
/-- the error made -/
structure XMade (f : Str) (h h' : Heap) (e C d : Addr) (v : Value) : Prop where
  keep : ∀ b o, h.get? b = some o → h'.get? b = some o
  new : h.objs.size ≤ e
  obj : ∃ oe vs, h'.get? e = some oe ∧ oe.cls = .ref C ∧ oe.dict = some d ∧ oe.data = .fields vs ∧ vs[1]? = some .none
  dbig : h.objs.size ≤ d
  dne : d ≠ e
  ns : h'.Ns1 d (fun y => if y = f then some v else none)
section
variable {prog : Program} {w : World} {A : Around} {E : Value → Shared → Prop} {R : Result → Shared → Prop} {s : Shared} {K : Frag} {mg : Str → Option Value} {C fI cc : Addr} {nm f : Str}
/-- the wrapper of ValueError.__init__ bound to the exception x, called with some arguments -/
theorem x_bound {hh : Heap} {g : Array GenState} {d : Drawn} {tk : Nat} {os : OsState} {u x t0 : Addr} {rest : List Value} {Q : Value → Shared → Prop} (T : XT prog K mg nm f C fI cc) (X : K.In hh) (hu : hh.get? u = some (kxs_mw "ValueError.__init__" x))
    (hx : hh.get? x = some (excO C t0)) (hz : rest.length ≤ sizeLine)
    (hq : ∀ h' t1, (∀ b o, b ≠ x → hh.get? b = some o → h'.get? b = some o) → h'.get? x = some (excO C t1) → Q .none ⟨h', g, d, tk, os⟩) :
    wpAny (model prog w) A (call (.ref u) rest) Q E ⟨hh, g, d, tk, os⟩ := by
  obtain ⟨n2, q, N, bs, bm, sn, sub, ab, col, dd, k0, k1, k2, k3, k5, hC, hbm⟩ := T.cls
  refine wpAny_call (codeAny_of_tree ?_)
  show wpAny _ A.in1 (callAny (.ref u) ⟨rest, []⟩) _ _ _
  unfold callAny
  refine wpAny_bind (wpAny_load hu ?_)
  have e1 : (Value.type "method-wrapper" == Value.type "method" || Value.type "method-wrapper" == Value.type "builtin_function_or_method" || Value.type "method-wrapper" == Value.type "method-wrapper") = true := by decide
  simp only [kxs_mw, e1, if_true]
  refine KFB.if_so (by decide) (wpAny_bind (check_bound_init F.excBase_ValueError.toExcCallFacts (X _ _ hC) hx rfl ?_))
  refine wpAny_bind (wpAny_pure (wpAny_pure ⟨plainId_quiet F.excBase_ValueError.init.plain _, codeAny_builtin F.excBase_ValueError.initEntry ?_⟩))
  exact exc_init_tree (cls := .ref C) (t0 := t0) (dv := none) (c2 := .none) (c3 := .none) (b4 := .bool false) hx hz fun h' k e1 _ => hq h' _ k e1
theorem x_init (T : XT prog K mg nm "at" C fI cc) {x t0 : Addr} {v : Value} (X : K.In s.heap) (hlim : s.heap.NoLimit) (hG : s.heap.Ns mainGlobals mg) (hB : ∃ mb, s.heap.Ns builtinsNs mb ∧ ∀ y : Str, y ≠ "__name__" → mb y = bootBuiltins y)
    (hx : s.heap.get? x = some (excO C t0)) (hnx : K.lookup x = none) (hroom : A.depth < recursionLimit)
    (hq : ∀ h' tk dx, XEnd "at" s.heap h' x C dx v → R (.ok (.ret .none)) { s with heap := h', toks := tk }) :
    codeAny (model prog w) A (.call (.ref fI) ⟨[.ref x, v], []⟩) R s := by
  obtain ⟨oc, od, doc, pm, ct, an, osl, cda, m, q, p1, p2, a1, a2, a4, a6, b1, b2, b3, b4, ho, hcd, ccl, cdd, vs, ccs, file, tf, hcda, hvs, hfile⟩ := T.fn
  obtain ⟨cl, cld, csl, hcell⟩ := T.cell
  obtain ⟨n2, q2, N, bs, bm, sn, sub, ab, col, dd, k0, k1, k2, k3, k5, hC, hbm⟩ := T.cls
  have hcl : clsIn K C = some { name := n2, bases := bs, mro := .ref C :: bm, ns := N, qualname := q2, hasDict := true, slotNames := sn, subclasses := sub, abstract := ab, collection := col, hasDel := false } := by unfold clsIn; rw [hC] <;> rfl
  refine ks_codeAny_call_defAt (fd := ksFn "__init__" q (xA "at" p1 p2) (xB "at" m a1 a2 a4 a6 b1 b2 b3 b4) (xS "at") .none .none doc pm an (.ref cda) ct cc) (body := xB "at" m a1 a2 a4 a6 b1 b2 b3 b4) (binds := [("self", .ref x), ("at", v)])
    hroom (X _ _ ho) rfl hlim (codeRec_of X hcd) rfl (BindsTo.of_eq (by first | rfl | with_unfolding_all rfl)) ?c1 ?c2 (fun h₁ hn k => ?_) rfl rfl rfl
  case c1 =>
    intro y hy
    rcases hy with _ | ⟨_, _ | ⟨_, _ | ⟨_, _ | ⟨_, hy⟩⟩⟩⟩ <;> first | decide | (intro z; cases z) | (cases hy)
  case c2 =>
    intro y hy
    rcases hy with _ | ⟨_, _ | ⟨_, hy⟩⟩
    · rfl
    · rfl
    · cases hy
  have X₁ : K.In h₁ := X.keeps k
  have hx₁ := k _ _ hx
  have hLx : s.heap.objs.size ≠ x := Nat.ne_of_gt (Heap.lt_size hx)
  -- super().__init__(..)
  have hG₁ : h₁.Ns mainGlobals mg := hG.keeps k
  obtain ⟨mb, hB0, hmb⟩ := hB
  have hB₁ : h₁.Ns builtinsNs mb := hB0.keeps k
  obtain ⟨oD, hD1, hD2⟩ : ∃ oD, h₁.get? C = some oD ∧ ∃ cd, oD.data = .cls cd := ⟨_, X₁ _ _ hC, _, rfl⟩
  obtain ⟨cdD, hD2⟩ := hD2
  have hxC : x ≠ C := by
    intro z
    have y := X _ _ hC
    rw [← z, hx] at y
    cases y
  obtain ⟨g0, gs, dr, tk0, os0⟩ := s
  refine ks_wpAt_execs_cons (ks_wpAt_Expr_any (ks_wpAt_MethodCall ?_))
  refine ks_wpAt_super_base (f := fI) (cc := cda) (ar := ⟨"self", none, p1⟩) (vs := vs) rfl rfl rfl rfl (X₁ _ _ ho) rfl rfl rfl (X₁ _ _ hcda) rfl hvs hfile T.top ?_
  refine ks_loadName_global rfl rfl (loadGlobal_builtin hG₁ T.gS hB₁ ((hmb "super" (by decide)).trans PyProof.Rows.Boot.«super») ⟨rfl, ?_⟩)
  refine wpAny_loadName_free rfl rfl rfl ⟨_, X₁ _ _ hcell, rfl⟩ ?_
  refine wpAny_loadName_local rfl rfl hn rfl ?_
  refine ks_wpAny_isType_cls hD1 hD2 ⟨rfl, ?_⟩
  refine ks_wpAny_call_super hD1 hD2 hx₁ rfl (fun c e => by cases e) (looks_mroIn X₁ T.mrC) (fun h₂ hso k₂ => ?_)
  have X₂ : K.In h₂ := X₁.keeps k₂
  have hsu := T.suC
  unfold ks_superIn at hsu
  rw [hcl] at hsu
  have I₂ : InstAt h₂ x (excO C t0) C none := ⟨k₂ _ _ hx₁, rfl, rfl, trivial⟩
  refine kxs_getMethod kxs_ValueError hso (looks_opaque X₂ T.opq) (l₀ := .ref C :: bm) (fun A Q E s k q => wpAny_bind ((looks_clsIn X₂ hcl) A _ E s k (wpAny_pure q))) rfl X₂ hsu (I₂.type.andThen (looks_subIn X₂ T.veC)) hxC rfl ?_
  have hu : (h₂.push (kxs_mw "ValueError.__init__" x)).get? h₂.objs.size = some (kxs_mw "ValueError.__init__" x) := Heap.get?_push_at rfl rfl
  have k₃ : ∀ b o, h₂.get? b = some o → (h₂.push (kxs_mw "ValueError.__init__" x)).get? b = some o := fun b o e => Heap.get?_push_of_some _ e
  refine kxs_callWith (i := "ValueError.__init__") (x := x) rfl (evalArgs_plain ?_)
  refine Calls.spliced_cons (Calls.Constant_str (k := 0) (pos := a4) (Calls.spliced_nil ⟨hu, ?_⟩))
  refine x_bound T (X₂.keeps k₃) hu (k₃ _ _ (k₂ _ _ hx₁)) (by show 1 ≤ sizeLine; rw [sizeLine_eq]; decide) (fun h₄ t1 k₄ hx₄ => ?_)
  -- self.at = at
  have keep : ∀ b o, b ≠ x → g0.get? b = some o → h₄.get? b = some o := fun b o e z => k₄ b o e (k₃ _ _ (k₂ _ _ (k _ _ z)))
  have hn₄ : h₄.Ns g0.objs.size (fun y => [(("self" : Str), Value.ref x), ("at", v)].reverse.lookup y) := hn.at fun o z => k₄ _ _ hLx (k₃ _ _ (k₂ _ _ z))
  have X₄ : K.In h₄ := fun a o z => keep a o (fun e => by rw [e, hnx] at z; cases z) (X a o z)
  refine ks_wpAt_execs_cons (ks_wpAt_Assign_Attr (wpAt_of_wpAny (ESX.ldL hn₄ (by first | rfl | with_unfolding_all rfl | kernel_rfl) (ESX.ldL hn₄ (by first | rfl | with_unfolding_all rfl | kernel_rfl) ?_))))
  refine set_plain X₄ (ox := excO C t1) (od := none) ⟨hx₄, rfl, rfl, trivial⟩ T.sa ?_
  refine exc_osa X₄ hx₄ hcl (show refsVE (.ref C :: bm) = true from hbm) rfl T.noF (fun h₅ tk₅ dx k₅ dn dne hx₅ hn₅ => ?_)
  refine wpAt_of_wpAny (wpAny_execs_nil (hq h₅ tk₅ dx ⟨fun b o e z => k₅ b o e (keep b o e z), ⟨t1, hx₅⟩, Nat.le_trans (Nat.le_of_lt hn₄.lt) dn, dne, hn₅⟩))
theorem x_made (T : XT prog K mg nm "at" C fI cc) {v : Value} (X : K.In s.heap) (hlim : s.heap.NoLimit) (hG : s.heap.Ns mainGlobals mg) (hB : ∃ mb, s.heap.Ns builtinsNs mb ∧ ∀ y : Str, y ≠ "__name__" → mb y = bootBuiltins y) (hroom : A.depth + 1 < recursionLimit)
    (hq : ∀ h' tk e d, XMade "at" s.heap h' e C d v → R (.ok (.ret (.ref e))) { s with heap := h', toks := tk }) :
    codeAny (model prog w) A (.call (.ref C) ⟨[v], []⟩) R s := by
  obtain ⟨nm', q, N, bs, bm, sn, sub, ab, col, dd, k0, k1, k2, k3, k5, hC, hbm⟩ := T.cls
  obtain ⟨hp, g, dr, tk, os⟩ := s
  have k : ∀ b o, hp.get? b = some o → ((hp.push (kdv_tup [v])).push (excO C hp.objs.size)).get? b = some o := fun b o e => Heap.get?_push_of_some _ (Heap.get?_push_of_some _ e)
  have hget : ((hp.push (kdv_tup [v])).push (excO C hp.objs.size)).get? (hp.objs.size + 1) = some (excO C hp.objs.size) := by heap_get
  have hnx : K.lookup (hp.objs.size + 1) = none := by
    cases e : K.lookup (hp.objs.size + 1) with
    | none => rfl
    | some o =>
      have z : hp.get? (hp.objs.size + 1) = some o := X _ _ e
      exact absurd (Nat.lt_of_succ_lt (Heap.lt_size z)) (Nat.lt_irrefl _)
  obtain ⟨mb, hB1, hB2⟩ := hB
  refine call_own F.excBase_ValueError (fun X => refsVE_contains X bm hbm) (X _ _ hC) (looks_findIn X T.iC) (fun self => bind_fn X self T.tI) (by show 1 ≤ sizeLine; rw [sizeLine_eq]; decide) ?_
  refine x_init (s := ⟨(hp.push (kdv_tup [v])).push (excO C hp.objs.size), g, dr, tk, os⟩) T (X.keeps k) (hlim.keeps k) (hG.keeps k) ⟨mb, hB1.keeps k, hB2⟩ hget hnx (by show A.depth + 1 < recursionLimit; exact hroom) fun h' tk' dx ⟨k', hx, dn, dne, hns⟩ => ?_
  have old : ∀ b o, hp.get? b = some o → h'.get? b = some o := fun b o e => k' b o (Nat.ne_of_lt (Nat.lt_succ_of_lt (Heap.lt_size e))) (k b o e)
  have z : hp.objs.size + 1 + 1 ≤ dx := by
    have q := dn
    rw [Heap.size_push, Heap.size_push] at q
    exact q
  obtain ⟨t1, hx⟩ := hx
  exact ⟨rfl, hq h' tk' (hp.objs.size + 1) dx ⟨old, Nat.le_succ _, ⟨_, _, hx, rfl, rfl, rfl, rfl⟩, Nat.le_trans (Nat.le_trans (Nat.le_succ _) (Nat.le_succ _)) z, dne, hns⟩⟩
end
end KzX
namespace L2
open PySem PySem.Spec PyProof.Rows
theorem relO_fld {v : V} {v' : Value} (r : RelV v v') (fld f : Str) : RelO (List.lookup f [(fld, v)]) (if f = fld then some v' else none) := by
  by_cases hw : f = fld
  · subst hw
    rw [if_pos rfl]
    have q : List.lookup f [(f, v)] = some v := by simp [List.lookup]
    rw [q]
    exact r
  · rw [if_neg hw]
    have qw : (f == fld) = false := by simpa using hw
    have q2 : List.lookup f [(fld, v)] = none := by simp [List.lookup, qw]
    rw [q2]
    trivial
section
variable {X : Cx} {C fI cc : Addr} {nm : Str}
/-- BadText(e) -/
def tMkX (C : Addr) (ta : TA) : St → Hp → XK → Prop := fun σ H Q => ta σ H fun vs H1 => ∃ v, vs = [v] ∧ ∀ d, H1 d = none → Q (.ref C) (some d) (upd H1 d (.xd [(("at" : Str), v)]))
theorem pmk_x {a : Expr} {ta : TA} {p pos : Pos} {k : Nat} (T : KzX.XT X.prog X.K X.mg nm "at" C fI cc) (hr : Room k X.A) (ha : PA X [a] ta) (hg : Gl X nm) (hd : (nm == ("__debug__" : Str)) = false := by decide)
    (he : starEach (a :: []) X.env = (false, eval a X.env) :: starEach [] X.env := by rfl) (hpl : (backTo pos (starEach [] X.env)).any (·.1) = false := by rfl) :
    PMk X (.Call (.Name nm p) [a] [] pos) (tMkX C ta) := by
  intro pins s σ H Q I h
  refine wpAny_Call_Name_kw (ld_glob I hg T.gC ?_ hd)
  refine PySem.W.callWith_K (h₀ := X.base) I.ok.mod.kin T.kC (thn (ha.run pos pins s σ H _ I h) fun us s1 hh => ?_) he hpl
  obtain ⟨vs, H1, I1, r1, v, ev, q1⟩ := hh
  subst ev
  refine ⟨I1.kIn, ?_⟩
  cases r1 with
  | cons rv rn =>
    rename_i v' us'
    cases rn
    show wpAny _ _ (call (.ref C) [v']) _ _ _
    have hlim := I1.nolimit
    have hG := I1.mod.glob.keeps I1.bk
    obtain ⟨mb, hB1, hB2⟩ := I1.mod.blt
    have hB : ∃ mb, s1.heap.Ns builtinsNs mb ∧ ∀ y : Str, y ≠ "__name__" → mb y = bootBuiltins y := ⟨mb, hB1.keeps I1.bk, hB2⟩
    obtain ⟨hp, g, dr, tk, os⟩ := s1
    refine wpAny_call (KzX.x_made T I1.kIn hlim hG hB (by have := hr.dp; omega) fun h' tk' e d M => ?_)
    show MkP X pins σ Q (.ref e) ⟨h', g, dr, tk', os⟩
    obtain ⟨oe, fv, hoe, hc, hd, hdat, h1⟩ := M.obj
    have hns := M.ns
    obtain ⟨G', g1, g2⟩ := restrict h' fun b => decide (b ≠ e)
    have gk : ∀ b, b ≠ e → G'.get? b = h'.get? b := fun b hb => g1 b (decide_eq_true hb)
    have ge : G'.get? e = none := g2 e (by simp)
    have old : ∀ b o, hp.get? b = some o → G'.get? b = some o := fun b o q => (gk b (Nat.ne_of_lt (Nat.lt_of_lt_of_le (Heap.lt_size q) M.new))).trans (M.keep b o q)
    have ob : ObjOk X.prog X.w (upd H1 d (.xd [(("at" : Str), v)])) G' d (.xd [(("at" : Str), v)]) :=
      ⟨_, hns.at (fun o q => (gk d M.dne).trans q), fun f => relO_fld rv "at" f⟩
    have J : Inv X pins σ (upd H1 d (.xd [(("at" : Str), v)])) ⟨G', g, dr, tk', os⟩ := I1.laid (t' := tk') old M.dbig ob
    refine ⟨e, oe, fv, ⟨G', g, dr, tk', os⟩, _, .ref C, some d, rfl, J, fun b o q => ?_, ge, hoe, ⟨hc, hd⟩, hdat, h1, ?_, rfl, I1.bare, raises_own T.exC T.tyC, q1 d (I1.hok.fresh M.dbig)⟩
    · by_cases hb : b = e
      · have q' : G'.get? b = some o := q
        rw [hb, ge] at q'; cases q'
      · exact (gk b hb).symm.trans q
    · rw [upd_ne (Ne.symm M.dne)]
      exact I1.hok.fresh M.new
/-- raise BadText(e) -/
def tRaiseX (C : Addr) (W : WX) (ta : TA) : TS := fun _ σ H => tMkX C ta σ H fun cls d H' => W cls d σ H'
theorem ps_raiseX {a : Expr} {ta : TA} {W : WX} {p pos pos2 : Pos} {k : Nat} (hc : X.calm = true) (T : KzX.XT X.prog X.K X.mg nm "at" C fI cc) (hr : Room k X.A) (tk : Takes X W) (ha : PA X [a] ta) (hg : Gl X nm) (hd : (nm == ("__debug__" : Str)) = false := by decide)
    (he : starEach (a :: []) X.env = (false, eval a X.env) :: starEach [] X.env := by rfl) (hpl : (backTo pos (starEach [] X.env)).any (·.1) = false := by rfl) :
    PS X (.Raise (some (.Call (.Name nm p) [a] [] pos)) none pos2) (tRaiseX C W ta) := ps_raise hc tk (pmk_x T hr ha hg hd he hpl)
/-- e.at, e the exception that the suite holds (at a; its class cls, its dict d) -/
def tByX (C : Addr) (a : Addr) (cls : Value) (d : Option Addr) (te : TE) : TE := fun σ H Q => te σ H fun x H1 => x = .ref a ∧ cls = .ref C ∧ ∃ (dd : Addr) (v : V), d = some dd ∧ H1 dd = some (.xd [(("at" : Str), v)]) ∧ Q v H1
theorem pe_byX {a : Addr} {oe : Obj} {cls : Value} {d : Option Addr} {pn : List (Addr × Obj)} {e : Expr} {te : TE} {pos : Pos} (T : KzX.XT X.prog X.K X.mg nm "at" C fI cc) (hz : Zc cls d oe) (hf : ∃ vs, oe.data = .fields vs) (he : PE (X.suite a ((a, oe) :: pn)) e te)
    (hb : attributeBase e "at" X.env (eval e X.env) = eval e X.env := by rfl) :
    PE (X.suite a ((a, oe) :: pn)) (.Attribute e "at" pos) (tByX C a cls d te) := by
  refine ⟨fun pins s σ H Q I h => ?_⟩
  refine attr_of hb (thn (he.run pins s σ H _ I h) fun u s1 hh => ?_)
  obtain ⟨x, H1, I1, rx, ex, ec, dd, v, ed, ea, q⟩ := hh
  subst ex
  obtain rfl : u = Value.ref a := rx
  subst ec
  subst ed
  obtain ⟨ha, _⟩ := I1.pin (a, oe) (List.mem_append_left _ List.mem_cons_self)
  obtain ⟨vs, hd⟩ := hf
  have hx : ObjOk X.prog X.w H1 s1.heap dd (.xd [(("at" : Str), v)]) := I1.hok dd _ ea
  obtain ⟨mA, hns, hr⟩ := hx
  obtain ⟨od, ho, hl⟩ := lookIn_ns hns
  have l : List.lookup ("at" : Str) [(("at" : Str), v)] = some v := by simp [List.lookup]
  obtain ⟨u, hu, ru⟩ := RelO.some_of (v := v) (o := mA "at") (by rw [← l]; exact hr "at")
  have J : PySem.W.InstAt s1.heap a oe C (some od) := ⟨ha, hz.1, by unfold PySem.W.notCls; rw [hd] <;> rfl, by rw [hz.2]; exact ho⟩
  exact HandSPX.exc_get I1.kIn J T.ga T.gg T.exC (PySem.W.findObj_own T.hdC T.noF rfl (by rw [hl, hu])) (handed_of ru) ⟨v, H1, I1.tok _, ru, q⟩
end
end L2
/-! KzDefs -/
set_option Elab.async false
set_option linter.all false
set_option maxRecDepth 100000
set_option maxHeartbeats 2000000
namespace Kz
open PySem PySem.Spec PyProof.Rows L2
open SX (S)
def top (i : Nat) : Stmt := PySem.Challenge.pw_papersorliars_k00_value_texts.main.body.getD i (.Pass ⟨0, 0, 0, 0⟩)
abbrev sVT : Stmt := top 10
abbrev sRV : Stmt := top 11
abbrev sNP : Stmt := top 12
abbrev sVS : Stmt := top 13
abbrev sNE : Stmt := top 14
abbrev sEO : Stmt := top 15
abbrev sCell : Stmt := top 17
abbrev sDraws : Stmt := top 18
abbrev sWord : Stmt := top 19
abbrev sValue : Stmt := top 20
abbrev sWrite : Stmt := top 21
abbrev sSame : Stmt := top 22
abbrev sStep : Stmt := top 23
abbrev sDue : Stmt := top 24
abbrev sSpoilt : Stmt := top 25
abbrev sRead : Stmt := top 26
abbrev sLaw : Stmt := top 27
/-! ### helpers -/
theorem S_line {t : List Nat} (h : t.length ≤ 100000) : (S t).length ≤ sizeLine := by
  rw [SX.S_len]
  exact Nat.le_trans h (by decide)
theorem tlS (l : List Nat) : (S l).cps.toList = l := rfl
/-! ### end_of(text, at, letters, most): slots text at letters most end -/
def spEO : Sp := fun vs H Q _ => ∃ (t ls : List Nat) (i m : Nat) (p : Nat → Bool), vs = [.str (S t), .int (i : Int), .str (S ls), .int (m : Int)] ∧ t.length ≤ 100000 ∧ i ≤ t.length ∧ (∀ c, decide (c ∈ ls) = p c) ∧
  Q (.int ((i + run p m (t.drop i) : Nat) : Int)) H
theorem scEO : FnScope ["text", "at", "letters", "most", "end"] ["text", "at", "letters", "most"] (defScope sEO) := ⟨rfl, rfl, rfl, by decide +kernel, rfl, by decide +kernel, by decide +kernel⟩
theorem run_at {p : Nat → Bool} {m : Nat} {s : List Nat} {j : Nat} (hj : j ≤ run p m s) (h1 : j < m) {c : Nat} (h2 : s[j]? = some c) : (p c = true → j + 1 ≤ run p m s) ∧ (p c = false → run p m s = j) := by
  induction s generalizing m j with
  | nil => simp at h2
  | cons d r ih =>
    cases m with
    | zero => omega
    | succ m =>
      cases j with
      | zero =>
        have e : d = c := Option.some.inj h2
        subst e
        refine ⟨fun hp => by rw [run_cons hp]; omega, fun hp => ?_⟩
        show (if p d = true then _ else 0) = 0
        rw [hp]
        rfl
      | succ j =>
        by_cases hp : p d = true
        · rw [run_cons hp] at hj ⊢
          have h2' : r[j]? = some c := h2
          have := ih (m := m) (j := j) (by omega) (by omega) h2'
          exact ⟨fun z => by have := this.1 z; omega, fun z => by have := this.2 z; omega⟩
        · have e : run p (m + 1) (d :: r) = 0 := by
            show (if p d = true then _ else 0) = 0
            rw [if_neg hp]
          rw [e] at hj
          omega
section
variable {P : Program} {w : World} {K : PySem.W.Frag} {mg : Str → Option Value} {base : Heap} {f : Addr} {fd : FuncData}
theorem ok_eo {k : Nat} (F : Fun K "end_of" "end_of" sEO f fd) (ml : mg "len" = none) : FnOk P w K mg base CX0 (k + 1) f fd ["text", "at", "letters", "most"] spEO := by
  refine F.ok scEO (fun vs H Q E h => ?_) (fun cdv A outer s H vs Q E hr h => ?_)
  · obtain ⟨t, ls, i, m, p, rfl, _⟩ := h
    rfl
  obtain ⟨t, ls, i, m, p, rfl, ht, hi, hp, q⟩ := h
  refine ⟨_, pss_cons (ps_set (i := 4) scEO.nd rfl (Or.inl rfl) (pv 1))
    (pss_cons (ps_while PassesOwn.never
      (PW.pt (pw_and (pt_cmpR op_lt (pv 4) (pe_callB call_len_str rfl ml PySem.boot_len (pa_cons (pv 0) pa_nil)) (nomark _))
        (pw_and (pt_cmpR op_lt (pv 4) (pe_op op_add (pv 1) (pv 3)) (nomark _))
          (pw_and1 (pt_cmpR op_in_sign (pe_ix ix_str (pv 0) (pv 4) (fun _ _ => rfl)) (pv 2) (by with_unfolding_all rfl))))))
      (pss_one (ps_set (i := 4) scEO.nd rfl (Or.inl rfl) (pe_op op_add (pv 4) pe_int))))
    (pss_one (ps_ret (pv 4)))), ?_⟩
  have hle := run_le p m (t.drop i)
  rw [List.length_drop] at hle
  refine ⟨_, rfl, fun μ σ H' => ∃ e : Nat, σ = [some (.str (S t)), some (.int (i : Int)), some (.str (S ls)), some (.int (m : Int)), some (.int ((i + e : Nat) : Int))] ∧ H' = H ∧ e ≤ run p m (t.drop i) ∧ μ = run p m (t.drop i) - e,
    ⟨_, 0, rfl, rfl, Nat.zero_le _, rfl⟩, ?_⟩
  rintro μ σ H' ⟨e, rfl, rfl, he, rfl⟩
  refine ⟨_, rfl, _, rfl, _, rfl, S_line ht, _, _, rfl, rfl, _, rfl, ?_⟩
  rw [SX.S_len]
  by_cases h1 : i + e < t.length
  · rw [decide_eq_true (by omega)]
    refine iteT ⟨_, rfl, _, rfl, _, rfl, _, _, rfl, rfl, _, _, rfl, rfl, _, rfl, ?_⟩
    by_cases h2 : e < m
    · rw [decide_eq_true (by omega)]
      have hc : t[i + e]? = some t[i + e] := List.getElem?_eq_getElem h1
      have hd : (t.drop i)[e]? = some t[i + e] := by rw [List.getElem?_drop]; exact hc
      have ra := run_at he h2 hd
      refine iteT ⟨_, rfl, _, rfl, _, _, _, rfl, rfl, S_line ht, atI_nat hc, _, rfl, _, _, rfl, rfl, _, rfl, ?_⟩
      rw [tlS, hp]
      cases hpc : p t[i + e] with
      | true =>
        refine iteT ⟨fun σ' H2 => ∃ e', σ' = [some (.str (S t)), some (.int (i : Int)), some (.str (S ls)), some (.int (m : Int)), some (.int ((i + e' : Nat) : Int))] ∧ H2 = H' ∧ e' = e + 1, ?_, ?_⟩
        · rintro σ' H' ⟨e', rfl, rfl, rfl⟩
          have := ra.1 hpc
          exact ⟨_, by omega, e + 1, rfl, rfl, this, rfl⟩
        · exact ⟨_, rfl, _, _, rfl, rfl, e + 1, rfl, rfl, rfl⟩
      | false =>
        refine iteF ⟨_, rfl, ?_⟩
        have := ra.2 hpc
        rw [this] at q
        exact q
    · rw [decide_eq_false (by omega)]
      refine iteF (iteF ⟨_, rfl, ?_⟩)
      have : run p m (t.drop i) = e := by omega
      rw [this] at q
      exact q
  · rw [decide_eq_false (by omega)]
    refine iteF (iteF ⟨_, rfl, ?_⟩)
    have : run p m (t.drop i) = e := by omega
    rw [this] at q
    exact q
end
/-! ### signs -/
def digL : List Nat := [48, 49, 50, 51, 52, 53, 54, 55, 56, 57]
def letL : List Nat := [97, 98, 99, 100, 101, 102, 103, 104, 105, 106, 107, 108, 109, 110, 111, 112, 113, 114, 115, 116, 117, 118, 119, 120, 121, 122]
theorem digL_is (c : Nat) : decide (c ∈ digL) = isD c := by
  unfold digL isD
  simp only [List.mem_cons, List.not_mem_nil, or_false]
  rw [decide_eq_decide]
  omega
theorem letL_is (c : Nat) : decide (c ∈ letL) = isL c := by
  unfold letL isL
  simp only [List.mem_cons, List.not_mem_nil, or_false]
  rw [decide_eq_decide]
  omega
theorem eqS {a b : List Nat} : decide (V.str (S a) = V.str (S b)) = decide (a = b) := by
  rw [decide_eq_decide]
  exact ⟨fun h => SX.S_inj (V.str.inj h), fun h => by rw [h]⟩
theorem one_eq {c n : Nat} : decide (V.str (S [c]) = V.str (S [n])) = decide (c = n) := by
  rw [eqS, decide_eq_decide]
  simp
theorem lit_paren : (Str.ofString "(") = S [40] := by decide +kernel
theorem lit_close : (Str.ofString ")") = S [41] := by decide +kernel
theorem lit_minus : (Str.ofString "-") = S [45] := by decide +kernel
theorem lit_zero : (Str.ofString "0") = S [48] := by decide +kernel
theorem lit_space : (Str.ofString " ") = S [32] := by decide +kernel
theorem lit_empty : (Str.ofString "") = S [] := by decide +kernel
/-- the way out with an error at n -/
def Bad (C : Addr) (E : XK) (H : Hp) (n : Nat) : Prop := ∀ d, H d = none → E (.ref C) (some d) (upd H d (.xd [(("at" : Str), .int (n : Int))]))
theorem drop_at {t : List Nat} {i c : Nat} {r : List Nat} (h : t.drop i = c :: r) : t[i]? = some c ∧ i < t.length ∧ t.drop (i + 1) = r := by
  have h1 : i < t.length := by
    refine Decidable.byContradiction fun z => ?_
    rw [List.drop_eq_nil_of_le (by omega)] at h
    cases h
  rw [List.drop_eq_getElem_cons h1] at h
  obtain ⟨e1, e2⟩ := List.cons.inj h
  exact ⟨by rw [List.getElem?_eq_getElem h1, e1], h1, e2⟩
/-! ### number_end(text, at): slots text at first end -/
def spNE (C : Addr) : Sp := fun vs H Q E => ∃ (t : List Nat) (i c : Nat) (r : List Nat), vs = [.str (S t), .int (i : Int)] ∧ t.length ≤ 100000 ∧ t.drop i = c :: r ∧ (c = 45 ∨ isD c = true) ∧
  (c = 48 → Q (.int ((i + 1 : Nat) : Int)) H) ∧ (c = 45 → num1 r = none → Bad C E H (i + 1)) ∧ (∀ k, c = 45 → num1 r = some k → Q (.int ((i + (k + 1) : Nat) : Int)) H) ∧
  (c ≠ 48 → isD c = true → Q (.int ((i + run isD 200 (c :: r) : Nat) : Int)) H)
/-- what the top has written -/
structure Txt (P : Program) (K : PySem.W.Frag) (mg : Str → Option Value) (C fI cc : Addr) : Prop where
  err : KzX.XT P K mg "BadText" "at" C fI cc
  mgD : ∃ t, mg "DIGITS" = some (.str (S digL) t)
  mgL : ∃ t, mg "LETTERS" = some (.str (S letL) t)
  mgMD : ∃ t, mg "MOST_DIGITS" = some (.int 200 t)
  mgML : ∃ t, mg "MOST_LETTERS" = some (.int 20 t)
  mgMP : ∃ t, mg "MOST_DEEP" = some (.int 100 t)
  mlen : mg "len" = none
  mint : mg "int" = none
  mtup : mg "tuple" = none
  mstr : mg "str" = none
  misi : mg "isinstance" = none
  mran : mg "range" = none
  mboo : mg "bool" = none
  mabs : mg "abs" = none
theorem scNE : FnScope ["text", "at", "first", "end"] ["text", "at"] (defScope sNE) := ⟨rfl, rfl, rfl, by decide +kernel, rfl, by decide +kernel, by decide +kernel⟩
section
variable {P : Program} {w : World} {K : PySem.W.Frag} {mg : Str → Option Value} {base : Heap} {f : Addr} {fd : FuncData} {C fI cc : Addr}
theorem ok_ne {fE : Addr} {fdE : FuncData} (T : Txt P K mg C fI cc) (F : Fun K "number_end" "number_end" sNE f fd) (FE : Fun K "end_of" "end_of" sEO fE fdE) (bE : Binds K fdE ["text", "at", "letters", "most"] []) (mE : mg "end_of" = some (.ref fE)) :
    FnOk P w K mg base (L2.CX P w) 4 f fd ["text", "at"] (spNE C) := by
  refine F.okX scNE (fun vs H Q E h => ?_) (fun cdv A outer s H vs Q E hr h => ?_)
  · obtain ⟨t, i, c, r, rfl, _⟩ := h
    rfl
  obtain ⟨t, i, c, r, rfl, ht, hd, hc, q48, qbad, q45, qd⟩ := h
  obtain ⟨tD, mD⟩ := T.mgD
  obtain ⟨tM, mM⟩ := T.mgMD
  have GE : FnOk P w K mg base CX0 1 fE fdE ["text", "at", "letters", "most"] spEO := ok_eo FE T.mlen
  refine ⟨_, pss_cons (ps_if (pt_cmpR op_eq (pe_ix ix_str (pv 0) (pv 1) (fun _ _ => rfl)) pe_str (nomark _)) (pss_one (ps_ret (pe_op op_add (pv 1) pe_int))) pss_nil)
    (pss_cons (ps_set (i := 2) scNE.nd rfl (Or.inl rfl) (pe_ifExp (pt_cmpR op_eq (pe_ix ix_str (pv 0) (pv 1) (fun _ _ => rfl)) pe_str (nomark _)) (pe_op op_add (pv 1) pe_int) (pv 1)))
    (pss_cons (ps_set (i := 3) scNE.nd rfl (Or.inl rfl) (pe_call GE (hr.mono (by decide)) rfl mE FE.kp bE .nil pass0 (pa_cons (pv 0) (pa_cons (pv 2) (pa_cons (pe_glob (v := .str (S digL)) rfl mD ⟨_, rfl⟩) (pa_cons (pe_glob (v := .int 200) rfl mM ⟨_, rfl⟩) pa_nil))))))
    (pss_cons (ps_if (PW.pt (pw_or (pt_cmpR op_eq (pv 3) (pv 2) (nomark _)) (pw_or1 (pt_cmpR op_eq (pe_ix ix_str (pv 0) (pv 2) (fun _ _ => rfl)) pe_str (nomark _)))))
      (pss_one (ps_raiseX rfl T.err hr (takes_of rfl rfl rfl rfl) (pa_cons (pv 2) pa_nil) rfl)) pss_nil)
    (pss_one (ps_ret (pv 3)))))), ?_⟩
  obtain ⟨hat, hlt, hdr⟩ := drop_at hd
  refine ⟨_, rfl, _, rfl, _, _, _, rfl, rfl, S_line ht, atI_nat hat, ?_⟩
  refine ⟨rfl, _, rfl, ?_⟩
  (try rw [lit_zero]); rw [one_eq]
  by_cases h48 : c = 48
  · rw [decide_eq_true h48]
    refine iteT ⟨_, rfl, _, _, rfl, rfl, ?_⟩
    exact q48 h48
  rw [decide_eq_false h48]
  refine iteF ⟨_, rfl, _, rfl, _, _, _, rfl, rfl, S_line ht, atI_nat hat, rfl, _, rfl, ?_⟩
  (try rw [lit_minus]); rw [one_eq]
  by_cases h45 : c = 45
  · rw [decide_eq_true h45]
    subst h45
    refine iteT ⟨_, rfl, _, _, rfl, rfl, ?_⟩
    refine ⟨_, rfl, _, rfl, t, digL, i + 1, 200, isD, rfl, ht, by omega, digL_is, ?_⟩
    rw [hdr]
    refine ⟨_, rfl, _, rfl, rfl, _, rfl, ?_⟩
    by_cases hk : run isD 200 r = 0
    · rw [decide_eq_true (by rw [hk]; rfl)]
      refine iteT (iteT ⟨_, rfl, _, rfl, ?_⟩)
      exact qbad rfl (if_pos (.inl hk))
    · rw [decide_eq_false (by intro z; have := V.int.inj z; omega)]
      refine iteF ?_
      cases r with
      | nil => exact absurd (run_nil _ _) hk
      | cons x y =>
        obtain ⟨hat2, hlt2, hdr2⟩ := drop_at hdr
        refine ⟨_, rfl, _, rfl, _, _, _, rfl, rfl, S_line ht, atI_nat hat2, rfl, _, rfl, ?_⟩
        (try rw [lit_zero]); rw [one_eq]
        by_cases hx : x = 48
        · rw [decide_eq_true hx]
          refine iteT ⟨_, rfl, _, rfl, ?_⟩
          exact qbad rfl (if_pos (.inr (by rw [hx]; rfl)))
        · rw [decide_eq_false hx]
          refine iteF ⟨_, rfl, ?_⟩
          have := q45 _ rfl (if_neg (by rintro (z | z); exact hk z; exact hx (Option.some.inj z)))
          rw [show i + 1 + run isD 200 (x :: y) = i + (run isD 200 (x :: y) + 1) by omega]
          exact this
  · rw [decide_eq_false h45]
    have hcd : isD c = true := by rcases hc with hc | hc; exact absurd hc h45; exact hc
    refine iteF ⟨_, rfl, ?_⟩
    refine ⟨_, rfl, _, rfl, t, digL, i, 200, isD, rfl, ht, by omega, digL_is, ?_⟩
    rw [hd]
    refine ⟨_, rfl, _, rfl, rfl, _, rfl, ?_⟩
    have hk : run isD 200 (c :: r) = run isD 199 r + 1 := run_cons hcd
    rw [decide_eq_false (by intro z; have := V.int.inj z; omega)]
    refine iteF ⟨_, rfl, _, rfl, _, _, _, rfl, rfl, S_line ht, atI_nat hat, rfl, _, rfl, ?_⟩
    (try rw [lit_zero]); rw [one_eq, decide_eq_false h48]
    refine iteF ⟨_, rfl, ?_⟩
    exact qd h48 hcd
end
/-! ### value_start(text, at, rows): slots text at rows sign end -/
theorem slice_ij {t : List Nat} {i j : Nat} (h : i ≤ t.length) : PySem.Txt.slice (S t) (some (i : Int)) (some (j : Int)) = S ((t.drop i).take (j - i)) := by
  rw [← C8.cutS_slice]
  unfold cutS
  rw [SX.S_len, HT.sIx_nat, HT.sIx_nat, Nat.min_eq_left h]
  refine congrArg S ?_
  show ((t.drop i).take (min j t.length - i)) = (t.drop i).take (j - i)
  by_cases hj : j ≤ t.length
  · rw [Nat.min_eq_left hj]
  · rw [Nat.min_eq_right (by omega)]
    rw [List.take_of_length_le (by rw [List.length_drop]; omega), List.take_of_length_le (by rw [List.length_drop]; omega)]
def leafV : Val → V
  | .num n => .int n
  | .word w => .str (S w)
  | .tup _ => .non
/-- the open rows: the list at R holds the rows at as and A, and at A stand xs -/
structure RowsAt (H : Hp) (R : Addr) (as : List Addr) (A : Addr) (xs : List V) : Prop where
  hR : H R = some (.lst ((as ++ [A]).map V.ref))
  hA : H A = some (.lst xs)
  ne : R ≠ A
  sz : as.length ≤ 200
  sx : xs.length ≤ 200000
def spVS (C : Addr) : Sp := fun vs H Q E => ∃ (t : List Nat) (i : Nat) (R A : Addr) (as : List Addr) (xs : List V), vs = [.str (S t), .int (i : Int), .ref R] ∧ t.length ≤ 100000 ∧ i ≤ t.length ∧ RowsAt H R as A xs ∧
  (vs1 (as.length + 1) (t.drop i) = .push → ∀ p, H p = none → Q (.int ((i + 1 : Nat) : Int)) (upd (upd H p (.lst [])) R (.lst ((as ++ [A, p]).map V.ref)))) ∧
  (∀ v k, vs1 (as.length + 1) (t.drop i) = .item v k → Q (.int ((i + k : Nat) : Int)) (upd H A (.lst (xs ++ [leafV v])))) ∧
  (∀ k, vs1 (as.length + 1) (t.drop i) = .bad k → Bad C E H (i + k))
theorem scVS : FnScope ["text", "at", "rows", "sign", "end"] ["text", "at", "rows"] (defScope sVS) := ⟨rfl, rfl, rfl, by decide +kernel, rfl, by decide +kernel, by decide +kernel⟩
theorem small200 {n : Nat} (h : n ≤ 200000) : n < sizeLine := Nat.lt_of_le_of_lt h (by decide)
theorem int_neg {ds : List Nat} (h : PySem.NumText.AllDigits ds) (h1 : ds ≠ []) (h2 : ds.length ≤ 600) : PySem.intText? (S (45 :: ds)) = some (-((PySem.NumText.digitsVal ds : Nat) : Int)) :=
  PySem.intText_neg (x := S (45 :: ds)) (cs := ds) rfl h h1 (by rw [SX.S_len, List.length_cons]; omega)
theorem int_pos {ds : List Nat} (h : PySem.NumText.AllDigits ds) (h1 : ds ≠ []) (h2 : ds.length ≤ 600) : PySem.intText? (S ds) = some ((PySem.NumText.digitsVal ds : Nat) : Int) :=
  PySem.intText_digits (x := S ds) h h1 (by rw [SX.S_len]; omega)
theorem last_of (as : List Addr) (A : Addr) : atI ((as ++ [A]).map V.ref) (-1) = some (.ref A) := by
  rw [List.map_append]
  exact atI_last _ _
section
variable {P : Program} {w : World} {K : PySem.W.Frag} {mg : Str → Option Value} {base : Heap} {f : Addr} {fd : FuncData} {C fI cc : Addr}
theorem ok_vs {fE fN : Addr} {fdE fdN : FuncData} (T : Txt P K mg C fI cc) (F : Fun K "value_start" "value_start" sVS f fd) (FE : Fun K "end_of" "end_of" sEO fE fdE) (bE : Binds K fdE ["text", "at", "letters", "most"] []) (mE : mg "end_of" = some (.ref fE))
    (FN : Fun K "number_end" "number_end" sNE fN fdN) (bN : Binds K fdN ["text", "at"] []) (mN : mg "number_end" = some (.ref fN)) :
    FnOk P w K mg base (L2.CX P w) 5 f fd ["text", "at", "rows"] (spVS C) := by
  refine F.okX scVS (fun vs H Q E h => ?_) (fun cdv A outer s H vs Q E hr h => ?_)
  · obtain ⟨t, i, R, A, as, xs, rfl, _⟩ := h
    rfl
  obtain ⟨t, i, R, A, as, xs, rfl, ht, hi, hR, qpush, qitem, qbad⟩ := h
  obtain ⟨tD, mD⟩ := T.mgD
  obtain ⟨tL, mL⟩ := T.mgL
  obtain ⟨tM, mM⟩ := T.mgML
  obtain ⟨tP, mP⟩ := T.mgMP
  have GE : FnOk P w K mg base CX0 1 fE fdE ["text", "at", "letters", "most"] spEO := ok_eo FE T.mlen
  have GN : FnOk P w K mg base (L2.CX P w) 4 fN fdN ["text", "at"] (spNE C) := ok_ne T FN FE bE mE
  refine ⟨_, pss_cons (ps_set (i := 3) scVS.nd rfl (Or.inl rfl) (pe_slice C8.sl_txt (pv 0) (po_some (pv 1)) (po_some (pe_op op_add (pv 1) pe_int))))
    (pss_cons (ps_if (PW.pt (pw_and (pt_cmpR op_eq (pv 3) pe_str (nomark _)) (pw_and1 (pt_cmpR op_le (pe_callB call_len_seq rfl T.mlen PySem.boot_len (pa_cons (pv 2) pa_nil)) (pe_glob (v := .int 100) rfl mP ⟨_, rfl⟩) (nomark _)))))
      (pss_cons (ps_expr (pe_bm PySem.F.plainAttrs_list PySem.F.slot_list_append PySem.F.type_list_append mt_append (pv 2) (pa_cons (pe_lst pa_nil) pa_nil)))
        (pss_one (ps_ret (pe_op op_add (pv 1) pe_int)))) pss_nil)
    (pss_cons (ps_set (i := 4) scVS.nd rfl (Or.inl rfl) (pv 1))
    (pss_cons (ps_if (PW.pt (pw_and (pt_cmpR op_ne (pv 3) pe_str (nomark _)) (pw_and1 (pt_cmpR op_in_sign (pv 3) (pe_glob (v := .str (S letL)) rfl mL ⟨_, rfl⟩) (by with_unfolding_all rfl)))))
      (pss_cons (ps_set (i := 4) scVS.nd rfl (Or.inl rfl) (pe_call GE (hr.mono (by decide)) rfl mE FE.kp bE .nil pass0 (pa_cons (pv 0) (pa_cons (pv 1) (pa_cons (pe_glob (v := .str (S letL)) rfl mL ⟨_, rfl⟩) (pa_cons (pe_glob (v := .int 20) rfl mM ⟨_, rfl⟩) pa_nil))))))
        (pss_one (ps_expr (pe_bm PySem.F.plainAttrs_list PySem.F.slot_list_append PySem.F.type_list_append mt_append (pe_ix ix_list (pv 2) (pe_un un_neg pe_int) (fun _ _ => rfl)) (pa_cons (pe_slice C8.sl_txt (pv 0) (po_some (pv 1)) (po_some (pv 4))) pa_nil)))))
      (pss_one (ps_if (PW.pt (pw_or (pt_cmpR op_eq (pv 3) pe_str (nomark _)) (pw_or1 (PW.pt (pw_and (pt_cmpR op_ne (pv 3) pe_str (nomark _)) (pw_and1 (pt_cmpR op_in_sign (pv 3) (pe_glob (v := .str (S digL)) rfl mD ⟨_, rfl⟩) (by with_unfolding_all rfl))))))))
        (pss_cons (ps_set (i := 4) scVS.nd rfl (Or.inl rfl) (pe_call (E := E) GN hr rfl mN FN.kp bN .nil (passes_call (takes_of rfl rfl rfl rfl) (fun _ _ _ _ h => h)) (pa_cons (pv 0) (pa_cons (pv 1) pa_nil))))
          (pss_one (ps_expr (pe_bm PySem.F.plainAttrs_list PySem.F.slot_list_append PySem.F.type_list_append mt_append (pe_ix ix_list (pv 2) (pe_un un_neg pe_int) (fun _ _ => rfl)) (pa_cons (pe_callTy call_int_str rfl T.mint PyProof.Rows.boot_int (pa_cons (pe_slice C8.sl_txt (pv 0) (po_some (pv 1)) (po_some (pv 4))) pa_nil)) pa_nil)))))
        pss_nil)))
    (pss_cons (ps_if (pt_cmpR op_eq (pv 4) (pv 1) (nomark _))
      (pss_one (ps_raiseX rfl T.err hr (takes_of rfl rfl rfl rfl) (pa_cons (pv 1) pa_nil) rfl)) pss_nil)
    (pss_one (ps_ret (pv 4))))))), ?_⟩
  refine ⟨_, rfl, _, rfl, _, rfl, _, rfl, _, _, rfl, rfl, _, rfl, _, rfl, S_line ht, ?_⟩
  rw [show ((i : Int) + 1) = ((i + 1 : Nat) : Int) from rfl, slice_ij hi, show i + 1 - i = 1 by omega]
  have hRl : SqL K H R ((as ++ [A]).map V.ref) := .inl (.inl hR.hR)
  refine ⟨_, rfl, rfl, _, rfl, ?_⟩
  (try rw [lit_paren]); rw [eqS]
  cases hd : t.drop i with
  | nil =>
    rw [show ([] : List Nat).take 1 = [] from rfl, decide_eq_false (by decide)]
    refine iteF (iteF ⟨_, rfl, _, rfl, rfl, _, rfl, ?_⟩)
    (try rw [lit_empty]); rw [eqS, decide_eq_true rfl]
    refine iteF (iteF ⟨_, rfl, rfl, _, rfl, ?_⟩)
    (try rw [lit_minus]); rw [eqS, decide_eq_false (by decide)]
    refine iteF ⟨_, rfl, rfl, _, rfl, ?_⟩
    (try rw [lit_empty]); rw [eqS, decide_eq_true rfl]
    refine iteF (iteF ⟨_, rfl, _, rfl, rfl, _, rfl, ?_⟩)
    rw [decide_eq_true rfl]
    refine iteT ⟨_, rfl, _, rfl, ?_⟩
    exact qbad 0 (by rw [hd]; rfl)
  | cons c r =>
    obtain ⟨hat, hlt, hdr⟩ := drop_at hd
    rw [hd] at qpush qitem qbad
    rw [show (c :: r).take 1 = [c] from rfl]
    have hlenR : ((as ++ [A]).map V.ref).length = as.length + 1 := by rw [List.length_map, List.length_append]; rfl
    by_cases h40 : c = 40
    · subst h40
      rw [decide_eq_true rfl]
      refine iteT ⟨_, rfl, R, _, rfl, .inl hRl, _, _, rfl, rfl, _, rfl, ?_⟩
      rw [hlenR]
      by_cases hdeep : as.length + 1 ≤ 100
      · rw [decide_eq_true (show ((as.length + 1 : Nat) : Int) ≤ 100 by omega)]
        refine iteT ⟨_, rfl, .inl ⟨rfl, _, hRl⟩, Nat.zero_le _, fun p hp => ?_⟩
        refine ⟨R, _, _, rfl, rfl, (upd_ne (ne_of_none hR.hR hp)).trans hR.hR, ?_, ?_⟩
        · rw [hlenR]
          exact small200 (by have := hR.sz; omega)
        · refine ⟨_, rfl, _, _, rfl, rfl, ?_⟩
          have := qpush (if_pos ⟨rfl, hdeep⟩) p hp
          rw [show (as ++ [A]).map V.ref ++ [V.ref p] = (as ++ [A, p]).map V.ref by simp]
          exact this
      · rw [decide_eq_false (show ¬ ((as.length + 1 : Nat) : Int) ≤ 100 by omega)]
        refine iteF ⟨_, rfl, _, rfl, rfl, _, rfl, ?_⟩
        (try rw [lit_empty]); rw [eqS, decide_eq_false (by decide)]
        refine iteT ⟨_, rfl, _, _, rfl, rfl, _, rfl, ?_⟩
        rw [tlS, letL_is]
        refine iteF ⟨_, rfl, rfl, _, rfl, ?_⟩
        (try rw [lit_minus]); rw [eqS, decide_eq_false (by decide)]
        refine iteF ⟨_, rfl, rfl, _, rfl, ?_⟩
        (try rw [lit_empty]); rw [eqS, decide_eq_false (by decide)]
        refine iteT ⟨_, rfl, _, _, rfl, rfl, _, rfl, ?_⟩
        rw [tlS, digL_is]
        refine iteF ⟨_, rfl, _, rfl, rfl, _, rfl, ?_⟩
        rw [decide_eq_true rfl]
        refine iteT ⟨_, rfl, _, rfl, ?_⟩
        refine qbad 0 ?_
        simp only [vs1]
        rw [if_neg (by omega)]
        rfl
    · rw [decide_eq_false (by intro z; exact h40 (List.cons.inj z).1)]
      refine iteF (iteF ⟨_, rfl, _, rfl, rfl, _, rfl, ?_⟩)
      (try rw [lit_empty]); rw [eqS, decide_eq_false (by intro z; cases z)]
      refine iteT ⟨_, rfl, _, _, rfl, rfl, _, rfl, ?_⟩
      rw [tlS, letL_is]
      have h40' : ¬ (c = 40 ∧ as.length + 1 ≤ 100) := fun z => h40 z.1
      by_cases hL : isL c = true
      · rw [hL]
        have hv : vs1 (as.length + 1) (c :: r) = .item (.word ((c :: r).take (run isL 20 (c :: r)))) (run isL 20 (c :: r)) := by
          simp only [vs1]
          rw [if_neg h40', if_pos hL]
        have hq := qitem _ _ hv
        have hrun : run isL 20 (c :: r) = run isL 19 r + 1 := run_cons hL
        refine iteT ⟨_, rfl, _, rfl, t, letL, i, 20, isL, rfl, ht, hi, letL_is, ?_⟩
        rw [hd]
        refine ⟨.ref R, rfl, 1, rfl, R, _, -1, _, rfl, rfl, hRl, last_of as A, .inl ⟨rfl, _, .inl (.inl hR.hA)⟩, ?_⟩
        refine ⟨_, rfl, _, rfl, _, rfl, _, rfl, _, rfl, _, rfl, S_line ht, ?_⟩
        rw [slice_ij hi, hd, show i + run isL 20 (c :: r) - i = run isL 20 (c :: r) by omega]
        refine ⟨A, xs, _, rfl, rfl, hR.hA, small200 hR.sx, ?_⟩
        refine ⟨_, rfl, _, rfl, rfl, _, rfl, ?_⟩
        rw [decide_eq_false (by intro z; have := V.int.inj z; omega)]
        refine iteF ⟨_, rfl, ?_⟩
        exact hq
      · rw [Bool.eq_false_iff.mpr hL]
        refine iteF ⟨_, rfl, rfl, _, rfl, ?_⟩
        (try rw [lit_minus]); rw [one_eq]
        by_cases h45 : c = 45
        · rw [decide_eq_true h45]
          subst h45
          have hv0 : vs1 (as.length + 1) (45 :: r) = (match num1 r with | none => .bad 1 | some k => .item (.num (-((PySem.NumText.digitsVal (r.take k) : Nat) : Int))) (k + 1)) := by
            simp only [vs1]
            rw [if_neg h40', if_neg hL, if_neg (by decide), if_pos trivial]
            all_goals (cases num1 r <;> rfl)
          refine iteT (iteT ⟨_, rfl, _, rfl, t, i, 45, r, rfl, ht, hd, .inl rfl, fun z => absurd z (by decide), fun _ hn => ?_, fun k _ hn => ?_, fun _ z => absurd z (by decide)⟩)
          · exact qbad 1 (by rw [hv0, hn])
          · have hq := qitem _ _ (hv0.trans (by rw [hn]))
            have hk : k = run isD 200 r ∧ k ≠ 0 := by
              unfold num1 at hn
              by_cases hz : run isD 200 r = 0 ∨ r.head? = some 48
              · rw [if_pos hz] at hn; cases hn
              · rw [if_neg hz] at hn
                have := Option.some.inj hn
                exact ⟨this.symm, fun z => hz (.inl (by omega))⟩
            have hle := run_le isD 200 r
            refine ⟨.ref R, rfl, 1, rfl, R, _, -1, _, rfl, rfl, hRl, last_of as A, .inl ⟨rfl, _, .inl (.inl hR.hA)⟩, ?_⟩
            refine ⟨_, rfl, _, rfl, _, rfl, _, rfl, _, rfl, _, rfl, S_line ht, ?_⟩
            rw [slice_ij hi, hd, show i + (k + 1) - i = k + 1 by omega, List.take_succ_cons]
            have hds : PySem.NumText.AllDigits (r.take k) := by rw [hk.1]; exact digs 200 r
            have hlk : (r.take k).length = k := by rw [List.length_take]; omega
            refine ⟨_, _, rfl, int_neg hds (by intro z; rw [z] at hlk; exact hk.2 hlk.symm) (by omega), by rw [SX.S_len, List.length_cons]; omega, ?_⟩
            refine ⟨A, xs, _, rfl, rfl, hR.hA, small200 hR.sx, ?_⟩
            refine ⟨_, rfl, _, rfl, rfl, _, rfl, ?_⟩
            rw [decide_eq_false (by intro z; have := V.int.inj z; omega)]
            refine iteF ⟨_, rfl, ?_⟩
            exact hq
        · rw [decide_eq_false h45]
          refine iteF ⟨_, rfl, rfl, _, rfl, ?_⟩
          (try rw [lit_empty]); rw [eqS, decide_eq_false (by intro z; cases z)]
          refine iteT ⟨_, rfl, _, _, rfl, rfl, _, rfl, ?_⟩
          rw [tlS, digL_is]
          by_cases hD : isD c = true
          · rw [hD]
            refine iteT ⟨_, rfl, _, rfl, t, i, c, r, rfl, ht, hd, .inr hD, fun h48 => ?_, fun z => absurd z h45, fun _ z => absurd z h45, fun h48 _ => ?_⟩
            · subst h48
              have hq := qitem (.num 0) 1 (by
                simp only [vs1]
                rw [if_neg h40', if_neg hL, if_pos trivial])
              refine ⟨.ref R, rfl, 1, rfl, R, _, -1, _, rfl, rfl, hRl, last_of as A, .inl ⟨rfl, _, .inl (.inl hR.hA)⟩, ?_⟩
              refine ⟨_, rfl, _, rfl, _, rfl, _, rfl, _, rfl, _, rfl, S_line ht, ?_⟩
              rw [slice_ij hi, hd, show i + 1 - i = 1 by omega]
              refine ⟨_, 0, rfl, (by decide +kernel : PySem.intText? (S ((48 :: ([] : List Nat)))) = some 0), by show 1 ≤ 640; decide, ?_⟩
              refine ⟨A, xs, _, rfl, rfl, hR.hA, small200 hR.sx, ?_⟩
              refine ⟨_, rfl, _, rfl, rfl, _, rfl, ?_⟩
              rw [decide_eq_false (by intro z; have := V.int.inj z; omega)]
              refine iteF ⟨_, rfl, ?_⟩
              exact hq
            · have hq := qitem (.num ((PySem.NumText.digitsVal ((c :: r).take (run isD 200 (c :: r))) : Nat) : Int)) (run isD 200 (c :: r)) (by
                simp only [vs1]
                rw [if_neg h40', if_neg hL, if_neg h48, if_neg h45, if_pos hD])
              have hrun : run isD 200 (c :: r) = run isD 199 r + 1 := run_cons hD
              have hle := run_le isD 200 (c :: r)
              refine ⟨.ref R, rfl, 1, rfl, R, _, -1, _, rfl, rfl, hRl, last_of as A, .inl ⟨rfl, _, .inl (.inl hR.hA)⟩, ?_⟩
              refine ⟨_, rfl, _, rfl, _, rfl, _, rfl, _, rfl, _, rfl, S_line ht, ?_⟩
              rw [slice_ij hi, hd, show i + run isD 200 (c :: r) - i = run isD 200 (c :: r) by omega]
              have hlk : ((c :: r).take (run isD 200 (c :: r))).length = run isD 200 (c :: r) := by rw [List.length_take]; omega
              refine ⟨_, _, rfl, int_pos (digs 200 (c :: r)) (by intro z; rw [z] at hlk; rw [hrun] at hlk; cases hlk) (by omega), by rw [SX.S_len]; omega, ?_⟩
              refine ⟨A, xs, _, rfl, rfl, hR.hA, small200 hR.sx, ?_⟩
              refine ⟨_, rfl, _, rfl, rfl, _, rfl, ?_⟩
              rw [decide_eq_false (by intro z; have := V.int.inj z; omega)]
              refine iteF ⟨_, rfl, ?_⟩
              exact hq
          · rw [Bool.eq_false_iff.mpr hD]
            refine iteF ⟨_, rfl, _, rfl, rfl, _, rfl, ?_⟩
            rw [decide_eq_true rfl]
            refine iteT ⟨_, rfl, _, rfl, ?_⟩
            refine qbad 0 ?_
            simp only [vs1]
            rw [if_neg h40', if_neg hL, if_neg (by intro z; rw [z] at hD; exact hD rfl), if_neg h45, if_neg hD]
end
end Kz
/-! KzDefs2 -/
set_option Elab.async false
set_option linter.all false
set_option maxRecDepth 100000
set_option maxHeartbeats 2000000
namespace Kz
open PySem PySem.Spec PyProof.Rows L2
open SX (S)
/-- what a value_start from the place i leaves to its caller -/
structure VsOut (C : Addr) (H : Hp) (Q : VK) (E : XK) (t : List Nat) (i : Nat) (R A : Addr) (as : List Addr) (xs : List V) : Prop where
  push : vs1 (as.length + 1) (t.drop i) = .push → ∀ p, H p = none → Q (.int ((i + 1 : Nat) : Int)) (upd (upd H p (.lst [])) R (.lst ((as ++ [A, p]).map V.ref)))
  item : ∀ v k, vs1 (as.length + 1) (t.drop i) = .item v k → Q (.int ((i + k : Nat) : Int)) (upd H A (.lst (xs ++ [leafV v])))
  bad : ∀ k, vs1 (as.length + 1) (t.drop i) = .bad k → Bad C E H (i + k)
theorem VsOut.sp {C : Addr} {H : Hp} {Q : VK} {E : XK} {t : List Nat} {i : Nat} {R A : Addr} {as : List Addr} {xs : List V} (h : VsOut C H Q E t i R A as xs) (ht : t.length ≤ 100000) (hi : i ≤ t.length) (hR : RowsAt H R as A xs) :
    spVS C [.str (S t), .int (i : Int), .ref R] H Q E := ⟨t, i, R, A, as, xs, rfl, ht, hi, hR, h.push, h.item, h.bad⟩
theorem VsOut.sp0 {C : Addr} {H : Hp} {Q : VK} {E : XK} {t : List Nat} {R A : Addr} {as : List Addr} {xs : List V} (h : VsOut C H Q E t 0 R A as xs) (ht : t.length ≤ 100000) (hR : RowsAt H R as A xs) :
    spVS C [.str (S t), .int 0, .ref R] H Q E := h.sp ht (Nat.zero_le _) hR
/-! ### next_part(text, at, rows): slots text at rows sign row -/
structure NpOut (C : Addr) (H : Hp) (Q : VK) (E : XK) (t : List Nat) (i : Nat) (R A B : Addr) (as : List Addr) (xs ys : List V) : Prop where
  close : (t.drop i).head? = some 41 → ∀ p, H p = none → Q (.int ((i + 1 : Nat) : Int)) (upd (upd (upd H R (.lst ((as ++ [B]).map V.ref))) p (.tup xs)) B (.lst (ys ++ [.ref p])))
  here : (t.drop i).head? ≠ some 41 → xs = [] → VsOut C H Q E t i R A (as ++ [B]) xs
  next : (t.drop i).head? = some 32 → xs ≠ [] → VsOut C H Q E t (i + 1) R A (as ++ [B]) xs
  bad : (t.drop i).head? ≠ some 41 → (t.drop i).head? ≠ some 32 → xs ≠ [] → Bad C E H i
def spNP (C : Addr) : Sp := fun vs H Q E => ∃ (t : List Nat) (i : Nat) (R A B : Addr) (as : List Addr) (xs ys : List V), vs = [.str (S t), .int (i : Int), .ref R] ∧ t.length ≤ 100000 ∧ i ≤ t.length ∧ RowsAt H R (as ++ [B]) A xs ∧
  H B = some (.lst ys) ∧ R ≠ B ∧ A ≠ B ∧ ys.length ≤ 200000 ∧ NpOut C H Q E t i R A B as xs ys
theorem scNP : FnScope ["text", "at", "rows", "sign", "row"] ["text", "at", "rows"] (defScope sNP) := ⟨rfl, rfl, rfl, by decide +kernel, rfl, by decide +kernel, by decide +kernel⟩
section
variable {P : Program} {w : World} {K : PySem.W.Frag} {mg : Str → Option Value} {base : Heap} {f : Addr} {fd : FuncData} {C fI cc : Addr}
theorem ok_np {fE fN fV : Addr} {fdE fdN fdV : FuncData} (T : Txt P K mg C fI cc) (F : Fun K "next_part" "next_part" sNP f fd) (FE : Fun K "end_of" "end_of" sEO fE fdE) (bE : Binds K fdE ["text", "at", "letters", "most"] []) (mE : mg "end_of" = some (.ref fE))
    (FN : Fun K "number_end" "number_end" sNE fN fdN) (bN : Binds K fdN ["text", "at"] []) (mN : mg "number_end" = some (.ref fN))
    (FV : Fun K "value_start" "value_start" sVS fV fdV) (bV : Binds K fdV ["text", "at", "rows"] []) (mV : mg "value_start" = some (.ref fV)) :
    FnOk P w K mg base (L2.CX P w) 6 f fd ["text", "at", "rows"] (spNP C) := by
  refine F.okX scNP (fun vs H Q E h => ?_) (fun cdv A outer s H vs Q E hr h => ?_)
  · obtain ⟨t, i, R, A, B, as, xs, ys, rfl, _⟩ := h
    rfl
  obtain ⟨t, i, R, A, B, as, xs, ys, rfl, ht, hi, hR, hB, nRB, nAB, hys, q⟩ := h
  have GV : FnOk P w K mg base (L2.CX P w) 5 fV fdV ["text", "at", "rows"] (spVS C) := ok_vs T FV FE bE mE FN bN mN
  refine ⟨_, pss_cons (ps_set (i := 3) scNP.nd rfl (Or.inl rfl) (pe_slice C8.sl_txt (pv 0) (po_some (pv 1)) (po_some (pe_op op_add (pv 1) pe_int))))
    (pss_cons (ps_if (pt_cmpR op_eq (pv 3) pe_str (nomark _))
      (pss_cons (ps_set (i := 4) scNP.nd rfl (Or.inl rfl) (pe_tupleOf rfl T.mtup (pe_bm0 PySem.F.plainAttrs_list PySem.F.slot_list_pop PySem.F.type_list_pop mt_pop (pv 2))))
        (pss_cons (ps_expr (pe_bm PySem.F.plainAttrs_list PySem.F.slot_list_append PySem.F.type_list_append mt_append (pe_ix ix_list (pv 2) (pe_un un_neg pe_int) (fun _ _ => rfl)) (pa_cons (pv 4) pa_nil)))
          (pss_one (ps_ret (pe_op op_add (pv 1) pe_int))))) pss_nil)
    (pss_cons (ps_if (pt_not (pt_truth (pe_ix ix_list (pv 2) (pe_un un_neg pe_int) (fun _ _ => rfl)) (fun _ => rfl)))
      (pss_one (ps_ret (pe_call (E := E) GV hr rfl mV FV.kp bV .nil (passes_call (takes_of rfl rfl rfl rfl) (fun _ _ _ _ h => h)) (pa_cons (pv 0) (pa_cons (pv 1) (pa_cons (pv 2) pa_nil)))))) pss_nil)
    (pss_cons (ps_if (pt_cmpR op_eq (pv 3) pe_str (nomark _))
      (pss_one (ps_ret (pe_call (E := E) GV hr rfl mV FV.kp bV .nil (passes_call (takes_of rfl rfl rfl rfl) (fun _ _ _ _ h => h)) (pa_cons (pv 0) (pa_cons (pe_op op_add (pv 1) pe_int) (pa_cons (pv 2) pa_nil)))))) pss_nil)
    (pss_one (ps_raiseX rfl T.err hr (takes_of rfl rfl rfl rfl) (pa_cons (pv 1) pa_nil) rfl))))), ?_⟩
  refine ⟨_, rfl, _, rfl, _, rfl, _, rfl, _, _, rfl, rfl, _, rfl, _, rfl, S_line ht, ?_⟩
  rw [show ((i : Int) + 1) = ((i + 1 : Nat) : Int) from rfl, slice_ij hi, show i + 1 - i = 1 by omega]
  have hRl : SqL K H R ((as ++ [B] ++ [A]).map V.ref) := .inl (.inl hR.hR)
  have hAl : SqL K H A xs := .inl (.inl hR.hA)
  have tk : ∀ n : Nat, ((t.drop i).take 1 = [n]) ↔ (t.drop i).head? = some n := by
    intro n
    cases t.drop i with
    | nil => simp
    | cons c r => simp
  refine ⟨_, rfl, rfl, _, rfl, ?_⟩
  (try rw [lit_close]); rw [eqS]
  by_cases h41 : (t.drop i).head? = some 41
  · rw [decide_eq_true ((tk 41).mpr h41)]
    refine iteT ⟨_, rfl, .inl ⟨rfl, _, hRl⟩, ?_⟩
    have hpop : ((as ++ [B] ++ [A]).map V.ref)[((as ++ [B] ++ [A]).map V.ref).length - 1]? = some (V.ref A) := by
      rw [List.map_append, List.map_singleton, List.length_append, List.length_singleton, Nat.add_sub_cancel, List.getElem?_append_right (Nat.le_refl _), Nat.sub_self]
      rfl
    have hdl : ((as ++ [B] ++ [A]).map V.ref).dropLast = (as ++ [B]).map V.ref := by
      rw [List.map_append, List.map_singleton, List.dropLast_concat]
    refine ⟨R, _, _, rfl, rfl, hR.hR, hpop, ?_⟩
    rw [hdl]
    refine .inl ⟨A, xs, rfl, .inl (.inl ((upd_ne hR.ne.symm).trans hR.hA)), fun p hp => ?_⟩
    have hpR : p ≠ R := fun e => by rw [e, upd_same] at hp; cases hp
    have hpn : H p = none := by rw [upd_ne hpR] at hp; exact hp
    have hpB : p ≠ B := fun e => by rw [e, hB] at hpn; cases hpn
    refine ⟨.ref R, rfl, 1, rfl, R, _, -1, _, rfl, rfl, .inl (.inl ((upd_ne hpR.symm).trans upd_same)), last_of as B, .inl ⟨rfl, _, .inl (.inl ((upd_ne hpB.symm).trans ((upd_ne nRB.symm).trans hB)))⟩, ?_⟩
    refine ⟨_, rfl, B, ys, _, rfl, rfl, (upd_ne hpB.symm).trans ((upd_ne nRB.symm).trans hB), small200 hys, ?_⟩
    exact ⟨_, rfl, _, _, rfl, rfl, q.close h41 p hpn⟩
  · rw [decide_eq_false (fun z => h41 ((tk 41).mp z))]
    refine iteF ⟨.ref R, rfl, 1, rfl, R, _, -1, _, rfl, rfl, hRl, last_of (as ++ [B]) A, _, .inl ⟨xs, hAl, rfl⟩, ?_⟩
    cases xs with
    | nil =>
      refine iteT ⟨_, rfl, _, rfl, _, rfl, ?_⟩
      exact (q.here h41 rfl).sp ht hi hR
    | cons x xs =>
      refine iteF ⟨_, rfl, rfl, _, rfl, ?_⟩
      (try rw [lit_space]); rw [eqS]
      by_cases h32 : (t.drop i).head? = some 32
      · rw [decide_eq_true ((tk 32).mpr h32)]
        refine iteT ⟨_, rfl, _, rfl, _, _, rfl, rfl, _, rfl, ?_⟩
        have hlt : i < t.length := by
          refine Decidable.byContradiction fun z => ?_
          rw [List.drop_eq_nil_of_le (by omega)] at h32
          cases h32
        exact (q.next h32 (by simp)).sp ht (by omega) hR
      · rw [decide_eq_false (fun z => h32 ((tk 32).mp z))]
        refine iteF ⟨_, rfl, _, rfl, ?_⟩
        exact q.bad h41 h32 (by simp)
end
/-! ### a value in the heap -/
mutual
def Rep (H : Hp) : Val → V → Prop
  | .num n, x => x = .int n
  | .word w, x => x = .str (S w)
  | .tup vs, x => ∃ a xs, x = .ref a ∧ H a = some (.tup xs) ∧ Reps H vs xs
def Reps (H : Hp) : List Val → List V → Prop
  | [], xs => xs = []
  | v :: r, xs => ∃ y ys, xs = y :: ys ∧ Rep H v y ∧ Reps H r ys
end
/-- what was a tuple is one -/
def Tups (H H' : Hp) : Prop := ∀ a xs, H a = some (.tup xs) → H' a = some (.tup xs)
theorem Tups.of_same {H H' : Hp} (h : Same H H') : Tups H H' := fun a xs e => h a _ e
theorem Tups.trans {H H1 H2 : Hp} (a : Tups H H1) (b : Tups H1 H2) : Tups H H2 := fun c o h => b c o (a c o h)
theorem Tups.new {H : Hp} {p : Addr} {o : HO} (h : H p = none) : Tups H (upd H p o) := fun a xs e => (upd_ne (ne_of_none e h)).trans e
theorem Tups.lst {H : Hp} {p : Addr} {xs : List V} {o : HO} (h : H p = some (.lst xs)) : Tups H (upd H p o) := fun a ys e => (upd_ne (ne_of e h (by intro z; cases z))).trans e
mutual
theorem Rep.mono {H H' : Hp} (h : Tups H H') : ∀ (v : Val) (x : V), Rep H v x → Rep H' v x
  | .num _, _, r => r
  | .word _, _, r => r
  | .tup vs, x, r => by
    obtain ⟨a, xs, e, ha, rs⟩ := r
    exact ⟨a, xs, e, h a xs ha, Reps.mono h vs xs rs⟩
theorem Reps.mono {H H' : Hp} (h : Tups H H') : ∀ (vs : List Val) (xs : List V), Reps H vs xs → Reps H' vs xs
  | [], _, r => r
  | v :: r, xs, rs => by
    obtain ⟨y, ys, e, r1, r2⟩ := rs
    exact ⟨y, ys, e, Rep.mono h v y r1, Reps.mono h r ys r2⟩
end
theorem Reps.len {H : Hp} : ∀ {vs : List Val} {xs : List V}, Reps H vs xs → xs.length = vs.length
  | [], xs, h => by
    have h' : xs = [] := h
    rw [h']
    rfl
  | v :: r, xs, h => by
    obtain ⟨y, ys, e, _, r2⟩ := h
    rw [e, List.length_cons, List.length_cons, Reps.len r2]
theorem Reps.snoc {H : Hp} {v : Val} {y : V} (hv : Rep H v y) : ∀ {vs : List Val} {xs : List V}, Reps H vs xs → Reps H (vs ++ [v]) (xs ++ [y])
  | [], xs, h => by
    have h' : xs = [] := h
    rw [h']
    exact ⟨y, [], rfl, hv, rfl⟩
  | u :: r, xs, h => by
    obtain ⟨z, zs, e, h1, h2⟩ := h
    rw [e]
    exact ⟨z, zs ++ [y], rfl, h1, Reps.snoc hv h2⟩
theorem rep_leaf {H : Hp} : ∀ {v : Val}, dep v = 0 → Rep H v (leafV v)
  | .num _, _ => rfl
  | .word _, _ => rfl
  | .tup vs, h => by
    simp only [dep] at h
    omega
def StkAt (H : Hp) : Stk → List Addr → Prop
  | [], [] => True
  | row :: st, r :: rs => (∃ xs, H r = some (.lst xs) ∧ Reps H row xs) ∧ r ∉ rs ∧ StkAt H st rs
  | _, _ => False
theorem StkAt.mono {H H' : Hp} (ht : Tups H H') : ∀ {st : Stk} {rs : List Addr}, (∀ r ∈ rs, ∀ xs, H r = some (.lst xs) → H' r = some (.lst xs)) → StkAt H st rs → StkAt H' st rs
  | [], [], _, _ => trivial
  | row :: st, r :: rs, hl, h => by
    obtain ⟨⟨xs, e, hr⟩, hn, h2⟩ := h
    exact ⟨⟨xs, hl r List.mem_cons_self xs e, Reps.mono ht _ _ hr⟩, hn, StkAt.mono ht (fun r' hr' => hl r' (List.mem_cons_of_mem _ hr')) h2⟩
  | [], _ :: _, _, h => h.elim
  | _ :: _, [], _, h => h.elim
theorem StkAt.len {H : Hp} : ∀ {st : Stk} {rs : List Addr}, StkAt H st rs → rs.length = st.length
  | [], [], _ => rfl
  | _ :: st, _ :: rs, h => by rw [List.length_cons, List.length_cons, StkAt.len h.2.2]
  | [], _ :: _, h => h.elim
  | _ :: _, [], h => h.elim
structure HPart (H0 H : Hp) (R : Addr) (st : Stk) (rs : List Addr) (n : Nat) : Prop where
  stk : StkAt H st rs
  hR : H R = some (.lst (rs.reverse.map V.ref))
  nR : R ∉ rs
  same : Same H0 H
  oR : H0 R = none
  ors : ∀ r ∈ rs, H0 r = none
  row : ∀ row ∈ st, row.length ≤ n
theorem HPart.push {H0 H : Hp} {R p : Addr} {st : Stk} {rs : List Addr} {n m : Nat} (h : HPart H0 H R st rs n) (hp : H p = none) (hm : n ≤ m) :
    HPart H0 (upd (upd H p (.lst [])) R (.lst ((rs.reverse ++ [p]).map V.ref))) R ([] :: st) (p :: rs) m := by
  have hpR : p ≠ R := fun e => by rw [e, h.hR] at hp; cases hp
  have hprs : ∀ r ∈ rs, ∃ xs, H r = some (.lst xs) := by
    have := h.stk
    clear h
    induction rs generalizing st with
    | nil => intro r hr; cases hr
    | cons a rs ih =>
      cases st with
      | nil => exact this.elim
      | cons row st =>
        obtain ⟨⟨xs, e, _⟩, _, h2⟩ := this
        intro r hr
        rcases List.mem_cons.mp hr with rfl | hr
        · exact ⟨xs, e⟩
        · exact ih h2 r hr
  have hpn : p ∉ rs := fun hm' => by
    obtain ⟨xs, e⟩ := hprs p hm'
    rw [hp] at e
    cases e
  have h1 : (upd H p (.lst [])) R = some (.lst (rs.reverse.map V.ref)) := (upd_ne hpR.symm).trans h.hR
  have tps : Tups H (upd (upd H p (.lst [])) R (.lst ((rs.reverse ++ [p]).map V.ref))) := Tups.trans (Tups.new hp) (Tups.lst h1)
  refine ⟨⟨⟨[], (upd_ne hpR).trans upd_same, rfl⟩, hpn, h.stk.mono tps fun r hr xs e => ?_⟩, ?_, ?_, ?_, h.oR, ?_, ?_⟩
  · rw [upd_ne (fun z => h.nR (by rw [← z]; exact hr)), upd_ne (ne_of_none e hp)]
    exact e
  · rw [List.reverse_cons]
    exact upd_same
  · intro z
    rcases List.mem_cons.mp z with z | z
    · exact hpR z.symm
    · exact h.nR z
  · intro b o e
    rw [upd_ne (fun z => by rw [z, h.oR] at e; cases e), upd_ne (ne_of_none (h.same b o e) hp)]
    exact h.same b o e
  · intro r hr
    rcases List.mem_cons.mp hr with rfl | hr
    · cases e : H0 r with
      | none => rfl
      | some o => rw [h.same r o e] at hp; cases hp
    · exact h.ors r hr
  · intro row hr
    rcases List.mem_cons.mp hr with rfl | hr
    · exact Nat.zero_le _
    · exact Nat.le_trans (h.row row hr) hm
theorem HPart.item {H0 H : Hp} {R A : Addr} {top : List Val} {st : Stk} {rs : List Addr} {n m : Nat} {xs : List V} {v : Val} (h : HPart H0 H R (top :: st) (A :: rs) n) (hA : H A = some (.lst xs)) (hv : dep v = 0) (hm : n + 1 ≤ m) :
    HPart H0 (upd H A (.lst (xs ++ [leafV v]))) R ((top ++ [v]) :: st) (A :: rs) m := by
  obtain ⟨⟨xs', e', hr⟩, hn, h2⟩ := h.stk
  have ex : xs' = xs := by rw [hA] at e'; injection e' with e'; injection e' with e'; exact e'.symm
  subst ex
  have tps : Tups H (upd H A (.lst (xs' ++ [leafV v]))) := Tups.lst hA
  have nRA : R ≠ A := fun z => h.nR (by rw [z]; exact List.mem_cons_self)
  refine ⟨⟨⟨_, upd_same, Reps.snoc (rep_leaf hv) (Reps.mono tps _ _ hr)⟩, hn, h2.mono tps fun r hr' ys e => ?_⟩, (upd_ne nRA).trans h.hR, h.nR, ?_, h.oR, h.ors, ?_⟩
  · rw [upd_ne (fun z => hn (by rw [← z]; exact hr'))]
    exact e
  · intro b o e
    rw [upd_ne (fun z => by rw [z, h.ors A List.mem_cons_self] at e; cases e)]
    exact h.same b o e
  · intro row hr'
    rcases List.mem_cons.mp hr' with rfl | hr'
    · have := h.row top List.mem_cons_self
      rw [List.length_append, List.length_singleton]
      omega
    · have := h.row row (List.mem_cons_of_mem _ hr')
      omega
theorem HPart.close {H0 H : Hp} {R A B p : Addr} {top q : List Val} {st : Stk} {rs : List Addr} {n m : Nat} {xs ys : List V} (h : HPart H0 H R (top :: q :: st) (A :: B :: rs) n) (hA : H A = some (.lst xs)) (hB : H B = some (.lst ys)) (hp : H p = none)
    (hm : n + 1 ≤ m) : HPart H0 (upd (upd (upd H R (.lst ((rs.reverse ++ [B]).map V.ref))) p (.tup xs)) B (.lst (ys ++ [.ref p]))) R ((q ++ [.tup top]) :: st) (B :: rs) m := by
  obtain ⟨⟨xs', e', hr⟩, hn, ⟨ys', e2, hr2⟩, hn2, h2⟩ := h.stk
  have ex : xs' = xs := by rw [hA] at e'; injection e' with e'; injection e' with e'; exact e'.symm
  have ey : ys' = ys := by rw [hB] at e2; injection e2 with e2; injection e2 with e2; exact e2.symm
  subst ex ey
  have nRB : R ≠ B := fun z => h.nR (by rw [z]; exact List.mem_cons_of_mem _ List.mem_cons_self)
  have hpR : p ≠ R := fun e => by rw [e, h.hR] at hp; cases hp
  have hpB : p ≠ B := fun e => by rw [e, hB] at hp; cases hp
  have b1 : (upd (upd H R (.lst ((rs.reverse ++ [B]).map V.ref))) p (.tup xs')) B = some (.lst ys') := (upd_ne hpB.symm).trans ((upd_ne nRB.symm).trans hB)
  have tps : Tups H (upd (upd (upd H R (.lst ((rs.reverse ++ [B]).map V.ref))) p (.tup xs')) B (.lst (ys' ++ [.ref p]))) :=
    Tups.trans (Tups.lst h.hR) (Tups.trans (Tups.new ((upd_ne hpR).trans hp)) (Tups.lst b1))
  have hpt : (upd (upd (upd H R (.lst ((rs.reverse ++ [B]).map V.ref))) p (.tup xs')) B (.lst (ys' ++ [.ref p]))) p = some (.tup xs') := (upd_ne hpB).trans upd_same
  refine ⟨⟨⟨_, upd_same, Reps.snoc (v := .tup top) (y := .ref p) (by simp only [Rep]; exact ⟨p, xs', rfl, hpt, Reps.mono tps _ _ hr⟩) (Reps.mono tps _ _ hr2)⟩, hn2, h2.mono tps fun r hr' zs e => ?_⟩, ?_, fun z => h.nR (List.mem_cons_of_mem _ z), ?_, h.oR, fun r hr' => h.ors r (List.mem_cons_of_mem _ hr'), ?_⟩
  · rw [upd_ne (fun z => hn2 (by rw [← z]; exact hr')), upd_ne (ne_of_none e hp), upd_ne (fun z => h.nR (by rw [← z]; exact List.mem_cons_of_mem _ (List.mem_cons_of_mem _ hr')))]
    exact e
  · rw [upd_ne nRB, upd_ne hpR.symm, upd_same, List.reverse_cons]
  · intro b o e
    have hb := h.same b o e
    rw [upd_ne (fun z => by rw [z, h.ors B (List.mem_cons_of_mem _ List.mem_cons_self)] at e; cases e), upd_ne (ne_of_none hb hp), upd_ne (fun z => by rw [z, h.oR] at e; cases e)]
    exact hb
  · intro row hr'
    rcases List.mem_cons.mp hr' with rfl | hr'
    · have := h.row q (List.mem_cons_of_mem _ List.mem_cons_self)
      rw [List.length_append, List.length_singleton]
      omega
    · have := h.row row (List.mem_cons_of_mem _ (List.mem_cons_of_mem _ hr'))
      omega
/-! ### read_value(text): slots text rows at -/
def spRV (C : Addr) : Sp := fun vs H Q E => ∃ (t : List Nat), vs = [.str (S t)] ∧ t.length ≤ 100000 ∧
  (∀ e H', parse t = .error e → Same H H' → Bad C E H' (t.length - e)) ∧ (∀ v x H', parse t = .ok v → Same H H' → Rep H' v x → Q x H')
theorem scRV : FnScope ["text", "rows", "at"] ["text"] (defScope sRV) := ⟨rfl, rfl, rfl, by decide +kernel, rfl, by decide +kernel, by decide +kernel⟩
/-- between two turns -/
structure LInv (H0 H : Hp) (R : Addr) (t : List Nat) (st : Stk) (rs : List Addr) (i : Nat) : Prop where
  inv : Inv t st (t.drop i)
  le : i ≤ t.length
  fin : fin (lp st (t.drop i)) = parse t
  hp : HPart H0 H R st rs i
  deep : st.length ≤ 101
theorem inv_len {t : List Nat} {st : Stk} {s : List Nat} (I : Inv t st s) : 1 ≤ st.length := by
  rcases I.base with ⟨v, rfl⟩ | h
  · exact Nat.le_refl _
  · omega
theorem vs1_push {n : Nat} {s : List Nat} (h : vs1 n s = .push) : n ≤ 100 := by
  cases s with
  | nil => cases h
  | cons c r =>
    simp only [vs1] at h
    by_cases h1 : c = 40 ∧ n ≤ 100
    · exact h1.2
    · exfalso
      rw [if_neg h1] at h
      split at h
      · cases h
      · split at h
        · cases h
        · split at h
          · split at h <;> cases h
          · split at h <;> cases h
theorem row_of {H0 H : Hp} {R : Addr} {top : List Val} {rest : Stk} {rs : List Addr} {n : Nat} (h : HPart H0 H R (top :: rest) rs n) : ∃ A rs' xs, rs = A :: rs' ∧ H A = some (.lst xs) ∧ xs.length = top.length ∧ (xs = [] ↔ top = []) := by
  have := h.stk
  cases rs with
  | nil => exact this.elim
  | cons A rs' =>
    obtain ⟨⟨xs, e, hr⟩, _, _⟩ := this
    have hl := hr.len
    refine ⟨A, rs', xs, rfl, e, hl, ?_⟩
    rw [← List.length_eq_zero_iff, hl, List.length_eq_zero_iff]
theorem rowsAt_of {H0 H : Hp} {R A : Addr} {st : Stk} {rs' : List Addr} {n : Nat} {xs : List V} (h : HPart H0 H R st (A :: rs') n) (hA : H A = some (.lst xs)) (hd : st.length ≤ 101) (hx : xs.length ≤ 200000) : RowsAt H R rs'.reverse A xs := by
  refine ⟨?_, hA, fun z => h.nR (by rw [z]; exact List.mem_cons_self), ?_, hx⟩
  · have := h.hR
    rw [List.reverse_cons] at this
    exact this
  · have := h.stk.len
    rw [List.length_cons] at this
    rw [List.length_reverse]
    omega
/-- a value_start from j on, e signs further than the turn's place i -/
theorem vs_turn {C : Addr} {H0 H : Hp} {R A : Addr} {t : List Nat} {top : List Val} {rest : Stk} {rs' : List Addr} {i j e : Nat} {xs : List V} {Q : VK} {E : XK} (hj : j = i + e) (hjl : j ≤ t.length) (hp : HPart H0 H R (top :: rest) (A :: rs') i) (hA : H A = some (.lst xs)) (hdeep : (top :: rest).length ≤ 101)
    (hput : match put (top :: rest) (vs1 (rest.length + 1) (t.drop j)) e with
      | .bad k => ∃ q, k = e + q ∧ q ≤ (t.drop j).length ∧ parse t = .error ((t.drop j).length - q)
      | .ok st' k => ∃ q, k = e + q ∧ 1 ≤ q ∧ q ≤ (t.drop j).length ∧ Inv t st' ((t.drop j).drop q) ∧ fin (lp st' ((t.drop j).drop q)) = parse t)
    (hb : ∀ x, parse t = .error x → Bad C E H (t.length - x)) (hn : ∀ st' rs2 n H2, LInv H0 H2 R t st' rs2 n → i < n → Q (.int ((n : Nat) : Int)) H2) :
    VsOut C H Q E t j R A rs'.reverse xs := by
  have hlr : rs'.length = rest.length := by
    have := hp.stk.len
    simpa using this
  have hlen : rs'.reverse.length + 1 = rest.length + 1 := by rw [List.length_reverse, hlr]
  constructor
  · intro hv p hpn
    rw [hlen] at hv
    rw [hv] at hput
    obtain ⟨q, hk, q1, q2, hI, hf⟩ := hput
    have : q = 1 := by
      have : e + 1 = e + q := hk
      omega
    subst this
    rw [List.drop_drop] at hI hf
    have hp2 := hp.push (m := j + 1) hpn (by omega)
    rw [List.reverse_cons, List.append_assoc] at hp2
    refine hn _ _ (j + 1) _ ⟨hI, ?_, hf, hp2, ?_⟩ (by omega)
    · rw [List.length_drop] at q2; omega
    · have := vs1_push hv
      simp only [List.length_cons]
      omega
  · intro v k hv
    rw [hlen] at hv
    have hvp := vs1_ok rest.length (t.drop j)
    rw [hv] at hput hvp
    obtain ⟨q, hk, q1, q2, hI, hf⟩ := hput
    have : q = k := by
      have : e + k = e + q := hk
      omega
    subst this
    rw [List.drop_drop] at hI hf
    refine hn _ _ (j + q) _ ⟨hI, ?_, hf, hp.item hA hvp.2.2.2.2.1 (by omega), hdeep⟩ (by omega)
    rw [List.length_drop] at q2; omega
  · intro k hv
    rw [hlen] at hv
    rw [hv] at hput
    obtain ⟨q, hk, q2, hpar⟩ := hput
    have : q = k := by
      have : e + k = e + q := hk
      omega
    subst this
    have := hb _ hpar
    rw [List.length_drop] at this q2
    rw [show t.length - (t.length - j - q) = j + q by omega] at this
    exact this
section
variable {P : Program} {w : World} {K : PySem.W.Frag} {mg : Str → Option Value} {base : Heap} {f : Addr} {fd : FuncData} {C fI cc : Addr}
/-- one turn: what next_part may leave -/
theorem np_turn {C : Addr} {H0 H : Hp} {R A B : Addr} {t : List Nat} {top q : List Val} {rest : Stk} {rs' : List Addr} {i : Nat} {xs ys : List V} {Q : VK} {E : XK} (L : LInv H0 H R t (top :: q :: rest) (A :: B :: rs') i) (hA : H A = some (.lst xs)) (hB : H B = some (.lst ys))
    (hx : xs.length = top.length) (he : xs = [] ↔ top = []) (hb : ∀ x, parse t = .error x → Bad C E H (t.length - x)) (hn : ∀ st' rs2 n H2, LInv H0 H2 R t st' rs2 n → i < n → Q (.int ((n : Nat) : Int)) H2) :
    NpOut C H Q E t i R A B rs'.reverse xs ys := by
  have h2 : 2 ≤ (top :: q :: rest).length := by simp
  have hns := nx_sound L.inv h2
  have hnx : nx (top :: q :: rest) (t.drop i) = (if (t.drop i).head? = some 41 then .ok ((q ++ [.tup top]) :: rest) 1
    else if top.isEmpty = true then put (top :: q :: rest) (vs1 (top :: q :: rest).length (t.drop i)) 0
    else if (t.drop i).head? = some 32 then put (top :: q :: rest) (vs1 (top :: q :: rest).length ((t.drop i).drop 1)) 1
    else .bad 0) := by simp only [nx]
  have hrev : (B :: rs').reverse = rs'.reverse ++ [B] := List.reverse_cons
  have hlen : (t.drop i).length = t.length - i := List.length_drop
  have hemp : top.isEmpty = true ↔ xs = [] := by rw [List.isEmpty_iff]; exact he.symm
  constructor
  · intro h41 p hp
    have e : nx (top :: q :: rest) (t.drop i) = .ok ((q ++ [.tup top]) :: rest) 1 := by rw [hnx, if_pos h41]
    rw [e] at hns
    obtain ⟨k1, k2, hI⟩ := hns
    have hl := lp_ok h2 e k1 k2
    have hf := L.fin
    rw [hl] at hf
    rw [List.drop_drop] at hI hf
    refine hn _ _ (i + 1) _ ⟨hI, by omega, hf, L.hp.close hA hB hp (Nat.le_refl _), ?_⟩ (by omega)
    have := L.deep
    simp only [List.length_cons] at this ⊢
    omega
  · intro h41 hxs
    have e : nx (top :: q :: rest) (t.drop i) = put (top :: q :: rest) (vs1 ((q :: rest).length + 1) (t.drop i)) 0 := by
      rw [hnx, if_neg h41, if_pos (hemp.mpr hxs)]
      rfl
    rw [← hrev]
    refine vs_turn (e := 0) rfl L.le L.hp hA L.deep ?_ hb hn
    cases ho : put (top :: q :: rest) (vs1 ((q :: rest).length + 1) (t.drop i)) 0 with
    | bad k =>
      rw [ho] at e
      rw [e] at hns
      have hf := L.fin
      rw [lp_bad h2 e] at hf
      exact ⟨k, by omega, hns.1, hf.symm⟩
    | ok st' k =>
      rw [ho] at e
      rw [e] at hns
      obtain ⟨k1, k2, hI⟩ := hns
      have hf := L.fin
      rw [lp_ok h2 e k1 k2] at hf
      exact ⟨k, by omega, k1, k2, hI, hf⟩
  · intro h32 hxs
    have h41 : (t.drop i).head? ≠ some 41 := by rw [h32]; intro z; cases z
    have e : nx (top :: q :: rest) (t.drop i) = put (top :: q :: rest) (vs1 ((q :: rest).length + 1) (t.drop (i + 1))) 1 := by
      rw [hnx, if_neg h41, if_neg (fun z => hxs (hemp.mp z)), if_pos h32, List.drop_drop]
      rfl
    obtain ⟨r, hr⟩ := head_cons h32
    have hlt := (drop_at hr).2.1
    rw [← hrev]
    refine vs_turn (e := 1) rfl hlt L.hp hA L.deep ?_ hb hn
    have hlen1 : (t.drop (i + 1)).length = t.length - (i + 1) := List.length_drop
    cases ho : put (top :: q :: rest) (vs1 ((q :: rest).length + 1) (t.drop (i + 1))) 1 with
    | bad k =>
      rw [ho] at e
      rw [e] at hns
      have hf := L.fin
      rw [lp_bad h2 e] at hf
      have hk : 1 ≤ k := by
        cases hv : vs1 ((q :: rest).length + 1) (t.drop (i + 1)) with
        | push => rw [hv] at ho; cases ho
        | item v j => rw [hv] at ho; cases ho
        | bad j =>
          rw [hv] at ho
          have : 1 + j = k := by injection ho
          omega
      refine ⟨k - 1, by omega, by omega, ?_⟩
      rw [← hf]
      show Except.error _ = fin (.error _)
      show Except.error _ = Except.error _
      congr 1
      omega
    | ok st' k =>
      rw [ho] at e
      rw [e] at hns
      obtain ⟨k1, k2, hI⟩ := hns
      have hf := L.fin
      rw [lp_ok h2 e k1 k2] at hf
      have hv := vs1_ok (q :: rest).length (t.drop (i + 1))
      have hk : 2 ≤ k := by
        cases hv1 : vs1 ((q :: rest).length + 1) (t.drop (i + 1)) with
        | push =>
          rw [hv1] at ho
          have : 1 + 1 = k := by injection ho
          omega
        | item v j =>
          rw [hv1] at ho hv
          have : 1 + j = k := by injection ho
          have := hv.1
          omega
        | bad j => rw [hv1] at ho; cases ho
      refine ⟨k - 1, by omega, by omega, by omega, ?_, ?_⟩
      · rw [List.drop_drop] at hI ⊢
        rw [show i + 1 + (k - 1) = i + k by omega]
        exact hI
      · rw [List.drop_drop] at hf ⊢
        rw [show i + 1 + (k - 1) = i + k by omega]
        exact hf
  · intro h41 h32 hxs
    have e : nx (top :: q :: rest) (t.drop i) = .bad 0 := by rw [hnx, if_neg h41, if_neg (fun z => hxs (hemp.mp z)), if_neg h32]
    have hf := L.fin
    rw [lp_bad h2 e] at hf
    have := hb _ hf.symm
    have hle := L.le
    rw [hlen, show t.length - (t.length - i - 0) = i by omega] at this
    exact this
theorem ok_rv {fE fN fV fP : Addr} {fdE fdN fdV fdP : FuncData} (T : Txt P K mg C fI cc) (F : Fun K "read_value" "read_value" sRV f fd) (FE : Fun K "end_of" "end_of" sEO fE fdE) (bE : Binds K fdE ["text", "at", "letters", "most"] []) (mE : mg "end_of" = some (.ref fE))
    (FN : Fun K "number_end" "number_end" sNE fN fdN) (bN : Binds K fdN ["text", "at"] []) (mN : mg "number_end" = some (.ref fN))
    (FV : Fun K "value_start" "value_start" sVS fV fdV) (bV : Binds K fdV ["text", "at", "rows"] []) (mV : mg "value_start" = some (.ref fV))
    (FP : Fun K "next_part" "next_part" sNP fP fdP) (bP : Binds K fdP ["text", "at", "rows"] []) (mP : mg "next_part" = some (.ref fP)) :
    FnOk P w K mg base (L2.CX P w) 7 f fd ["text"] (spRV C) := by
  refine F.okX scRV (fun vs H Q E h => ?_) (fun cdv A outer s H vs Q E hr h => ?_)
  · obtain ⟨t, rfl, _⟩ := h
    rfl
  obtain ⟨t, rfl, ht, qbad, qok⟩ := h
  have GV : FnOk P w K mg base (L2.CX P w) 5 fV fdV ["text", "at", "rows"] (spVS C) := ok_vs T FV FE bE mE FN bN mN
  have GP : FnOk P w K mg base (L2.CX P w) 6 fP fdP ["text", "at", "rows"] (spNP C) := ok_np T FP FE bE mE FN bN mN FV bV mV
  refine ⟨_, pss_cons (ps_set (i := 1) scRV.nd rfl (Or.inl rfl) (pe_lst (pa_cons (pe_lst pa_nil) pa_nil)))
    (pss_cons (ps_set (i := 2) scRV.nd rfl (Or.inl rfl) (pe_call (E := E) GV (hr.mono (by decide)) rfl mV FV.kp bV .nil (passes_call (takes_of rfl rfl rfl rfl) (fun _ _ _ _ h => h)) (pa_cons (pv 0) (pa_cons pe_int (pa_cons (pv 1) pa_nil)))))
    (pss_cons (ps_while (passes_of rfl) (pt_cmpR op_gt (pe_callB call_len_seq rfl T.mlen PySem.boot_len (pa_cons (pv 1) pa_nil)) pe_int (nomark _))
      (pss_one (ps_set (i := 2) scRV.nd rfl (Or.inl rfl) (pe_call (E := E) GP hr rfl mP FP.kp bP .nil (passes_call (takes_of rfl rfl rfl rfl) (fun _ _ _ _ h => h)) (pa_cons (pv 0) (pa_cons (pv 2) (pa_cons (pv 1) pa_nil)))))))
    (pss_cons (ps_if (pt_cmpR op_lt (pv 2) (pe_callB call_len_str rfl T.mlen PySem.boot_len (pa_cons (pv 0) pa_nil)) (nomark _))
      (pss_one (ps_raiseX rfl T.err hr (takes_of rfl rfl rfl rfl) (pa_cons (pv 2) pa_nil) rfl)) pss_nil)
    (pss_one (ps_ret (pe_ix ix_list (pe_ix ix_list (pv 1) pe_int (fun _ _ => rfl)) pe_int (fun _ _ => rfl))))))), ?_⟩
  refine ⟨Nat.zero_le _, fun A0 hA0 => ⟨by show 1 ≤ sizeLine; decide, fun R hRn => ?_⟩⟩
  have hRA : R ≠ A0 := fun z => by rw [z, upd_same] at hRn; cases hRn
  have hR0 : H R = none := by rw [upd_ne hRA] at hRn; exact hRn
  have hp0 : HPart H (upd (upd H A0 (.lst [])) R (.lst [.ref A0])) R [[]] [A0] 0 := by
    refine ⟨⟨⟨[], (upd_ne hRA.symm).trans upd_same, rfl⟩, by simp, trivial⟩, upd_same, by simpa using hRA, ?_, hR0, ?_, ?_⟩
    · intro b o e
      rw [upd_ne (ne_of_none e hR0), upd_ne (ne_of_none e hA0)]
      exact e
    · intro r hr
      rw [List.mem_singleton.mp hr]
      exact hA0
    · intro row hr
      rw [List.mem_singleton.mp hr]
      exact Nat.le_refl _
  have hA1 : (upd (upd H A0 (.lst [])) R (.lst [.ref A0])) A0 = some (.lst []) := (upd_ne hRA.symm).trans upd_same
  refine ⟨_, rfl, _, rfl, ?_⟩
  dsimp only [tNil, List.append_nil]
  refine VsOut.sp0 (t := t) (R := R) (A := A0) (as := ([] : List Addr).reverse) (xs := []) ?_ ht (rowsAt_of hp0 hA1 (by decide) (Nat.zero_le _))
  refine vs_turn (i := 0) (e := 0) rfl (Nat.zero_le _) hp0 hA1 (by decide) ?_ (fun x hx => qbad x _ hx hp0.same) ?_
  · have hps := put_sound (t := t) (s := t) (top := []) (rest := []) 0 rfl rfl ⟨Nat.zero_le _, trivial, trivial⟩ (.inl rfl)
    have hpar : parse t = (match put [[]] (vs1 (([] : Stk).length + 1) t) 0 with | .bad k => Except.error (t.length - k) | .ok st k => fin (lp st (t.drop k))) := rfl
    rw [List.drop_zero]
    generalize put [[]] (vs1 (([] : Stk).length + 1) t) 0 = o at hps hpar
    cases o with
    | bad k =>
      obtain ⟨j, e, h1, h2⟩ := hps
      have : k = j := by omega
      subst this
      exact ⟨k, by omega, h1, hpar⟩
    | ok st k =>
      obtain ⟨j, e, h1, h2, I⟩ := hps
      have : k = j := by omega
      subst this
      exact ⟨k, by omega, h1, h2, I, hpar.symm⟩
  intro st' rs2 n H2 L _
  refine ⟨fun μ σ H' => ∃ st rs n, σ = [some (.str (S t)), some (.ref R), some (.int ((n : Nat) : Int))] ∧ LInv H H' R t st rs n ∧ μ = t.length - n, ⟨_, st', rs2, n, rfl, L, rfl⟩, ?_⟩
  rintro μ σ H' ⟨st, rs, n, rfl, L, rfl⟩
  refine ⟨_, rfl, R, _, rfl, .inl (.inl (.inl L.hp.hR)), _, _, rfl, rfl, _, rfl, ?_⟩
  have hlen : (rs.reverse.map V.ref).length = st.length := by rw [List.length_map, List.length_reverse, L.hp.stk.len]
  rw [hlen]
  by_cases h1 : 1 < st.length
  · rw [decide_eq_true (by omega)]
    refine iteT ⟨fun σ' H' => ∃ st rs n', σ' = [some (.str (S t)), some (.ref R), some (.int ((n' : Nat) : Int))] ∧ LInv H H' R t st rs n' ∧ n < n', ?_, ?_⟩
    · rintro σ' H2 ⟨st2, rs2, n2, rfl, L2, hlt⟩
      have := L2.le
      exact ⟨_, by omega, st2, rs2, n2, rfl, L2, rfl⟩
    · cases st with
      | nil => simp at h1
      | cons top st =>
        cases st with
        | nil => simp at h1
        | cons q rest =>
          obtain ⟨A1, rs1, xs, rfl, hA, hx, he⟩ := row_of L.hp
          cases rs1 with
          | nil => exact L.hp.stk.2.2.elim
          | cons B rs3 =>
            obtain ⟨⟨ys, hB, hyr⟩, _, _⟩ := L.hp.stk.2.2
            have hyl := hyr.len
            have r1 := L.hp.row top List.mem_cons_self
            have r2 := L.hp.row q (List.mem_cons_of_mem _ List.mem_cons_self)
            have hn := L.le
            have hnab := L.hp.stk.2.1
            have hRows := rowsAt_of L.hp hA L.deep (by omega)
            rw [List.reverse_cons] at hRows
            refine ⟨_, rfl, _, rfl, _, rfl, ?_⟩
            dsimp only [tNil, List.append_nil]
            refine ⟨t, n, R, A1, B, rs3.reverse, xs, ys, rfl, ht, hn, hRows, hB, fun z => L.hp.nR (by rw [z]; exact List.mem_cons_of_mem _ List.mem_cons_self), fun z => hnab (by rw [z]; exact List.mem_cons_self), by omega,
              np_turn L hA hB hx he (fun x hx => qbad x _ hx L.hp.same) ?_⟩
            intro st2 rs2 n2 H2 L2 hlt
            exact ⟨st2, rs2, n2, rfl, L2, hlt⟩
  · rw [decide_eq_false (by omega)]
    have hl1 : st.length ≤ 1 := by omega
    have hfin := L.fin
    rw [lp_stop hl1] at hfin
    rcases L.inv.base with ⟨v, rfl⟩ | hb
    · obtain ⟨A1, rs1, xs, rfl, hA, hx, he⟩ := row_of L.hp
      have hn := L.le
      have hld : (t.drop n).length = t.length - n := List.length_drop
      refine iteF ⟨_, rfl, _, rfl, _, rfl, S_line ht, _, _, rfl, rfl, _, rfl, ?_⟩
      rw [SX.S_len]
      by_cases hlt : n < t.length
      · rw [decide_eq_true (by omega)]
        refine iteT ⟨_, rfl, _, rfl, ?_⟩
        have hne : t.drop n ≠ [] := by
          intro z
          rw [z] at hld
          simp at hld
          omega
        rw [fin_ne hne] at hfin
        have := qbad _ _ hfin.symm L.hp.same
        rw [hld, show t.length - (t.length - n) = n by omega] at this
        exact this
      · rw [decide_eq_false (by omega)]
        have hnil : t.drop n = [] := List.drop_eq_nil_of_le (by omega)
        rw [hnil, fin_nil] at hfin
        obtain ⟨⟨xs', e', hr⟩, _, hst⟩ := L.hp.stk
        have ex : xs' = xs := by rw [hA] at e'; injection e' with e'; injection e' with e'; exact e'.symm
        subst ex
        have hrs1 : rs1 = [] := by
          cases rs1 with
          | nil => rfl
          | cons a b => exact hst.elim
        subst hrs1
        obtain ⟨y, ys, ey, hy, hys⟩ := hr
        have hys' : ys = [] := hys
        subst hys'
        subst ey
        refine iteF ⟨.ref R, rfl, R, _, 0, .ref A1, rfl, rfl, .inl (.inl L.hp.hR), atI_nat (j := 0) rfl, A1, _, 0, y, rfl, rfl, .inl (.inl hA), atI_nat (j := 0) rfl, ?_⟩
        exact qok v y _ hfin.symm L.hp.same hy
    · omega
end
end Kz
/-! KzDefs3 -/
set_option Elab.async false
set_option linter.all false
set_option maxRecDepth 100000
set_option maxHeartbeats 2000000
namespace Kz
open PySem PySem.Spec PyProof.Rows L2
open SX (S)
open TL (numL)
/-! ### numbers as texts -/
theorem str_int (i : Int) : Str.ofString (toString i) = S (numS i) := by
  cases i with
  | ofNat n =>
    have e : numS (Int.ofNat n) = numL n := if_neg (by show ¬ (Int.ofNat n) < 0; exact Int.not_lt.mpr (Int.natCast_nonneg n))
    rw [e]
    exact SX.num_S n
  | negSucc n =>
    have e : numS (Int.negSucc n) = 45 :: numL (n + 1) := if_pos (Int.negSucc_lt_zero n)
    rw [e]
    have h := SX.num_S (n + 1)
    have h1 : toString (Int.negSucc n) = "-" ++ toString ((n + 1 : Nat) : Int) := rfl
    rw [h1]
    rw [Str.ofString_eq_toList] at h ⊢
    rw [String.toList_append, List.map_append]
    have h2 : ((toString ((n + 1 : Nat) : Int)).toList.map Char.toNat) = numL (n + 1) := SX.S_inj h
    rw [h2]
    rfl
theorem log_of {i : Int} (h : i.natAbs < 10 ^ 200) : i.natAbs.log2 < 1920 :=
  PySem.Flt.log2_lt_of (by decide) (Nat.lt_of_lt_of_le h (by decide +kernel))
theorem wrl_map : ∀ vs : List Val, wrl vs = vs.map wr
  | [] => rfl
  | v :: r => by simp only [wrl, List.map_cons, wrl_map r]
theorem joinL_len : ∀ l : List (List Nat), (l.map List.length).sum + l.length ≤ 2 * (TL.joinL [32] l).length + 1 + l.length - (TL.joinL [32] l).length ∧ l.length ≤ (TL.joinL [32] l).length + 1
  | [] => by simp [TL.joinL]
  | [p] => by simp [TL.joinL]; omega
  | p :: q :: r => by
    have ih := joinL_len (q :: r)
    have e : TL.joinL [32] (p :: q :: r) = p ++ ([32] ++ TL.joinL [32] (q :: r)) := rfl
    rw [e]
    simp only [List.map_cons, List.sum_cons, List.length_cons, List.length_append, List.length_nil] at ih ⊢
    omega
theorem Reps.get {H : Hp} : ∀ {vs : List Val} {xs : List V} {i : Nat} {x : V}, Reps H vs xs → xs[i]? = some x → ∃ v, vs[i]? = some v ∧ Rep H v x
  | [], xs, i, x, h, e => by
    have h' : xs = [] := h
    rw [h'] at e
    simp at e
  | v :: r, xs, 0, x, h, e => by
    obtain ⟨y, ys, ex, h1, _⟩ := h
    rw [ex] at e
    have : y = x := Option.some.inj e
    subst this
    exact ⟨v, rfl, h1⟩
  | v :: r, xs, i + 1, x, h, e => by
    obtain ⟨y, ys, ex, _, h2⟩ := h
    rw [ex] at e
    obtain ⟨u, e1, e2⟩ := Reps.get (i := i) (x := x) h2 (by simpa using e)
    exact ⟨u, by simpa using e1, e2⟩
theorem oks_get : ∀ {vs : List Val} {i : Nat} {v : Val}, Oks vs → vs[i]? = some v → Ok v
  | [], i, v, _, e => by simp at e
  | u :: r, 0, v, h, e => by
    have : u = v := Option.some.inj e
    subst this
    simp only [Oks] at h
    exact h.1
  | u :: r, i + 1, v, h, e => by
    simp only [Oks] at h
    exact oks_get (i := i) h.2 (by simpa using e)
theorem deps_get : ∀ {vs : List Val} {i : Nat} {v : Val}, vs[i]? = some v → dep v ≤ deps vs
  | [], i, v, e => by simp at e
  | u :: r, 0, v, e => by
    have : u = v := Option.some.inj e
    subst this
    simp only [deps]
    exact Nat.le_max_left _ _
  | u :: r, i + 1, v, e => by
    simp only [deps]
    exact Nat.le_trans (deps_get (i := i) (by simpa using e)) (Nat.le_max_right _ _)
theorem sum_get : ∀ {l : List (List Nat)} {i : Nat} {p : List Nat}, l[i]? = some p → p.length ≤ (l.map List.length).sum
  | [], i, p, e => by simp at e
  | u :: r, 0, p, e => by
    have : u = p := Option.some.inj e
    subst this
    simp
  | u :: r, i + 1, p, e => by
    have := sum_get (l := r) (i := i) (p := p) (by simpa using e)
    simp only [List.map_cons, List.sum_cons]
    omega
theorem joinL_sum (l : List (List Nat)) : (l.map List.length).sum ≤ (TL.joinL [32] l).length := by
  induction l with
  | nil => simp [TL.joinL]
  | cons p r ih =>
    cases r with
    | nil => simp [TL.joinL]
    | cons q r =>
      have e : TL.joinL [32] (p :: q :: r) = p ++ ([32] ++ TL.joinL [32] (q :: r)) := rfl
      rw [e]
      simp only [List.map_cons, List.sum_cons, List.length_append] at ih ⊢
      omega
theorem joinL_count (l : List (List Nat)) : l.length ≤ (TL.joinL [32] l).length + 1 := by
  induction l with
  | nil => simp [TL.joinL]
  | cons p r ih =>
    cases r with
    | nil => simp
    | cons q r =>
      have e : TL.joinL [32] (p :: q :: r) = p ++ ([32] ++ TL.joinL [32] (q :: r)) := rfl
      rw [e]
      simp only [List.length_cons, List.length_append, List.length_nil] at ih ⊢
      omega
theorem wr_tup (vs : List Val) : wr (.tup vs) = 40 :: (TL.joinL [32] (wrl vs) ++ [41]) := by simp only [wr]
theorem wr_tup_len (vs : List Val) : (wr (.tup vs)).length = (TL.joinL [32] (wrl vs)).length + 2 := by
  rw [wr_tup]
  simp
theorem wr_get {vs : List Val} {i : Nat} {v : Val} (h : vs[i]? = some v) : (wr v).length + 2 ≤ (wr (.tup vs)).length := by
  rw [wr_tup_len]
  have h1 : (wrl vs)[i]? = some (wr v) := by rw [wrl_map, List.getElem?_map, h]; rfl
  have h2 := sum_get h1
  have h3 := joinL_sum (wrl vs)
  omega
/-! ### value_text(value): slots value texts item -/
def spVT (n : Nat) : Sp := fun vs H Q _ => ∃ (v : Val) (x : V), vs = [x] ∧ Rep H v x ∧ Ok v ∧ dep v + 1 ≤ n ∧ (wr v).length ≤ 100000 ∧ ∀ H', Same H H' → Q (.str (S (wr v))) H'
theorem scVT : FnScope ["value", "texts", "item"] ["value"] (defScope sVT) := ⟨rfl, rfl, rfl, by decide +kernel, rfl, by decide +kernel, by decide +kernel⟩
theorem same_new {H : Hp} {p : Addr} (h : H p = none) (o : HO) : Same H (upd H p o) := fun b u q => by rw [upd_ne (ne_of_none q h)]; exact q
section
variable {P : Program} {w : World} {K : PySem.W.Frag} {mg : Str → Option Value} {base : Heap} {f : Addr} {fd : FuncData} {C fI cc : Addr}
theorem ok_vt {n : Nat} (T : Txt P K mg C fI cc) (F : Fun K "value_text" "value_text" sVT f fd) (b : Binds K fd ["value"] []) (m : mg "value_text" = some (.ref f)) (G : FnOk P w K mg base CX0 n f fd ["value"] (spVT n)) :
    FnOk P w K mg base CX0 (n + 1) f fd ["value"] (spVT (n + 1)) := by
  refine F.ok scVT (fun vs H Q E h => ?_) (fun cdv A outer s H vs Q E hr h => ?_)
  · obtain ⟨v, x, rfl, _⟩ := h
    rfl
  obtain ⟨v, x, rfl, hrep, hok, hdep, hlen, q⟩ := h
  refine ⟨_, pss_cons (ps_if (pt_val (pe_callB call_isi rfl T.misi PyProof.Rows.boot_isinstance (pa_cons (pv 0) (pa_cons (pe_bltn (v := .ty "str") rfl T.mstr PyProof.Rows.boot_str rfl) pa_nil)))) (pss_one (ps_ret (pv 0))) pss_nil)
    (pss_cons (ps_if (pt_val (pe_callB call_isi rfl T.misi PyProof.Rows.boot_isinstance (pa_cons (pv 0) (pa_cons (pe_bltn (v := .ty "int") rfl T.mint PyProof.Rows.boot_int rfl) pa_nil)))) (pss_one (ps_ret (pe_callTy call_str_int rfl T.mstr PyProof.Rows.boot_str (pa_cons (pv 0) pa_nil)))) pss_nil)
    (pss_cons (ps_set (i := 1) scVT.nd rfl (Or.inl rfl) (pe_lst pa_nil))
    (pss_cons (ps_for PassesOwn.never rfl (pi_tup (pv 0)) (pg_name (i := 2) scVT.nd rfl (Or.inl rfl))
      (pss_one (ps_expr (pe_bm PySem.F.plainAttrs_list PySem.F.slot_list_append PySem.F.type_list_append mt_append (pv 1) (pa_cons (pe_call G hr rfl m F.kp b .nil pass0 (pa_cons (pv 2) pa_nil)) pa_nil)))))
    (pss_one (ps_ret (pe_op op_add_str (pe_op op_add_str pe_str (pe_join pe_str (pv 1))) pe_str)))))), ?_⟩
  cases v with
  | word w =>
    have hx : x = .str (S w) := hrep
    subst hx
    refine ⟨_, rfl, _, .ty "str", .type "str", .type "str", true, rfl, .ty _, .base (.str _), kit_ty (by decide +kernel), true, rfl, iteT ⟨_, rfl, ?_⟩⟩
    have := q H (Same.refl H)
    simp only [wr] at this
    exact this
  | num i =>
    have hx : x = .int i := hrep
    subst hx
    simp only [Ok] at hok
    refine ⟨_, rfl, _, .ty "str", .type "int", .type "str", false, rfl, .ty _, .base (.int _), kit_ty (by decide +kernel), false, rfl, iteF ?_⟩
    refine ⟨_, rfl, _, .ty "int", .type "int", .type "int", true, rfl, .ty _, .base (.int _), kit_ty (by decide +kernel), true, rfl, iteT ⟨_, rfl, i, rfl, log_of hok, ?_⟩⟩
    rw [str_int]
    have := q H (Same.refl H)
    simp only [wr] at this
    exact this
  | tup vs =>
    obtain ⟨a, xs, rfl, ha, hreps⟩ := hrep
    simp only [Ok] at hok
    simp only [dep] at hdep
    refine ⟨_, rfl, _, .ty "str", .type "tuple", .type "str", false, rfl, .ty _, .base (.tup ha), kit_ty (by decide +kernel), false, rfl, iteF ?_⟩
    refine ⟨_, rfl, _, .ty "int", .type "tuple", .type "int", false, rfl, .ty _, .base (.tup ha), kit_ty (by decide +kernel), false, rfl, iteF ?_⟩
    refine ⟨Nat.zero_le _, fun o ho => ?_⟩
    have s1 : Same H (upd H o (.lst [])) := same_new ho _
    have hxl : xs.length = vs.length := hreps.len
    have hcount := joinL_count (wrl vs)
    have hsum := joinL_sum (wrl vs)
    have hlen2 := hlen
    rw [wr_tup_len] at hlen2
    have hwl : (wrl vs).length = vs.length := by rw [wrl_map, List.length_map]
    refine ⟨_, rfl, a, rfl, ⟨xs, .inl (.inl (s1 _ _ ha))⟩, for_tup (K := K) (xs := xs) (fun i σ H' => ∃ y, σ = [some (.ref a), some (.ref o), y] ∧ Same H H' ∧ H' o = some (.lst (((wrl vs).map fun l => V.str (S l)).take i)))
      ⟨none, rfl, s1, upd_same⟩ (fun i σ H' _ ⟨y, _, sm, _⟩ => .inl (.inl (sm _ _ ha))) ?_ ?_⟩
    · rintro i y σ H' hi ⟨y0, rfl, sm, eo⟩
      obtain ⟨u, hu, hru⟩ := hreps.get hi
      have hru' : Rep H' u y := Rep.mono (Tups.of_same sm) _ _ hru
      have hil : i < vs.length := by
        have := List.getElem?_eq_some_iff.mp hu
        exact this.1
      refine ⟨.ref o, rfl, .inl ⟨rfl, _, .inl (.inl eo)⟩, _, rfl, u, y, rfl, hru', oks_get hok hu, by have := deps_get hu; omega, by have := wr_get hu; omega, fun H2 sm2 => ?_⟩
      have eo2 := sm2 _ _ eo
      refine ⟨o, _, _, rfl, rfl, eo2, ?_, ?_⟩
      · rw [List.length_take]
        exact small200 (by omega)
      · refine ⟨_, rfl, ?_, ?_⟩
        · intro b0 o0 e0
          rw [upd_ne (ne_of_none e0 ho)]
          exact sm2 _ _ (sm _ _ e0)
        · rw [upd_same]
          congr 2
          rw [List.take_add_one, List.getElem?_map, wrl_map, List.getElem?_map, hu]
          rfl
    · rintro σ H' ⟨y, rfl, sm, eo⟩
      rw [hxl, List.take_of_length_le (by rw [List.length_map, hwl]; exact Nat.le_refl _)] at eo
      have eo' : H' o = some (.lst (((wrl vs).map S).map V.str)) := by
        rw [eo, List.map_map]
        rfl
      refine ⟨⟨_, rfl⟩, _, rfl, _, o, (wrl vs).map S, rfl, rfl, .inl (.inl (.inl eo')), ?_, _, _, rfl, rfl, ?_, _, _, rfl, rfl, ?_, ?_⟩
      all_goals (try rw [lit_space]); (try rw [lit_paren]); (try rw [lit_close])
      · rw [SX.lens, SX.S_len, List.length_map]
        show ((wrl vs).map List.length).sum + (wrl vs).length * 1 ≤ 16777216
        omega
      · rw [SX.join_S, SX.S_len, SX.S_len]
        show 1 + _ ≤ _
        exact Nat.le_trans (by omega : 1 + (TL.joinL [32] (wrl vs)).length ≤ 200000) (by decide)
      · rw [SX.join_S, SX.S_cat, SX.S_len, SX.S_len]
        show (40 :: TL.joinL [32] (wrl vs)).length + 1 ≤ _
        rw [List.length_cons]
        exact Nat.le_trans (by omega : (TL.joinL [32] (wrl vs)).length + 1 + 1 ≤ 200000) (by decide)
      · rw [SX.join_S, SX.S_cat, SX.S_cat]
        have := q H' sm
        rw [wr_tup] at this
        exact this
end
/-! ### the law's own writing: slots value part -/
theorem scWr : FnScope ["_law_value_here", "_law_part"] ["_law_value_here"] (defScope sWrite) := ⟨rfl, rfl, rfl, by decide +kernel, rfl, by decide +kernel, by decide +kernel⟩
section
variable {P : Program} {w : World} {K : PySem.W.Frag} {mg : Str → Option Value} {base : Heap} {f : Addr} {fd : FuncData} {C fI cc : Addr}
theorem ok_wr {n : Nat} (T : Txt P K mg C fI cc) (F : Fun K "_law_write" "_law_write" sWrite f fd) (b : Binds K fd ["_law_value_here"] []) (m : mg "_law_write" = some (.ref f)) (G : FnOk P w K mg base CX0 n f fd ["_law_value_here"] (spVT n)) :
    FnOk P w K mg base CX0 (n + 1) f fd ["_law_value_here"] (spVT (n + 1)) := by
  refine F.ok scWr (fun vs H Q E h => ?_) (fun cdv A outer s H vs Q E hr h => ?_)
  · obtain ⟨v, x, rfl, _⟩ := h
    rfl
  obtain ⟨v, x, rfl, hrep, hok, hdep, hlen, q⟩ := h
  refine ⟨_, pss_cons (ps_if (pt_val (pe_callB call_isi rfl T.misi PyProof.Rows.boot_isinstance (pa_cons (pv 0) (pa_cons (pe_bltn (v := .ty "tuple") rfl T.mtup PyProof.Rows.boot_tuple rfl) pa_nil))))
      (pss_one (ps_ret (pe_op op_add_str (pe_op op_add_str pe_str (pe_join pe_str (pe_lc (own := [("_law_part", 1)]) (g := gName 1) (tt := tYes) rfl scWr.nd (pi_tup (pv 0)) (blkOk_by (N := ["_law_value_here", "_law_part"]) (sc := defScope sWrite) (by decide +kernel))
        (fun _ _ _ _ _ => pg_name (i := 1) scWr.nd rfl (Or.inl rfl)) (fun _ _ _ _ _ => pts_nil) (fun _ _ _ _ _ => pe_call G hr rfl m F.kp b .nil pass0 (pa_cons (pv 1) pa_nil))))) pe_str))) pss_nil)
    (pss_one (ps_ret (pe_callTy (CallR.or call_str_int SkE.call_str_str) rfl T.mstr PyProof.Rows.boot_str (pa_cons (pv 0) pa_nil)))), ?_⟩
  cases v with
  | word w =>
    have hx : x = .str (S w) := hrep
    subst hx
    refine ⟨_, rfl, _, .ty "tuple", .type "str", .type "tuple", false, rfl, .ty _, .base (.str _), kit_ty (by decide +kernel), false, rfl, iteF ⟨_, rfl, .inr ⟨_, rfl, ?_⟩⟩⟩
    have := q H (Same.refl H)
    simp only [wr] at this
    exact this
  | num i =>
    have hx : x = .int i := hrep
    subst hx
    simp only [Ok] at hok
    refine ⟨_, rfl, _, .ty "tuple", .type "int", .type "tuple", false, rfl, .ty _, .base (.int _), kit_ty (by decide +kernel), false, rfl, iteF ⟨_, rfl, .inl ⟨i, rfl, log_of hok, ?_⟩⟩⟩
    rw [str_int]
    have := q H (Same.refl H)
    simp only [wr] at this
    exact this
  | tup vs =>
    obtain ⟨a, xs, rfl, ha, hreps⟩ := hrep
    simp only [Ok] at hok
    simp only [dep] at hdep
    have hxl : xs.length = vs.length := hreps.len
    have hcount := joinL_count (wrl vs)
    have hsum := joinL_sum (wrl vs)
    have hlen2 := hlen
    rw [wr_tup_len] at hlen2
    have hwl : (wrl vs).length = vs.length := by rw [wrl_map, List.length_map]
    refine ⟨_, rfl, _, .ty "tuple", .type "tuple", .type "tuple", true, rfl, .ty _, .base (.tup ha), kit_ty (by decide +kernel), true, rfl, iteT ?_⟩
    refine ⟨⟨_, rfl⟩, _, rfl, a, rfl, ⟨xs, .inl (.inl ha)⟩, fun D hD => lc_tup (K := K) (xs := xs) (fun i H' => Same H H' ∧ H' D = some (.lst (((wrl vs).map fun l => V.str (S l)).take i)))
      ⟨same_new hD _, upd_same⟩ (fun i H' _ ⟨sm, _⟩ => .inl (.inl (sm _ _ ha))) ?_ ?_⟩
    · rintro i y H' hi ⟨sm, eo⟩
      obtain ⟨u, hu, hru⟩ := hreps.get hi
      have hru' : Rep H' u y := Rep.mono (Tups.of_same sm) _ _ hru
      have hil : i < vs.length := (List.getElem?_eq_some_iff.mp hu).1
      refine ⟨rfl, _, rfl, u, y, rfl, hru', oks_get hok hu, by have := deps_get hu; omega, by have := wr_get hu; omega, fun H2 sm2 => ?_⟩
      have eo2 := sm2 _ _ eo
      refine ⟨_, eo2, ?_, ?_, ?_⟩
      · rw [List.length_take]
        exact small200 (by omega)
      · intro b0 o0 e0
        rw [upd_ne (ne_of_none e0 hD)]
        exact sm2 _ _ (sm _ _ e0)
      · rw [upd_same]
        congr 2
        rw [List.take_add_one, List.getElem?_map, wrl_map, List.getElem?_map, hu]
        rfl
    · rintro H' ⟨sm, eo⟩
      rw [hxl, List.take_of_length_le (by rw [List.length_map, hwl]; exact Nat.le_refl _)] at eo
      have eo' : H' D = some (.lst (((wrl vs).map S).map V.str)) := by
        rw [eo, List.map_map]
        rfl
      refine ⟨_, D, (wrl vs).map S, rfl, rfl, .inl (.inl (.inl eo')), ?_, _, _, rfl, rfl, ?_, _, _, rfl, rfl, ?_, ?_⟩
      all_goals (try rw [lit_space]); (try rw [lit_paren]); (try rw [lit_close])
      · rw [SX.lens, SX.S_len, List.length_map]
        show ((wrl vs).map List.length).sum + (wrl vs).length * 1 ≤ 16777216
        omega
      · rw [SX.join_S, SX.S_len, SX.S_len]
        show 1 + _ ≤ _
        exact Nat.le_trans (by omega : 1 + (TL.joinL [32] (wrl vs)).length ≤ 200000) (by decide)
      · rw [SX.join_S, SX.S_cat, SX.S_len, SX.S_len]
        show (40 :: TL.joinL [32] (wrl vs)).length + 1 ≤ _
        rw [List.length_cons]
        exact Nat.le_trans (by omega : (TL.joinL [32] (wrl vs)).length + 1 + 1 ≤ 200000) (by decide)
      · rw [SX.join_S, SX.S_cat, SX.S_cat]
        have := q H' sm
        rw [wr_tup] at this
        exact this
end
/-! ### the law's own comparison: slots actual expected k -/
def spSame (n : Nat) : Sp := fun vs H Q _ => ∃ (v : Val) (x y : V), vs = [x, y] ∧ Rep H v x ∧ Rep H v y ∧ dep v + 1 ≤ n ∧ (wr v).length ≤ 100000 ∧ ∀ H', Same H H' → Q (.bl true) H'
theorem scSame : FnScope ["_law_actual", "_law_expected", "_law_k"] ["_law_actual", "_law_expected"] (defScope sSame) := ⟨rfl, rfl, rfl, by decide +kernel, rfl, by decide +kernel, by decide +kernel⟩
theorem Reps.at {H : Hp} {vs : List Val} {xs : List V} {i : Nat} {v : Val} (h : Reps H vs xs) (e : vs[i]? = some v) : ∃ x, xs[i]? = some x ∧ Rep H v x := by
  have hl := h.len
  have hi : i < xs.length := by rw [hl]; exact (List.getElem?_eq_some_iff.mp e).1
  have hx := List.getElem?_eq_getElem hi
  obtain ⟨u, h1, h2⟩ := h.get hx
  rw [e] at h1
  rw [Option.some.inj h1]
  exact ⟨_, hx, h2⟩
section
variable {P : Program} {w : World} {K : PySem.W.Frag} {mg : Str → Option Value} {base : Heap} {f : Addr} {fd : FuncData} {C fI cc : Addr}
theorem ok_same {n : Nat} (T : Txt P K mg C fI cc) (F : Fun K "_law_same" "_law_same" sSame f fd) (b : Binds K fd ["_law_actual", "_law_expected"] []) (m : mg "_law_same" = some (.ref f)) (G : FnOk P w K mg base CX0 n f fd ["_law_actual", "_law_expected"] (spSame n)) :
    FnOk P w K mg base CX0 (n + 1) f fd ["_law_actual", "_law_expected"] (spSame (n + 1)) := by
  refine F.ok scSame (fun vs H Q E h => ?_) (fun cdv A outer s H vs Q E hr h => ?_)
  · obtain ⟨v, x, y, rfl, _⟩ := h
    rfl
  obtain ⟨v, x, y, rfl, hrx, hry, hdep, hlen, q⟩ := h
  refine ⟨_, pss_cons (ps_if (pt_val (pe_callB call_isi rfl T.misi PyProof.Rows.boot_isinstance (pa_cons (pv 1) (pa_cons (pe_bltn (v := .ty "tuple") rfl T.mtup PyProof.Rows.boot_tuple rfl) pa_nil))))
      (pss_cons (ps_if (PW.pt (pw_or (pt_not (pt_val (pe_callB call_isi rfl T.misi PyProof.Rows.boot_isinstance (pa_cons (pv 0) (pa_cons (pe_bltn (v := .ty "tuple") rfl T.mtup PyProof.Rows.boot_tuple rfl) pa_nil)))))
          (pw_or1 (pt_cmpR op_ne (pe_callB call_len_seq rfl T.mlen PySem.boot_len (pa_cons (pv 0) pa_nil)) (pe_callB call_len_seq rfl T.mlen PySem.boot_len (pa_cons (pv 1) pa_nil)) (nomark _)))))
          (pss_one (ps_ret pe_bl)) pss_nil)
        (pss_cons (ps_for PassesOwn.never rfl (pi_range1 rfl T.mran (pa_cons (pe_callB call_len_seq rfl T.mlen PySem.boot_len (pa_cons (pv 1) pa_nil)) pa_nil)) (pg_name (i := 2) scSame.nd rfl (Or.inl rfl))
          (pss_one (ps_if (pt_not (pt_val (pe_call G hr rfl m F.kp b .nil pass0 (pa_cons (pe_ix ix_tup (pv 0) (pv 2) (fun _ _ => rfl)) (pa_cons (pe_ix ix_tup (pv 1) (pv 2) (fun _ _ => rfl)) pa_nil))))) (pss_one (ps_ret pe_bl)) pss_nil)))
        (pss_one (ps_ret pe_bl)))) pss_nil)
    (pss_cons (ps_if (pt_val (pe_callB call_isi rfl T.misi PyProof.Rows.boot_isinstance (pa_cons (pv 1) (pa_cons (pe_bltn (v := .ty "str") rfl T.mstr PyProof.Rows.boot_str rfl) pa_nil))))
      (pss_one (ps_ret (pe_and (pe_callB call_isi rfl T.misi PyProof.Rows.boot_isinstance (pa_cons (pv 0) (pa_cons (pe_bltn (v := .ty "str") rfl T.mstr PyProof.Rows.boot_str rfl) pa_nil))) (pe_one (pe_cmpR op_eq (pv 0) (pv 1) (nomark _)))))) pss_nil)
    (pss_one (ps_ret (pe_and (pe_callB call_isi rfl T.misi PyProof.Rows.boot_isinstance (pa_cons (pv 0) (pa_cons (pe_bltn (v := .ty "int") rfl T.mint PyProof.Rows.boot_int rfl) pa_nil)))
      (pe_and (pe_not (pe_callB call_isi rfl T.misi PyProof.Rows.boot_isinstance (pa_cons (pv 0) (pa_cons (pe_bltn (v := .ty "bool") rfl T.mboo PyProof.Rows.boot_bool rfl) pa_nil)))) (pe_one (pe_cmpR op_eq (pv 0) (pv 1) (nomark _)))))))), ?_⟩
  cases v with
  | word w =>
    have hx : x = .str (S w) := hrx
    have hy : y = .str (S w) := hry
    subst hx hy
    refine ⟨_, rfl, _, .ty "tuple", .type "str", .type "tuple", false, rfl, .ty _, .base (.str _), kit_ty (by decide +kernel), false, rfl, iteF ?_⟩
    refine ⟨_, rfl, _, .ty "str", .type "str", .type "str", true, rfl, .ty _, .base (.str _), kit_ty (by decide +kernel), true, rfl, iteT ?_⟩
    refine ⟨_, rfl, _, .ty "str", .type "str", .type "str", true, rfl, .ty _, .base (.str _), kit_ty (by decide +kernel), true, rfl, iteT ⟨_, rfl, _, rfl, rfl, ?_⟩⟩
    rw [decide_eq_true rfl]
    exact q H (Same.refl H)
  | num i =>
    have hx : x = .int i := hrx
    have hy : y = .int i := hry
    subst hx hy
    refine ⟨_, rfl, _, .ty "tuple", .type "int", .type "tuple", false, rfl, .ty _, .base (.int _), kit_ty (by decide +kernel), false, rfl, iteF ?_⟩
    refine ⟨_, rfl, _, .ty "str", .type "int", .type "str", false, rfl, .ty _, .base (.int _), kit_ty (by decide +kernel), false, rfl, iteF ?_⟩
    refine ⟨_, rfl, _, .ty "int", .type "int", .type "int", true, rfl, .ty _, .base (.int _), kit_ty (by decide +kernel), true, rfl, iteT ?_⟩
    refine ⟨_, rfl, _, .ty "bool", .type "int", .type "bool", false, rfl, .ty _, .base (.int _), kit_ty (by decide +kernel), false, rfl, true, rfl, iteT ⟨_, rfl, _, rfl, rfl, ?_⟩⟩
    rw [decide_eq_true rfl]
    exact q H (Same.refl H)
  | tup vs =>
    obtain ⟨a, xs, rfl, ha, hxs⟩ := hrx
    obtain ⟨a2, ys, rfl, ha2, hys⟩ := hry
    simp only [dep] at hdep
    have hxl : xs.length = vs.length := hxs.len
    have hyl : ys.length = vs.length := hys.len
    have hcount := joinL_count (wrl vs)
    have hlen2 := hlen
    rw [wr_tup_len] at hlen2
    have hwl : (wrl vs).length = vs.length := by rw [wrl_map, List.length_map]
    refine ⟨_, rfl, _, .ty "tuple", .type "tuple", .type "tuple", true, rfl, .ty _, .base (.tup ha2), kit_ty (by decide +kernel), true, rfl, iteT ?_⟩
    refine ⟨_, rfl, _, .ty "tuple", .type "tuple", .type "tuple", true, rfl, .ty _, .base (.tup ha), kit_ty (by decide +kernel), true, rfl, iteF ?_⟩
    refine ⟨_, rfl, a, xs, rfl, .inr (.inl (.inl ha)), _, rfl, a2, ys, rfl, .inr (.inl (.inl ha2)), rfl, _, rfl, ?_⟩
    rw [hxl, hyl, decide_eq_true rfl]
    refine iteF ⟨_, rfl, a2, ys, rfl, .inr (.inl (.inl ha2)), (vs.length : Int), by rw [hyl], by omega, by omega, for_range (n := vs.length) (fun i σ H' => ∃ z, σ = [some (.ref a), some (.ref a2), z] ∧ Same H H')
      ⟨none, rfl, Same.refl H⟩ ?_ ?_⟩
    · rintro i σ H' hi ⟨z, rfl, sm⟩
      have hv : vs[i]? = some vs[i] := List.getElem?_eq_getElem hi
      obtain ⟨x1, ex, rx⟩ := hxs.at hv
      obtain ⟨y1, ey, ry⟩ := hys.at hv
      refine ⟨_, rfl, _, rfl, a, xs, _, x1, rfl, rfl, .inl (.inl (sm _ _ ha)), at_of (by omega : (0 : Int) + (i : Int) = (i : Int)) ex, _, rfl, _, rfl, a2, ys, _, y1, rfl, rfl, .inl (.inl (sm _ _ ha2)), at_of (by omega : (0 : Int) + (i : Int) = (i : Int)) ey, ?_⟩
      refine ⟨vs[i], x1, y1, rfl, Rep.mono (Tups.of_same sm) _ _ rx, Rep.mono (Tups.of_same sm) _ _ ry, by have := deps_get hv; omega, by have := wr_get hv; omega, fun H2 sm2 => ?_⟩
      exact ⟨true, rfl, iteF ⟨_, rfl, sm.trans sm2⟩⟩
    · rintro σ H' ⟨z, rfl, sm⟩
      exact q H' sm
end
end Kz
/-! KzDefs4 -/
set_option Elab.async false
set_option linter.all false
set_option maxRecDepth 100000
set_option maxHeartbeats 2000000
namespace Kz
open PySem PySem.Spec PyProof.Rows L2
open SX (S)
/-! ### _law_cell(script, k) -/
def spCell (K : PySem.W.Frag) : Sp := fun vs H Q _ => ∃ (a : Addr) (ns : List Int) (k : Nat), vs = [.ref a, .int (k : Int)] ∧ SqL K H a (ns.map V.int) ∧ Q (.int (ns.getD k 0)) H
theorem scCell : FnScope ["_law_script", "_law_k"] ["_law_script", "_law_k"] (defScope sCell) := ⟨rfl, rfl, rfl, by decide +kernel, rfl, by decide +kernel, by decide +kernel⟩
section
variable {P : Program} {w : World} {K : PySem.W.Frag} {mg : Str → Option Value} {base : Heap} {f : Addr} {fd : FuncData} {C fI cc : Addr}
theorem ok_cell {k : Nat} (T : Txt P K mg C fI cc) (F : Fun K "_law_cell" "_law_cell" sCell f fd) : FnOk P w K mg base CX0 (k + 1) f fd ["_law_script", "_law_k"] (spCell K) := by
  refine F.ok scCell (fun vs H Q E h => ?_) (fun cdv A outer s H vs Q E hr h => ?_)
  · obtain ⟨a, ns, k, rfl, _⟩ := h
    rfl
  obtain ⟨a, ns, k, rfl, hS, q⟩ := h
  refine ⟨_, pss_cons (ps_if (pt_cmpR op_lt (pv 1) (pe_callB call_len_seq rfl T.mlen PySem.boot_len (pa_cons (pv 0) pa_nil)) (nomark _)) (pss_one (ps_ret (pe_ix ix_list (pv 0) (pv 1) (fun _ _ => rfl)))) pss_nil)
    (pss_one (ps_ret pe_int)), ?_⟩
  refine ⟨_, rfl, _, rfl, a, _, rfl, .inl hS, _, _, rfl, rfl, _, rfl, ?_⟩
  rw [List.length_map]
  by_cases h : k < ns.length
  · rw [decide_eq_true (by omega)]
    have e : (ns.map V.int)[k]? = some (.int (ns.getD k 0)) := by
      rw [List.getElem?_map, List.getElem?_eq_getElem h, List.getD_eq_getElem?_getD, List.getElem?_eq_getElem h]
      rfl
    exact iteT ⟨_, rfl, _, rfl, a, _, _, _, rfl, rfl, hS, atI_nat e, q⟩
  · rw [decide_eq_false (by omega)]
    refine iteF ?_
    have e : ns.getD k 0 = 0 := by
      rw [List.getD_eq_getElem?_getD, List.getElem?_eq_none (by omega)]
      rfl
    rw [e] at q
    exact q
/-! ### _law_draws(cell, many): slots cell many draws rest k state other -/
def spDraws : Sp := fun vs H Q _ => ∃ (z : Int) (m : Nat), vs = [.int z, .int (m : Int)] ∧ m ≤ 1000 ∧
  ∀ (ds : List Int) (o : Addr) (H' : Hp), ds.length = m → (∀ d ∈ ds, 0 ≤ d ∧ d < 60) → Same H H' → H' o = some (.lst (ds.map V.int)) → Q (.ref o) H'
theorem scDraws : FnScope ["_law_cell_here", "_law_many", "_law_draws_here", "_law_rest", "_law_k", "_law_state", "_law_other"] ["_law_cell_here", "_law_many"] (defScope sDraws) := ⟨rfl, rfl, rfl, by decide +kernel, rfl, by decide +kernel, by decide +kernel⟩
theorem ok_draws {k : Nat} (T : Txt P K mg C fI cc) (F : Fun K "_law_draws" "_law_draws" sDraws f fd) : FnOk P w K mg base CX0 (k + 1) f fd ["_law_cell_here", "_law_many"] spDraws := by
  refine F.ok scDraws (fun vs H Q E h => ?_) (fun cdv A outer s H vs Q E hr h => ?_)
  · obtain ⟨z, m, rfl, _⟩ := h
    rfl
  obtain ⟨z, m, rfl, hm, q⟩ := h
  have nd := scDraws.nd
  refine ⟨_, pss_cons (ps_set (i := 2) nd rfl (Or.inl rfl) (pe_lst pa_nil))
    (pss_cons (ps_set (i := 3) nd rfl (Or.inl rfl) (pe_callB call_abs rfl T.mabs PyProof.Rows.boot_abs (pa_cons (pv 0) pa_nil)))
    (pss_cons (ps_if (pt_cmpR op_ge (pv 3) (pe_op op_pow pe_int pe_int) (nomark _))
      (pss_cons (ps_for PassesOwn.never rfl (pi_range1 rfl T.mran (pa_cons (pv 1) pa_nil)) (pg_name (i := 4) nd rfl (Or.inl rfl))
        (pss_cons (ps_expr (pe_bm PySem.F.plainAttrs_list PySem.F.slot_list_append PySem.F.type_list_append mt_append (pv 2) (pa_cons (pe_op op_mod (pv 3) pe_int) pa_nil)))
          (pss_one (ps_set (i := 3) nd rfl (Or.inl rfl) (pe_op op_fdiv (pv 3) pe_int)))))
        (pss_one (ps_ret (pv 2)))) pss_nil)
    (pss_cons (ps_set (i := 5) nd rfl (Or.inl rfl) (pe_op op_add (pv 3) pe_int))
    (pss_cons (ps_for PassesOwn.never rfl (pi_range1 rfl T.mran (pa_cons (pv 1) pa_nil)) (pg_name (i := 4) nd rfl (Or.inl rfl))
        (pss_cons (ps_set (i := 5) nd rfl (Or.inl rfl) (pe_op op_mod (pe_callTy call_int1 rfl T.mint PyProof.Rows.boot_int (pa_cons (pe_op op_add (pe_op op_add (pe_op op_mul (pv 5) pe_int) (pe_op op_mul pe_int (pv 4))) pe_int) pa_nil)) pe_int))
        (pss_cons (ps_set (i := 6) nd rfl (Or.inl rfl) (pe_op op_mod (pe_callTy call_int1 rfl T.mint PyProof.Rows.boot_int (pa_cons (pe_op op_add (pe_op op_mul (pv 5) pe_int) (pv 4)) pa_nil)) pe_int))
          (pss_one (ps_expr (pe_bm PySem.F.plainAttrs_list PySem.F.slot_list_append PySem.F.type_list_append mt_append (pv 2) (pa_cons (pe_op op_mod (pe_op op_fdiv (pv 6) pe_int) pe_int) pa_nil)))))))
    (pss_one (ps_ret (pv 2))))))), ?_⟩
  refine ⟨Nat.zero_le _, fun o ho => ?_⟩
  refine ⟨_, rfl, z, rfl, _, rfl, _, _, rfl, rfl, ⟨by decide, by decide, by decide⟩, _, _, rfl, rfl, _, rfl, ?_⟩
  have s1 : Same H (upd H o (.lst [])) := same_new ho _
  have lens : ∀ {ds : List Int} {i : Nat}, ds.length = i → i < m → (ds.map V.int).length < sizeLine := fun e h => by
    rw [List.length_map, e]
    exact small200 (by omega)
  have done : ∀ {ds : List Int} {d : Int}, (∀ x ∈ ds, 0 ≤ x ∧ x < 60) → 0 ≤ d ∧ d < 60 → ∀ x ∈ ds ++ [d], 0 ≤ x ∧ x < 60 := fun h1 h2 x hx => by
    rcases List.mem_append.mp hx with hx | hx
    · exact h1 x hx
    · rw [List.mem_singleton.mp hx]; exact h2
  have keep : ∀ {H' : Hp} {xs : List V}, Same H H' → Same H (upd H' o (.lst xs)) := fun sm b x e => by
    rw [upd_ne (ne_of_none e ho)]
    exact sm _ _ e
  refine ite2 (fun c => ?_) (fun c => ?_)
  · refine ⟨_, rfl, (m : Int), rfl, by omega, by omega, for_range (n := m) (fun i σ H' => ∃ (r : Int) (y : Option V) (ds : List Int), σ = [some (.int z), some (.int (m : Int)), some (.ref o), some (.int r), y, none, none] ∧ ds.length = i ∧ (∀ d ∈ ds, 0 ≤ d ∧ d < 60) ∧ Same H H' ∧ H' o = some (.lst (ds.map V.int)))
      ⟨_, none, [], rfl, rfl, (fun d hd => by cases hd), s1, upd_same⟩ ?_ ?_⟩
    · rintro i σ H' hi ⟨r, y, ds, rfl, hl, hd, sm, eo⟩
      refine ⟨.ref o, rfl, .inl ⟨rfl, _, .inl (.inl eo)⟩, _, rfl, _, _, rfl, rfl, (by show (0 : Int) < 60; decide), o, _, _, rfl, rfl, eo, lens hl hi, ?_⟩
      refine ⟨_, rfl, _, _, rfl, rfl, ⟨by decide, by decide⟩, ?_⟩
      refine ⟨_, _, ds ++ [r % 60], rfl, by rw [List.length_append, hl]; rfl, done hd ⟨by omega, by omega⟩, keep sm, ?_⟩
      rw [upd_same, List.map_append]
      rfl
    · rintro σ H' ⟨r, y, ds, rfl, hl, hd, sm, eo⟩
      exact ⟨_, rfl, q ds o H' hl hd sm eo⟩
  · have c' : ¬ (if z < 0 then -z else z) ≥ (10 : Int) ^ (18 : Int).toNat := of_decide_eq_false (Bool.eq_false_iff.mpr c)
    have c2 : (if z < 0 then -z else z) < 1000000000000000000 := by
      have e : (10 : Int) ^ (18 : Int).toNat = 1000000000000000000 := by decide
      rw [e] at c'
      omega
    have c3 : 0 ≤ (if z < 0 then -z else z) := by split <;> omega
    refine ⟨_, rfl, _, _, rfl, rfl, _, rfl, (m : Int), rfl, by omega, by omega, for_range (n := m) (fun i σ H' => ∃ (r st : Int) (y y6 : Option V) (ds : List Int), σ = [some (.int z), some (.int (m : Int)), some (.ref o), some (.int r), y, some (.int st), y6] ∧ (0 ≤ st ∧ st < 2000000000000000000) ∧ ds.length = i ∧ (∀ d ∈ ds, 0 ≤ d ∧ d < 60) ∧ Same H H' ∧ H' o = some (.lst (ds.map V.int)))
      ⟨_, _, none, none, [], rfl, ⟨by omega, by omega⟩, rfl, (fun d hd => by cases hd), s1, upd_same⟩ ?_ ?_⟩
    · rintro i σ H' hi ⟨r, st, y, y6, ds, rfl, hst, hl, hd, sm, eo⟩
      refine ⟨_, rfl, _, _, rfl, rfl, .inl ⟨by omega, by omega⟩, _, rfl, _, _, rfl, rfl, .inl ⟨by decide, by decide⟩, _, _, rfl, rfl, _, _, rfl, rfl, .inl ⟨_, rfl, _, _, rfl, rfl, (by show (0 : Int) < 2147483647; decide), ?_⟩⟩
      refine ⟨_, rfl, _, _, rfl, rfl, .inl ⟨by omega, by omega⟩, _, rfl, _, _, rfl, rfl, .inl ⟨_, rfl, _, _, rfl, rfl, (by show (0 : Int) < 1000003; decide), ?_⟩⟩
      refine ⟨.ref o, rfl, .inl ⟨rfl, _, .inl (.inl eo)⟩, _, rfl, _, _, rfl, rfl, ⟨by decide, by decide⟩, _, _, rfl, rfl, (by show (0 : Int) < 60; decide), o, _, _, rfl, rfl, eo, lens hl hi, ?_⟩
      refine ⟨_, _, _, _, ds ++ [((st * 48271 + 12345 * (0 + (i : Int)) + 7) % 2147483647 * 69621 + (0 + (i : Int))) % 1000003 / 3 % 60], rfl, ⟨by omega, by omega⟩, by rw [List.length_append, hl]; rfl, done hd ⟨Int.emod_nonneg _ (by decide), Int.emod_lt_of_pos _ (by decide)⟩, keep sm, ?_⟩
      rw [upd_same, List.map_append]
      rfl
    · rintro σ H' ⟨r, st, y, y6, ds, rfl, hst, hl, hd, sm, eo⟩
      exact ⟨_, rfl, q ds o H' hl hd sm eo⟩
end
/-! ### _law_word(cell): slots cell letters draws k -/
def spWord : Sp := fun vs H Q _ => ∃ (z : Int), vs = [.int z] ∧ ∀ (w : List Nat) (H' : Hp), Ok (.word w) → Same H H' → Q (.str (S w)) H'
theorem scWord : FnScope ["_law_cell_here", "_law_letters", "_law_draws_here", "_law_k"] ["_law_cell_here"] (defScope sWord) := ⟨rfl, rfl, rfl, by decide +kernel, rfl, by decide +kernel, by decide +kernel⟩
theorem joinL_nil : ∀ cs : List Nat, TL.joinL [] (cs.map fun c => [c]) = cs
  | [] => rfl
  | [c] => rfl
  | c :: d :: r => by
    have ih := joinL_nil (d :: r)
    show [c] ++ ([] ++ TL.joinL [] ((d :: r).map fun c => [c])) = _
    rw [ih]
    rfl
theorem letL_at : ∀ j : Nat, j < 26 → letL[j]? = some (97 + j) := by decide
theorem lit_letters : (Str.ofString "abcdefghijklmnopqrstuvwxyz") = S letL := by decide +kernel
section
variable {P : Program} {w : World} {K : PySem.W.Frag} {mg : Str → Option Value} {base : Heap} {f : Addr} {fd : FuncData} {C fI cc : Addr}
theorem ok_word {fD : Addr} {fdD : FuncData} (T : Txt P K mg C fI cc) (F : Fun K "_law_word" "_law_word" sWord f fd) (FD : Fun K "_law_draws" "_law_draws" sDraws fD fdD) (bD : Binds K fdD ["_law_cell_here", "_law_many"] []) (mD : mg "_law_draws" = some (.ref fD)) :
    FnOk P w K mg base CX0 2 f fd ["_law_cell_here"] spWord := by
  refine F.ok scWord (fun vs H Q E h => ?_) (fun cdv A outer s H vs Q E hr h => ?_)
  · obtain ⟨z, rfl, _⟩ := h
    rfl
  obtain ⟨z, rfl, q⟩ := h
  have nd := scWord.nd
  have GD : FnOk P w K mg base CX0 1 fD fdD ["_law_cell_here", "_law_many"] spDraws := ok_draws T FD
  refine ⟨_, pss_cons (ps_set (i := 1) nd rfl (Or.inr rfl) pe_str)
    (pss_cons (ps_set (i := 2) nd rfl (Or.inr rfl) (pe_call GD hr rfl mD FD.kp bD .nil pass0 (pa_cons (pv 0) (pa_cons pe_int pa_nil))))
    (pss_one (ps_ret (pe_join pe_str (pe_lc (own := [("_law_k", 3)]) (g := gName 3) (tt := tYes) rfl nd (pi_range1 rfl T.mran (pa_cons (pe_op op_add pe_int (pe_op op_mod (pe_ix ix_list (pv 2) pe_int (fun _ _ => rfl)) pe_int)) pa_nil))
      (blkOk_by (N := ["_law_cell_here", "_law_letters", "_law_draws_here", "_law_k"]) (sc := defScope sWord) (by decide +kernel))
      (fun _ _ _ _ _ => pg_name (i := 3) nd rfl (Or.inl rfl)) (fun _ _ _ _ _ => pts_nil)
      (fun _ _ _ _ _ => pe_ix ix_str (pv 1) (pe_op op_mod (pe_op op_add (pe_ix (r := rIxL K) ix_list (pv 2) (pe_op op_add (pv 3) pe_int) (fun _ _ => rfl)) (pv 3)) pe_int) (fun _ _ => rfl))))))), ?_⟩
  refine ⟨_, rfl, z, 21, rfl, by decide, fun ds o H1 hl hd sm eo => ?_⟩
  have g0 : ∀ j : Nat, j < 21 → ∃ d, (ds.map V.int)[j]? = some (.int d) ∧ 0 ≤ d ∧ d < 60 := fun j hj => by
    have h1 : j < ds.length := by omega
    refine ⟨ds[j], by rw [List.getElem?_map, List.getElem?_eq_getElem h1]; rfl, hd _ (List.getElem_mem h1)⟩
  obtain ⟨d0, e0, p0, p1⟩ := g0 0 (by decide)
  have hS : ∀ H', Same H1 H' → SqL K H' o (ds.map V.int) := fun H' s => .inl (.inl (s _ _ eo))
  refine ⟨⟨_, rfl⟩, _, rfl, o, _, 0, _, rfl, rfl, hS H1 (Same.refl H1), atI_nat (j := 0) e0, _, _, rfl, rfl, (by show (0 : Int) < 20; decide), _, _, rfl, rfl, ?_⟩
  refine ⟨1 + d0 % 20, rfl, by omega, by omega, fun D hD => ?_⟩
  refine lc_range (n := (1 + d0 % 20).toNat) (fun i H' => ∃ cs : List Nat, cs.length = i ∧ (∀ c ∈ cs, isL c = true) ∧ Same H1 H' ∧ H' D = some (.lst (cs.map fun c => V.str (S [c])))) ⟨[], rfl, (fun c hc => by cases hc), same_new hD _, upd_same⟩ ?_ ?_
  · rintro i H' hi ⟨cs, hcl, hc, s2, eD⟩
    obtain ⟨d, e, p2, p3⟩ := g0 (i + 1) (by omega)
    obtain ⟨j, hj⟩ : ∃ j : Nat, (d + (0 + (i : Int))) % 26 = (j : Int) := ⟨((d + (0 + (i : Int))) % 26).toNat, by omega⟩
    have hj26 : j < 26 := by omega
    refine ⟨rfl, _, rfl, _, rfl, _, rfl, _, _, rfl, rfl, o, _, _, _, rfl, rfl, hS H' s2, at_of (by omega : (0 : Int) + (i : Int) + 1 = ((i + 1 : Nat) : Int)) e, _, rfl, _, _, rfl, rfl, _, _, rfl, rfl, (by show (0 : Int) < 26; decide), S letL, _, _, rfl, rfl, by decide, (by rw [hj]; exact atI_nat (letL_at j hj26)), ?_⟩
    refine ⟨_, eD, ?_, cs ++ [97 + j], by rw [List.length_append, hcl]; rfl, ?_, ?_, ?_⟩
    · rw [List.length_map, hcl]
      exact small200 (by omega)
    · intro c hcm
      rcases List.mem_append.mp hcm with hcm | hcm
      · exact hc c hcm
      · rw [List.mem_singleton.mp hcm]
        exact isL_iff.mpr ⟨by omega, by omega⟩
    · intro b x e
      rw [upd_ne (ne_of_none e hD)]
      exact s2 _ _ e
    · rw [upd_same, List.map_append]
      rfl
  · rintro H' ⟨cs, hcl, hc, s2, eD⟩
    have hyl : (cs.map fun c => V.str (S [c])) = ((cs.map fun c => [c]).map S).map V.str := by
      rw [List.map_map, List.map_map]
      rfl
    refine ⟨_, D, (cs.map fun c => [c]).map S, rfl, rfl, .inl (.inl (.inl (by rw [← hyl]; exact eD))), ?_, ?_⟩
    · rw [SX.lens, List.length_map, List.length_map, List.map_map]
      have e1 : (cs.map (List.length ∘ fun c => [c])).sum = cs.length := by
        clear hcl hc eD hyl
        induction cs with
        | nil => rfl
        | cons c r ih => simp only [List.map_cons, List.sum_cons, List.length_cons, Function.comp_apply, List.length_nil]; rw [ih]; omega
      rw [e1, hcl]
      (try rw [lit_empty]); rw [SX.S_len]
      show _ + _ * 0 ≤ _
      omega
    · (try rw [lit_empty]); rw [SX.join_S, joinL_nil]
      refine q cs H' ?_ (sm.trans s2)
      simp only [Ok]
      exact ⟨by omega, by omega, hc⟩
end
end Kz
/-! KzDefs5 -/
set_option Elab.async false
set_option linter.all false
set_option maxRecDepth 100000
set_option maxHeartbeats 4000000
namespace Kz
open PySem PySem.Spec PyProof.Rows L2
open SX (S)
/-! ### what the drawn value weighs -/
def wts (row : List Val) : Nat := ((wrl row).map List.length).sum + row.length
def Wt : Stk → Nat
  | [] => 0
  | top :: rest => wts top + 3 + Wt rest
theorem wts_snoc (row : List Val) (v : Val) : wts (row ++ [v]) = wts row + ((wr v).length + 1) := by
  unfold wts
  rw [wrl_app, List.map_append, List.sum_append, List.length_append]
  simp only [wrl, List.map_cons, List.map_nil, List.sum_cons, List.sum_nil, List.length_cons, List.length_nil]
  omega
theorem joinL_le : ∀ l : List (List Nat), (TL.joinL [32] l).length ≤ (l.map List.length).sum + l.length
  | [] => by simp [TL.joinL]
  | [p] => by simp [TL.joinL]
  | p :: q :: r => by
    have ih := joinL_le (q :: r)
    have e : TL.joinL [32] (p :: q :: r) = p ++ ([32] ++ TL.joinL [32] (q :: r)) := rfl
    rw [e]
    simp only [List.map_cons, List.sum_cons, List.length_cons, List.length_append, List.length_nil] at ih ⊢
    omega
theorem tup_wts (row : List Val) : (wr (.tup row)).length ≤ wts row + 2 := by
  rw [wr_tup_len]
  have h := joinL_le (wrl row)
  have e : (wrl row).length = row.length := by rw [wrl_map, List.length_map]
  unfold wts
  omega
theorem wts_get {row : List Val} {i : Nat} {v : Val} (h : row[i]? = some v) : (wr v).length ≤ wts row := by
  have h1 : (wrl row)[i]? = some (wr v) := by rw [wrl_map, List.getElem?_map, h]; rfl
  have h2 := sum_get h1
  unfold wts
  omega
def DepV : Stk → Prop
  | [] => True
  | top :: rest => deps top + rest.length ≤ 8 ∧ Oks top ∧ DepV rest
theorem HPart.add {H0 H : Hp} {R A : Addr} {top : List Val} {st : Stk} {rs : List Addr} {n m : Nat} {xs : List V} {v : Val} {x : V} (h : HPart H0 H R (top :: st) (A :: rs) n) (hA : H A = some (.lst xs)) (hv : Rep H v x) (hm : n + 1 ≤ m) :
    HPart H0 (upd H A (.lst (xs ++ [x]))) R ((top ++ [v]) :: st) (A :: rs) m := by
  obtain ⟨⟨xs', e', hr⟩, hn, h2⟩ := h.stk
  have ex : xs' = xs := by rw [hA] at e'; injection e' with e'; injection e' with e'; exact e'.symm
  subst ex
  have tps : Tups H (upd H A (.lst (xs' ++ [x]))) := Tups.lst hA
  have nRA : R ≠ A := fun z => h.nR (by rw [z]; exact List.mem_cons_self)
  refine ⟨⟨⟨_, upd_same, Reps.snoc (Rep.mono tps _ _ hv) (Reps.mono tps _ _ hr)⟩, hn, h2.mono tps fun r hr' ys e => ?_⟩, (upd_ne nRA).trans h.hR, h.nR, ?_, h.oR, h.ors, ?_⟩
  · rw [upd_ne (fun z => hn (by rw [← z]; exact hr'))]
    exact e
  · intro b o e
    rw [upd_ne (fun z => by rw [z, h.ors A List.mem_cons_self] at e; cases e)]
    exact h.same b o e
  · intro row hr'
    rcases List.mem_cons.mp hr' with rfl | hr'
    · have := h.row top List.mem_cons_self
      rw [List.length_append, List.length_singleton]
      omega
    · have := h.row row (List.mem_cons_of_mem _ hr')
      omega
theorem HPart.mono {H0 H H' : Hp} {R : Addr} {st : Stk} {rs : List Addr} {n m : Nat} (h : HPart H0 H R st rs n) (s : Same H H') (hm : n ≤ m) : HPart H0 H' R st rs m :=
  ⟨h.stk.mono (Tups.of_same s) fun r _ xs e => s _ _ e, s _ _ h.hR, h.nR, h.same.trans s, h.oR, h.ors, fun row hr => Nat.le_trans (h.row row hr) hm⟩
structure SInv (H0 H : Hp) (R : Addr) (st : Stk) (rs : List Addr) (i : Nat) : Prop where
  hp : HPart H0 H R st rs i
  one : 1 ≤ st.length
  eight : st.length ≤ 8
  dv : DepV st
  w : Wt st ≤ 3 + 203 * i
theorem SInv.mono {H0 H H' : Hp} {R : Addr} {st : Stk} {rs : List Addr} {i : Nat} (h : SInv H0 H R st rs i) (s : Same H H') : SInv H0 H' R st rs i := ⟨h.hp.mono s (Nat.le_refl _), h.one, h.eight, h.dv, h.w⟩
theorem SInv.next {H0 H : Hp} {R : Addr} {st : Stk} {rs : List Addr} {i : Nat} (h : SInv H0 H R st rs i) : SInv H0 H R st rs (i + 1) := ⟨h.hp.mono (Same.refl _) (Nat.le_succ _), h.one, h.eight, h.dv, by have := h.w; omega⟩
theorem SInv.add {H0 H : Hp} {R A : Addr} {top : List Val} {st : Stk} {rs : List Addr} {i : Nat} {xs : List V} {v : Val} {x : V} (h : SInv H0 H R (top :: st) (A :: rs) i) (hA : H A = some (.lst xs)) (hv : Rep H v x) (ho : Ok v) (hd : dep v ≤ 1) (hl : (wr v).length ≤ 202) :
    SInv H0 (upd H A (.lst (xs ++ [x]))) R ((top ++ [v]) :: st) (A :: rs) (i + 1) := by
  refine ⟨h.hp.add hA hv (Nat.le_refl _), by simp, h.eight, ⟨?_, ?_, h.dv.2.2⟩, ?_⟩
  · have h1 := h.dv.1
    have h2 := h.eight
    rw [deps_app]
    show max (deps top) (max (dep v) 0) + st.length ≤ 8
    rw [Nat.max_zero]
    simp only [List.length_cons] at h2
    rcases Nat.le_total (deps top) (dep v) with z | z
    · rw [Nat.max_eq_right z]; omega
    · rw [Nat.max_eq_left z]; omega
  · rw [Oks_app]
    exact ⟨h.dv.2.1, ho, trivial⟩
  · have hw := h.w
    simp only [Wt] at hw ⊢
    rw [wts_snoc]
    omega
theorem SInv.open {H0 H : Hp} {R p : Addr} {st : Stk} {rs : List Addr} {i : Nat} (h : SInv H0 H R st rs i) (h8 : st.length < 8) (hp : H p = none) :
    SInv H0 (upd (upd H p (.lst [])) R (.lst ((rs.reverse ++ [p]).map V.ref))) R ([] :: st) (p :: rs) (i + 1) := by
  refine ⟨h.hp.push hp (Nat.le_succ _), by simp, h8, ⟨?_, trivial, h.dv⟩, ?_⟩
  · show 0 + st.length ≤ 8
    omega
  · have hw := h.w
    simp only [Wt]
    have e : wts [] = 0 := rfl
    rw [e]
    omega
theorem SInv.shut {H0 H : Hp} {R A B p : Addr} {top q : List Val} {st : Stk} {rs : List Addr} {i : Nat} {xs ys : List V} (h : SInv H0 H R (top :: q :: st) (A :: B :: rs) i) (hA : H A = some (.lst xs)) (hB : H B = some (.lst ys)) (hp : H p = none) :
    SInv H0 (upd (upd (upd H R (.lst ((rs.reverse ++ [B]).map V.ref))) p (.tup xs)) B (.lst (ys ++ [.ref p]))) R ((q ++ [.tup top]) :: st) (B :: rs) (i + 1) := by
  have h8 := h.eight
  obtain ⟨d1, o1, d2, o2, d3⟩ := h.dv
  simp only [List.length_cons] at h8 d1
  refine ⟨h.hp.close hA hB hp (Nat.le_refl _), by simp, by simp only [List.length_cons]; omega, ⟨?_, ?_, d3⟩, ?_⟩
  · rw [deps_app]
    show max (deps q) (max (1 + deps top) 0) + st.length ≤ 8
    rw [Nat.max_zero]
    rcases Nat.le_total (deps q) (1 + deps top) with z | z
    · rw [Nat.max_eq_right z]; omega
    · rw [Nat.max_eq_left z]; omega
  · rw [Oks_app]
    exact ⟨o2, o1, trivial⟩
  · have hw := h.w
    have ht := tup_wts top
    simp only [Wt] at hw ⊢
    rw [wts_snoc]
    omega
theorem numS_len {i : Int} (h : i.natAbs < 10 ^ 200) : (numS i).length ≤ 201 := by
  have hl := TL.numL_len (n := i.natAbs) (k := 200) (by decide) h
  unfold numS
  split
  · rw [List.length_cons]; omega
  · omega
theorem wr_num_len {i : Int} (h : i.natAbs < 10 ^ 200) : (wr (.num i)).length ≤ 202 := by
  have := numS_len h
  simp only [wr]
  omega
theorem wr_word_len {w : List Nat} (h : Ok (.word w)) : (wr (.word w)).length ≤ 202 := by
  simp only [Ok] at h
  simp only [wr]
  omega
/-- 10 ** 50 four times -/
def Lg : Int := (10 : Int) ^ (50 : Int).toNat * (10 : Int) ^ (50 : Int).toNat * (10 : Int) ^ (50 : Int).toNat * (10 : Int) ^ (50 : Int).toNat
theorem Lg_eq : Lg = ((10 ^ 200 : Nat) : Int) := by decide +kernel
theorem Lg_pos : 0 < Lg := by decide +kernel
theorem mod_Lg (z : Int) : 0 ≤ z % Lg ∧ (z % Lg).natAbs < 10 ^ 200 := by
  have h1 := Int.emod_nonneg z (Int.ne_of_gt Lg_pos)
  have h2 : z % Lg < ((10 ^ 200 : Nat) : Int) := Lg_eq ▸ Int.emod_lt_of_pos z Lg_pos
  exact ⟨h1, Int.ofNat_lt.mp (by rw [Int.natAbs_of_nonneg h1]; exact h2)⟩
theorem iteD {p A B : Prop} [Decidable p] (h : p) (ha : A) : if decide p = true then A else B := by rw [decide_eq_true h]; exact iteT ha
theorem iteND {p A B : Prop} [Decidable p] (h : ¬ p) (hb : B) : if decide p = true then A else B := by rw [decide_eq_false h]; exact iteF hb
theorem iteE {a b : Int} {A B : Prop} (h : a = b) (ha : A) : if decide (V.int a = V.int b) = true then A else B := iteD (congrArg V.int h) ha
theorem iteNE {a b : Int} {A B : Prop} (h : a ≠ b) (hb : B) : if decide (V.int a = V.int b) = true then A else B := iteND (fun z => h (V.int.inj z)) hb
/-! ### _law_value(script): slots script stack large cell kind size done value first k -/
def spValue (K : PySem.W.Frag) : Sp := fun vs H Q _ => ∃ (a : Addr) (ns : List Int), vs = [.ref a] ∧ SqL K H a (ns.map V.int) ∧ ns.length ≤ 63 ∧
  ∀ (v : Val) (x : V) (H' : Hp), Ok v → dep v ≤ 100 → (wr v).length ≤ 20000 → Rep H' v x → Same H H' → Q x H'
abbrev nValue : List Str := ["_law_script", "_law_stack", "_law_large", "_law_cell_here", "_law_kind", "_law_size", "_law_done", "_law_value_here", "_law_first", "_law_k"]
theorem scValue : FnScope nValue ["_law_script"] (defScope sValue) := ⟨rfl, rfl, rfl, by decide +kernel, rfl, by decide +kernel, by decide +kernel⟩
section
variable {P : Program} {w : World} {K : PySem.W.Frag} {mg : Str → Option Value} {base : Heap} {f : Addr} {fd : FuncData} {C fI cc : Addr}
theorem ok_value {fD fW fC : Addr} {fdD fdW fdC : FuncData} (T : Txt P K mg C fI cc) (F : Fun K "_law_value" "_law_value" sValue f fd) (FD : Fun K "_law_draws" "_law_draws" sDraws fD fdD) (bD : Binds K fdD ["_law_cell_here", "_law_many"] []) (mD : mg "_law_draws" = some (.ref fD))
    (FW : Fun K "_law_word" "_law_word" sWord fW fdW) (bW : Binds K fdW ["_law_cell_here"] []) (mW : mg "_law_word" = some (.ref fW)) (FC : Fun K "_law_cell" "_law_cell" sCell fC fdC) (bC : Binds K fdC ["_law_script", "_law_k"] []) (mC : mg "_law_cell" = some (.ref fC)) :
    FnOk P w K mg base CX0 3 f fd ["_law_script"] (spValue K) := by
  refine F.ok scValue (fun vs H Q E h => ?_) (fun cdv A outer s H vs Q E hr h => ?_)
  · obtain ⟨a, ns, rfl, _⟩ := h
    rfl
  obtain ⟨a, ns, rfl, hS, h63, q⟩ := h
  have nd := scValue.nd
  have GW : FnOk P w K mg base CX0 2 fW fdW ["_law_cell_here"] spWord := ok_word T FW FD bD mD
  have GC : FnOk P w K mg base CX0 1 fC fdC ["_law_script", "_law_k"] (spCell K) := ok_cell T FC
  refine ⟨_, pss_cons (ps_set (i := 1) nd rfl (Or.inl rfl) (pe_lst (pa_cons (pe_lst pa_nil) pa_nil)))
    (pss_cons (ps_set (i := 2) nd rfl (Or.inl rfl) (pe_op op_mulW (pe_op op_mulW (pe_op op_mulW (pe_op op_pow pe_int pe_int) (pe_op op_pow pe_int pe_int)) (pe_op op_pow pe_int pe_int)) (pe_op op_pow pe_int pe_int)))
    (pss_cons (ps_for PassesOwn.never rfl (pi_list (pe_slice sl_list (pv 0) (po_some pe_int) (po_some pe_int))) (pg_name (i := 3) nd rfl (Or.inl rfl))
      (pss_cons (ps_set (i := 4) nd rfl (Or.inl rfl) (pe_op op_mod (pe_callTy call_int1 rfl T.mint PyProof.Rows.boot_int (pa_cons (pv 3) pa_nil)) pe_int))
      (pss_cons (ps_set (i := 5) nd rfl (Or.inl rfl) (pe_op op_fdiv (pe_callTy call_int1 rfl T.mint PyProof.Rows.boot_int (pa_cons (pv 3) pa_nil)) pe_int))
      (pss_one (ps_if (pt_cmpR op_eq (pv 4) pe_int (nomark _))
        (pss_one (ps_expr (pe_bm PySem.F.plainAttrs_list PySem.F.slot_list_append PySem.F.type_list_append mt_append (pe_ix ix_list (pv 1) (pe_un un_neg pe_int) (fun _ _ => rfl)) (pa_cons (pe_op op_mod (pe_callTy call_int1 rfl T.mint PyProof.Rows.boot_int (pa_cons (pv 5) pa_nil)) (pv 2)) pa_nil))))
        (pss_one (ps_if (pt_cmpR op_eq (pv 4) pe_int (nomark _))
          (pss_one (ps_expr (pe_bm PySem.F.plainAttrs_list PySem.F.slot_list_append PySem.F.type_list_append mt_append (pe_ix ix_list (pv 1) (pe_un un_neg pe_int) (fun _ _ => rfl)) (pa_cons (pe_op op_sub pe_int (pe_op op_mod (pe_callTy call_int1 rfl T.mint PyProof.Rows.boot_int (pa_cons (pv 5) pa_nil)) (pv 2))) pa_nil))))
          (pss_one (ps_if (pt_cmpR op_eq (pv 4) pe_int (nomark _))
            (pss_one (ps_expr (pe_bm PySem.F.plainAttrs_list PySem.F.slot_list_append PySem.F.type_list_append mt_append (pe_ix ix_list (pv 1) (pe_un un_neg pe_int) (fun _ _ => rfl)) (pa_cons (pe_op op_mod (pe_callTy call_int1 rfl T.mint PyProof.Rows.boot_int (pa_cons (pv 5) pa_nil)) pe_int) pa_nil))))
            (pss_one (ps_if (pt_cmpR op_eq (pv 4) pe_int (nomark _))
              (pss_one (ps_expr (pe_bm PySem.F.plainAttrs_list PySem.F.slot_list_append PySem.F.type_list_append mt_append (pe_ix ix_list (pv 1) (pe_un un_neg pe_int) (fun _ _ => rfl)) (pa_cons (pe_call GW hr rfl mW FW.kp bW .nil pass0 (pa_cons (pv 5) pa_nil)) pa_nil))))
              (pss_one (ps_if (PW.pt (pw_and (pt_cmpR op_eq (pv 4) pe_int (nomark _)) (pw_and1 (pt_cmpR op_lt (pe_callB call_len_seq rfl T.mlen PySem.boot_len (pa_cons (pv 1) pa_nil)) pe_int (nomark _)))))
                (pss_one (ps_expr (pe_bm PySem.F.plainAttrs_list PySem.F.slot_list_append PySem.F.type_list_append mt_append (pv 1) (pa_cons (pe_lst pa_nil) pa_nil))))
                (pss_one (ps_if (PW.pt (pw_and (pt_cmpR op_eq (pv 4) pe_int (nomark _)) (pw_and1 (pt_cmpR op_gt (pe_callB call_len_seq rfl T.mlen PySem.boot_len (pa_cons (pv 1) pa_nil)) pe_int (nomark _)))))
                  (pss_cons (ps_set (i := 6) nd rfl (Or.inl rfl) (pe_tupleOf rfl T.mtup (pe_bm0 PySem.F.plainAttrs_list PySem.F.slot_list_pop PySem.F.type_list_pop mt_pop (pv 1))))
                    (pss_one (ps_expr (pe_bm PySem.F.plainAttrs_list PySem.F.slot_list_append PySem.F.type_list_append mt_append (pe_ix ix_list (pv 1) (pe_un un_neg pe_int) (fun _ _ => rfl)) (pa_cons (pv 6) pa_nil)))))
                  (pss_one (ps_expr (pe_bm PySem.F.plainAttrs_list PySem.F.slot_list_append PySem.F.type_list_append mt_append (pe_ix ix_list (pv 1) (pe_un un_neg pe_int) (fun _ _ => rfl)) (pa_cons (pe_tup pa_nil) pa_nil)))))))))))))))))))
    (pss_cons (ps_while PassesOwn.never (pt_cmpR op_gt (pe_callB call_len_seq rfl T.mlen PySem.boot_len (pa_cons (pv 1) pa_nil)) pe_int (nomark _))
      (pss_cons (ps_set (i := 6) nd rfl (Or.inl rfl) (pe_tupleOf rfl T.mtup (pe_bm0 PySem.F.plainAttrs_list PySem.F.slot_list_pop PySem.F.type_list_pop mt_pop (pv 1))))
        (pss_one (ps_expr (pe_bm PySem.F.plainAttrs_list PySem.F.slot_list_append PySem.F.type_list_append mt_append (pe_ix ix_list (pv 1) (pe_un un_neg pe_int) (fun _ _ => rfl)) (pa_cons (pv 6) pa_nil))))))
    (pss_cons (ps_set (i := 7) nd rfl (Or.inl rfl) (pe_tupleOf rfl T.mtup (pe_ix ix_list (pv 1) pe_int (fun _ _ => rfl))))
    (pss_cons (ps_set (i := 8) nd rfl (Or.inl rfl) (pe_call GC (hr.mono (by decide)) rfl mC FC.kp bC .nil pass0 (pa_cons (pv 0) (pa_cons pe_int pa_nil))))
    (C8.pss_cut (ps_if (PW.pt (pw_and (pt_cmpR op_gt (pe_callB call_len_seq rfl T.mlen PySem.boot_len (pa_cons (pv 7) pa_nil)) pe_int (nomark _)) (pw_and1 (pt_cmpR op_eq (pe_op op_mod (pe_callTy call_int1 rfl T.mint PyProof.Rows.boot_int (pa_cons (pv 8) pa_nil)) pe_int) pe_int (nomark _)))))
        (pss_one (ps_set (i := 7) nd rfl (Or.inl rfl) (pe_ix ix_tup (pv 7) (pe_op op_mod (pe_op op_fdiv (pe_callTy call_int1 rfl T.mint PyProof.Rows.boot_int (pa_cons (pv 8) pa_nil)) pe_int) (pe_callB call_len_seq rfl T.mlen PySem.boot_len (pa_cons (pv 7) pa_nil))) (fun _ _ => rfl)))) pss_nil)
    (C8.pss_cut (ps_if (pt_cmpR op_eq (pe_op op_mod (pe_op op_fdiv (pe_callTy call_int1 rfl T.mint PyProof.Rows.boot_int (pa_cons (pv 8) pa_nil)) pe_int) pe_int) pe_int (nomark _))
        (pss_one (ps_for PassesOwn.never rfl (pi_range1 rfl T.mran (pa_cons (pe_op op_mod (pe_op op_fdiv (pe_callTy call_int1 rfl T.mint PyProof.Rows.boot_int (pa_cons (pv 8) pa_nil)) pe_int) pe_int) pa_nil)) (pg_name (i := 9) nd rfl (Or.inl rfl))
          (pss_one (ps_set (i := 7) nd rfl (Or.inl rfl) (pe_tup (pa_cons (pv 7) pa_nil)))))) pss_nil)
    (pss_one (ps_ret (pv 7)))))))))), ?_⟩
  refine ⟨Nat.zero_le _, fun A0 hA0 => ⟨by show 1 ≤ sizeLine; decide, fun R hRn => ?_⟩⟩
  refine ⟨_, _, rfl, rfl, ⟨by decide, by decide, by decide⟩, _, _, rfl, rfl, ⟨by decide, by decide, by decide⟩, _, _, rfl, rfl, by show _ < _; decide +kernel, _, _, rfl, rfl, ⟨by decide, by decide, by decide⟩, _, _, rfl, rfl, by show _ < _; decide +kernel,
    _, _, rfl, rfl, ⟨by decide, by decide, by decide⟩, _, _, rfl, rfl, by show _ < _; decide +kernel, ?_⟩
  have hRA : R ≠ A0 := fun z => by rw [z, upd_same] at hRn; cases hRn
  have hR0 : H R = none := by rw [upd_ne hRA] at hRn; exact hRn
  have s2 : Same H (upd (upd H A0 (.lst [])) R (.lst [.ref A0])) := (same_new hA0 _).trans (same_new hRn _)
  refine ⟨_, rfl, 1, rfl, 61, rfl, a, ns.map V.int, rfl, s2.seq hS, fun c hc => ?_⟩
  have hcut : ∀ i x, (cutV (ns.map V.int) (some 1) (some 61))[i]? = some x → i < 60 ∧ ∃ z, x = .int z := by
    intro i x hx
    have hi := (List.getElem?_eq_some_iff.mp hx).1
    have hm := List.mem_of_getElem? hx
    unfold cutV at hi hm
    rw [show HT.sIx (ns.map V.int).length 0 (some 1) = min 1 (ns.map V.int).length from HT.sIx_nat _ 0 1, show HT.sIx (ns.map V.int).length (ns.map V.int).length (some 61) = min 61 (ns.map V.int).length from HT.sIx_nat _ _ 61] at hi hm
    rw [List.length_take] at hi
    have hm2 := List.mem_of_mem_drop (List.mem_of_mem_take hm)
    obtain ⟨z, _, e⟩ := List.mem_map.mp hm2
    exact ⟨by omega, z, e.symm⟩
  have hclen : (cutV (ns.map V.int) (some 1) (some 61)).length ≤ 60 := by
    refine Decidable.byContradiction fun z => ?_
    have h60 : 60 < (cutV (ns.map V.int) (some 1) (some 61)).length := by omega
    have := (hcut 60 _ (List.getElem?_eq_getElem h60)).1
    omega
  generalize cutV (ns.map V.int) (some 1) (some 61) = cut at hcut hclen
  have hcR : c ≠ R := fun z => by rw [z, upd_same] at hc; cases hc
  have hcA : c ≠ A0 := fun z => by rw [upd_ne hcR, z, upd_same] at hc; cases hc
  have hc0 : H c = none := by rw [upd_ne hcR, upd_ne hcA] at hc; exact hc
  have inv0 : SInv (upd H c (.lst cut)) (upd (upd (upd H A0 (.lst [])) R (.lst [.ref A0])) c (.lst cut)) R [[]] [A0] 0 := by
    refine ⟨⟨⟨⟨[], (upd_ne hcA.symm).trans ((upd_ne hRA.symm).trans upd_same), rfl⟩, by simp, trivial⟩, (upd_ne hcR.symm).trans upd_same, by simpa using hRA, ?_, (upd_ne hcR.symm).trans hR0, ?_, ?_⟩, Nat.le_refl _, by decide, ⟨Nat.zero_le _, trivial, trivial⟩, Nat.le_refl _⟩
    · intro b o e
      by_cases hb : b = c
      · rw [hb, upd_same] at e ⊢
        exact e
      · rw [upd_ne hb] at e ⊢
        exact s2 _ _ e
    · intro r hr
      rw [List.mem_singleton.mp hr, upd_ne hcA.symm]
      exact hA0
    · intro row hr
      rw [List.mem_singleton.mp hr]
      exact Nat.le_refl _
  have back : ∀ {H' : Hp}, Same (upd H c (.lst cut)) H' → Same H H' := fun h => (same_new hc0 _).trans h
  refine ⟨c, rfl, ⟨_, .inl (.inl upd_same)⟩, for_list (K := K) (xs := cut) (fun i σ H' => ∃ (st : Stk) (rs : List Addr) (y3 y4 y5 y6 : Option V), σ = [some (.ref a), some (.ref R), some (.int Lg), y3, y4, y5, y6, none, none, none] ∧ SInv (upd H c (.lst cut)) H' R st rs i)
    ⟨[[]], [A0], none, none, none, none, rfl, inv0⟩ (fun i σ H' _ ⟨st, rs, _, _, _, _, _, I⟩ => .inl (.inl (I.hp.same _ _ upd_same))) ?_ ?_⟩
  · rintro i x σ H' hi ⟨st, rs, y3, y4, y5, y6, rfl, I⟩
    obtain ⟨hi60, z, rfl⟩ := hcut i x hi
    have hone := I.one
    cases st with
    | nil => cases hone
    | cons tp st =>
    obtain ⟨A, rs', xs, rfl, hA, hx, he⟩ := row_of I.hp
    have hRr : H' R = some (.lst ((rs'.reverse ++ [A]).map V.ref)) := by rw [← List.reverse_cons]; exact I.hp.hR
    have hRl : SqL K H' R ((rs'.reverse ++ [A]).map V.ref) := .inl (.inl hRr)
    have hAl : SqL K H' A xs := .inl (.inl hA)
    have hrow := I.hp.row tp List.mem_cons_self
    have hsz : xs.length < sizeLine := small200 (by omega)
    have hlast := last_of rs'.reverse A
    have hlenR : ((rs'.reverse ++ [A]).map V.ref).length = st.length + 1 := by
      have := I.hp.stk.len
      rw [List.length_map, List.length_append, List.length_reverse]
      simpa using this
    have m7 : 0 ≤ z % 7 ∧ z % 7 < 7 := ⟨Int.emod_nonneg _ (by decide), Int.emod_lt_of_pos _ (by decide)⟩
    refine ⟨_, rfl, .inl ⟨_, rfl, _, _, rfl, rfl, (by show (0 : Int) < 7; decide), ?_⟩⟩
    refine ⟨_, rfl, .inl ⟨_, rfl, _, _, rfl, rfl, ⟨by decide, by decide⟩, ?_⟩⟩
    by_cases k0 : z % 7 = 0
    · refine ⟨_, rfl, rfl, _, rfl, iteE k0 ?_⟩
      refine ⟨.ref R, rfl, 1, rfl, R, _, -1, _, rfl, rfl, hRl, hlast, .inl ⟨rfl, _, hAl⟩, _, rfl, .inl ⟨_, rfl, _, rfl, _, _, rfl, rfl, Lg_pos, A, xs, _, rfl, rfl, hA, hsz, ?_⟩⟩
      have hm := mod_Lg (z / 7)
      exact ⟨_, _, _, _, _, _, rfl, I.add hA (v := .num (z / 7 % Lg)) rfl (by simp only [Ok]; exact hm.2) (Nat.zero_le _) (wr_num_len hm.2)⟩
    refine ⟨_, rfl, rfl, _, rfl, iteNE k0 ?_⟩
    by_cases k1 : z % 7 = 1
    · refine ⟨_, rfl, rfl, _, rfl, iteE k1 ?_⟩
      refine ⟨.ref R, rfl, 1, rfl, R, _, -1, _, rfl, rfl, hRl, hlast, .inl ⟨rfl, _, hAl⟩, _, rfl, .inl ⟨_, rfl, _, rfl, _, _, rfl, rfl, Lg_pos, _, _, rfl, rfl, A, xs, _, rfl, rfl, hA, hsz, ?_⟩⟩
      have hm := mod_Lg (z / 7)
      have hm2 : (0 - z / 7 % Lg).natAbs < 10 ^ 200 := by rw [Int.zero_sub, Int.natAbs_neg]; exact hm.2
      exact ⟨_, _, _, _, _, _, rfl, I.add hA (v := .num (0 - z / 7 % Lg)) rfl (by simp only [Ok]; exact hm2) (Nat.zero_le _) (wr_num_len hm2)⟩
    refine ⟨_, rfl, rfl, _, rfl, iteNE k1 ?_⟩
    by_cases k2 : z % 7 = 2
    · refine ⟨_, rfl, rfl, _, rfl, iteE k2 ?_⟩
      refine ⟨.ref R, rfl, 1, rfl, R, _, -1, _, rfl, rfl, hRl, hlast, .inl ⟨rfl, _, hAl⟩, _, rfl, .inl ⟨_, rfl, _, _, rfl, rfl, (by show (0 : Int) < 12; decide), A, xs, _, rfl, rfl, hA, hsz, ?_⟩⟩
      have hm : (z / 7 % 12).natAbs < 10 ^ 200 := Nat.lt_of_lt_of_le (show (z / 7 % 12).natAbs < 12 by omega) (by decide +kernel)
      exact ⟨_, _, _, _, _, _, rfl, I.add hA (v := .num (z / 7 % 12)) rfl (by simp only [Ok]; exact hm) (Nat.zero_le _) (wr_num_len hm)⟩
    refine ⟨_, rfl, rfl, _, rfl, iteNE k2 ?_⟩
    by_cases k3 : z % 7 = 3
    · refine ⟨_, rfl, rfl, _, rfl, iteE k3 ?_⟩
      refine ⟨.ref R, rfl, 1, rfl, R, _, -1, _, rfl, rfl, hRl, hlast, .inl ⟨rfl, _, hAl⟩, _, rfl, _, rfl, fun wd H2 hw sm => ⟨A, xs, _, rfl, rfl, sm _ _ hA, hsz, ?_⟩⟩
      exact ⟨_, _, _, _, _, _, rfl, (I.mono sm).add (sm _ _ hA) (v := .word wd) rfl hw (Nat.zero_le _) (wr_word_len hw)⟩
    refine ⟨_, rfl, rfl, _, rfl, iteNE k3 ?_⟩
    by_cases k4 : z % 7 = 4
    · refine ⟨_, rfl, rfl, _, rfl, iteE k4 ⟨_, rfl, R, _, rfl, .inl hRl, _, _, rfl, rfl, _, rfl, ?_⟩⟩
      rw [hlenR]
      by_cases h8 : st.length + 1 < 8
      · refine iteD (by omega) ⟨_, rfl, .inl ⟨rfl, _, hRl⟩, Nat.zero_le _, fun p hp => ⟨R, _, _, rfl, rfl, (upd_ne (ne_of_none hRr hp)).trans hRr, by rw [hlenR]; exact small200 (by omega), ?_⟩⟩
        have := I.open h8 hp
        rw [List.reverse_cons, List.map_append] at this
        exact ⟨_, _, _, _, _, _, rfl, this⟩
      · refine iteND (by omega) ?_
        refine ⟨_, rfl, rfl, _, rfl, iteNE (by omega) (iteF ?_)⟩
        refine ⟨.ref R, rfl, 1, rfl, R, _, -1, _, rfl, rfl, hRl, hlast, .inl ⟨rfl, _, hAl⟩, Nat.zero_le _, fun p hp => ⟨A, xs, _, rfl, rfl, (upd_ne (ne_of_none hA hp)).trans hA, hsz, ?_⟩⟩
        exact ⟨_, _, _, _, _, _, rfl, (I.mono (same_new hp _)).add ((upd_ne (ne_of_none hA hp)).trans hA) (v := .tup []) ⟨p, [], rfl, upd_same, rfl⟩ (by simp only [Ok, Oks]) (by simp only [dep, deps]; decide) (by rw [wr_tup_len]; decide)⟩
    by_cases k5 : z % 7 = 5
    · refine ⟨_, rfl, rfl, _, rfl, iteNE (by omega) (iteF ?_)⟩
      refine ⟨_, rfl, rfl, _, rfl, iteE k5 ⟨_, rfl, R, _, rfl, .inl hRl, _, _, rfl, rfl, _, rfl, ?_⟩⟩
      rw [hlenR]
      cases st with
      | nil =>
        refine iteND (by simp) ?_
        refine ⟨.ref R, rfl, 1, rfl, R, _, -1, _, rfl, rfl, hRl, hlast, .inl ⟨rfl, _, hAl⟩, Nat.zero_le _, fun p hp => ⟨A, xs, _, rfl, rfl, (upd_ne (ne_of_none hA hp)).trans hA, hsz, ?_⟩⟩
        exact ⟨_, _, _, _, _, _, rfl, (I.mono (same_new hp _)).add ((upd_ne (ne_of_none hA hp)).trans hA) (v := .tup []) ⟨p, [], rfl, upd_same, rfl⟩ (by simp only [Ok, Oks]) (by simp only [dep, deps]; decide) (by rw [wr_tup_len]; decide)⟩
      | cons q2 st =>
        refine iteD (by simp only [List.length_cons]; omega) ?_
        cases rs' with
        | nil => exact I.hp.stk.2.2.elim
        | cons B rs3 =>
          obtain ⟨⟨ys, hB, hyr⟩, _, _⟩ := I.hp.stk.2.2
          have hyl := hyr.len
          have r2 := I.hp.row q2 (List.mem_cons_of_mem _ List.mem_cons_self)
          have nRB : R ≠ B := fun z => I.hp.nR (by rw [z]; exact List.mem_cons_of_mem _ List.mem_cons_self)
          have nRA' : R ≠ A := fun z => I.hp.nR (by rw [z]; exact List.mem_cons_self)
          have hpop : (((B :: rs3).reverse ++ [A]).map V.ref)[(((B :: rs3).reverse ++ [A]).map V.ref).length - 1]? = some (V.ref A) := by
            rw [List.map_append, List.map_singleton, List.length_append, List.length_singleton, Nat.add_sub_cancel, List.getElem?_append_right (Nat.le_refl _), Nat.sub_self]
            rfl
          have hdl : (((B :: rs3).reverse ++ [A]).map V.ref).dropLast = (rs3.reverse ++ [B]).map V.ref := by
            rw [List.map_append, List.map_singleton, List.dropLast_concat, List.reverse_cons]
          refine ⟨_, rfl, .inl ⟨rfl, _, hRl⟩, R, _, _, rfl, rfl, hRr, hpop, ?_⟩
          rw [hdl]
          refine .inl ⟨A, xs, rfl, .inl (.inl ((upd_ne nRA'.symm).trans hA)), fun p hp => ?_⟩
          have hpR : p ≠ R := fun e => by rw [e, upd_same] at hp; cases hp
          have hpn : H' p = none := by rw [upd_ne hpR] at hp; exact hp
          have hpB : p ≠ B := fun e => by rw [e, hB] at hpn; cases hpn
          refine ⟨.ref R, rfl, 1, rfl, R, _, -1, _, rfl, rfl, .inl (.inl ((upd_ne hpR.symm).trans upd_same)), last_of rs3.reverse B, .inl ⟨rfl, _, .inl (.inl ((upd_ne hpB.symm).trans ((upd_ne nRB.symm).trans hB)))⟩, ?_⟩
          refine ⟨_, rfl, B, ys, _, rfl, rfl, (upd_ne hpB.symm).trans ((upd_ne nRB.symm).trans hB), small200 (by omega), ?_⟩
          exact ⟨_, _, _, _, _, _, rfl, I.shut hA hB hpn⟩
    refine ⟨_, rfl, rfl, _, rfl, iteNE k4 (iteF ?_)⟩
    refine ⟨_, rfl, rfl, _, rfl, iteNE k5 (iteF ?_)⟩
    refine ⟨.ref R, rfl, 1, rfl, R, _, -1, _, rfl, rfl, hRl, hlast, .inl ⟨rfl, _, hAl⟩, Nat.zero_le _, fun p hp => ⟨A, xs, _, rfl, rfl, (upd_ne (ne_of_none hA hp)).trans hA, hsz, ?_⟩⟩
    exact ⟨_, _, _, _, _, _, rfl, (I.mono (same_new hp _)).add ((upd_ne (ne_of_none hA hp)).trans hA) (v := .tup []) ⟨p, [], rfl, upd_same, rfl⟩ (by simp only [Ok, Oks]) (by simp only [dep, deps]; decide) (by rw [wr_tup_len]; decide)⟩
  · rintro σ H' ⟨st, rs, y3, y4, y5, y6, rfl, I⟩
    refine ⟨fun μ σ H' => ∃ (st : Stk) (rs : List Addr) (y6 : Option V) (i : Nat), σ = [some (.ref a), some (.ref R), some (.int Lg), y3, y4, y5, y6, none, none, none] ∧ SInv (upd H c (.lst cut)) H' R st rs i ∧ i + st.length ≤ 68 ∧ μ = st.length,
      ⟨_, st, rs, y6, _, rfl, I, by have := I.eight; omega, rfl⟩, ?_⟩
    clear I rs st y6
    rintro μ σ H' ⟨st, rs, y6, i, rfl, I, hi68, rfl⟩
    have hRr := I.hp.hR
    have hRl : SqL K H' R (rs.reverse.map V.ref) := .inl (.inl hRr)
    have hlenR : (rs.reverse.map V.ref).length = st.length := by
      have := I.hp.stk.len
      rw [List.length_map, List.length_reverse, this]
    refine ⟨_, rfl, R, _, rfl, .inl hRl, _, _, rfl, rfl, _, rfl, ?_⟩
    rw [hlenR]
    by_cases h1 : 1 < st.length
    · refine iteD (by omega) ⟨fun σ' H2 => ∃ (st' : Stk) (rs' : List Addr) (y6 : Option V) (i' : Nat), σ' = [some (.ref a), some (.ref R), some (.int Lg), y3, y4, y5, y6, none, none, none] ∧ SInv (upd H c (.lst cut)) H2 R st' rs' i' ∧ i' + st'.length ≤ 68 ∧ st'.length < st.length, ?_, ?_⟩
      · rintro σ' H2 ⟨st', rs', y, i', e, I', h68, hl⟩
        exact ⟨_, hl, st', rs', y, i', e, I', h68, rfl⟩
      · cases st with
        | nil => simp at h1
        | cons tp st =>
        cases st with
        | nil => simp at h1
        | cons q2 st =>
        obtain ⟨A, rs', xs, rfl, hA, hx, he⟩ := row_of I.hp
        cases rs' with
        | nil => exact I.hp.stk.2.2.elim
        | cons B rs3 =>
          obtain ⟨⟨ys, hB, hyr⟩, _, _⟩ := I.hp.stk.2.2
          have hyl := hyr.len
          have r2 := I.hp.row q2 (List.mem_cons_of_mem _ List.mem_cons_self)
          have nRB : R ≠ B := fun z => I.hp.nR (by rw [z]; exact List.mem_cons_of_mem _ List.mem_cons_self)
          have nRA' : R ≠ A := fun z => I.hp.nR (by rw [z]; exact List.mem_cons_self)
          have hpop : ((A :: B :: rs3).reverse.map V.ref)[((A :: B :: rs3).reverse.map V.ref).length - 1]? = some (V.ref A) := by
            rw [List.reverse_cons, List.map_append, List.map_singleton, List.length_append, List.length_singleton, Nat.add_sub_cancel, List.getElem?_append_right (Nat.le_refl _), Nat.sub_self]
            rfl
          have hdl : ((A :: B :: rs3).reverse.map V.ref).dropLast = (rs3.reverse ++ [B]).map V.ref := by
            rw [List.reverse_cons, List.map_append, List.map_singleton, List.dropLast_concat, List.reverse_cons]
          refine ⟨_, rfl, .inl ⟨rfl, _, hRl⟩, R, _, _, rfl, rfl, hRr, hpop, ?_⟩
          rw [hdl]
          refine .inl ⟨A, xs, rfl, .inl (.inl ((upd_ne nRA'.symm).trans hA)), fun p hp => ?_⟩
          have hpR : p ≠ R := fun e => by rw [e, upd_same] at hp; cases hp
          have hpn : H' p = none := by rw [upd_ne hpR] at hp; exact hp
          have hpB : p ≠ B := fun e => by rw [e, hB] at hpn; cases hpn
          refine ⟨.ref R, rfl, 1, rfl, R, _, -1, _, rfl, rfl, .inl (.inl ((upd_ne hpR.symm).trans upd_same)), last_of rs3.reverse B, .inl ⟨rfl, _, .inl (.inl ((upd_ne hpB.symm).trans ((upd_ne nRB.symm).trans hB)))⟩, ?_⟩
          refine ⟨_, rfl, B, ys, _, rfl, rfl, (upd_ne hpB.symm).trans ((upd_ne nRB.symm).trans hB), small200 (by simp only [List.length_cons] at hi68; omega), ?_⟩
          exact ⟨_, _, _, i + 1, rfl, I.shut hA hB hpn, by simp only [List.length_cons] at hi68 ⊢; omega, by simp⟩
    · refine iteND (by omega) ?_
      cases st with
      | nil => have := I.one; simp at this
      | cons row st =>
      cases st with
      | cons q2 st => simp only [List.length_cons] at h1; omega
      | nil =>
      obtain ⟨A, rs', xs, rfl, hA, hx, he⟩ := row_of I.hp
      obtain ⟨⟨xs', e', hr⟩, _, hst⟩ := I.hp.stk
      have ex : xs' = xs := by rw [hA] at e'; injection e' with e'; injection e' with e'; exact e'.symm
      subst ex
      have hrs1 : rs' = [] := by
        cases rs' with
        | nil => rfl
        | cons a b => exact hst.elim
      subst hrs1
      have hdep := I.dv.1
      have hok := I.dv.2.1
      have hw := I.w
      simp only [Wt, List.length_nil, List.length_cons] at hw hdep hi68
      have htw := tup_wts row
      refine ⟨.ref R, rfl, R, _, 0, .ref A, rfl, rfl, .inl (.inl hRr), atI_nat (j := 0) rfl, .inl ⟨A, xs', rfl, .inl (.inl hA), fun p hp => ?_⟩⟩
      have sm : Same H (upd H' p (.tup xs')) := (back I.hp.same).trans (same_new hp _)
      have hrr : Reps (upd H' p (.tup xs')) row xs' := Reps.mono (Tups.new hp) _ _ hr
      have hlr : xs'.length = row.length := hr.len
      refine ⟨_, rfl, a, ns, 0, rfl, sm.seq hS, ?_⟩
      generalize ns.getD 0 0 = z0
      refine ⟨fun σ H2 => ∃ (v : Val) (x : V), σ = [some (.ref a), some (.ref R), some (.int Lg), y3, y4, y5, y6, some x, some (.int z0), none] ∧ Rep H2 v x ∧ Ok v ∧ dep v ≤ 9 ∧ (wr v).length ≤ 15000 ∧ Same H H2, ?_, ?_⟩
      · refine ⟨_, rfl, p, xs', rfl, .inr (.inl (.inl upd_same)), _, _, rfl, rfl, _, rfl, ?_⟩
        have hbase : ∃ (v : Val) (x : V), [some (V.ref a), some (.ref R), some (.int Lg), y3, y4, y5, y6, some (.ref p), some (.int z0), none] = [some (.ref a), some (.ref R), some (.int Lg), y3, y4, y5, y6, some x, some (.int z0), none] ∧ Rep (upd H' p (.tup xs')) v x ∧ Ok v ∧ dep v ≤ 9 ∧ (wr v).length ≤ 15000 ∧ Same H (upd H' p (.tup xs')) :=
          ⟨.tup row, .ref p, rfl, ⟨p, xs', rfl, upd_same, hrr⟩, by simp only [Ok]; exact hok, by simp only [dep]; omega, by omega, sm⟩
        by_cases hl : 0 < xs'.length
        · refine iteD (by omega) ⟨_, rfl, .inl ⟨_, rfl, _, _, rfl, rfl, (by show (0 : Int) < 3; decide), rfl, _, rfl, ?_⟩⟩
          refine ite2 (fun cc => ?_) (fun cc => hbase)
          obtain ⟨j, hj, hjl⟩ : ∃ j : Nat, z0 / 3 % (xs'.length : Int) = (j : Int) ∧ j < xs'.length := by
            have h1 := Int.emod_nonneg (z0 / 3) (show (xs'.length : Int) ≠ 0 by omega)
            have h2 := Int.emod_lt_of_pos (z0 / 3) (show (0 : Int) < (xs'.length : Int) by omega)
            exact ⟨(z0 / 3 % (xs'.length : Int)).toNat, by omega, by omega⟩
          have hxj : xs'[j]? = some xs'[j] := List.getElem?_eq_getElem hjl
          obtain ⟨u, hu, hru⟩ := hrr.get hxj
          refine ⟨_, rfl, _, rfl, .inl ⟨_, rfl, _, _, rfl, rfl, ⟨by decide, by decide⟩, _, rfl, p, xs', rfl, .inr (.inl (.inl upd_same)), _, _, rfl, rfl, (by show (0 : Int) < (xs'.length : Int); omega), p, xs', _, _, rfl, rfl, .inl (.inl upd_same), at_of hj hxj, ?_⟩⟩
          exact ⟨u, _, rfl, hru, oks_get hok hu, by have := deps_get hu; omega, by have := wts_get hu; omega, sm⟩
        · exact iteND (by omega) (iteF hbase)
      · rintro σ H2 ⟨v, x, rfl, hrx, ho, hd9, hlv, s2⟩
        refine ⟨fun σ H3 => ∃ (v : Val) (x : V) (y9 : Option V), σ = [some (.ref a), some (.ref R), some (.int Lg), y3, y4, y5, y6, some x, some (.int z0), y9] ∧ Rep H3 v x ∧ Ok v ∧ dep v ≤ 100 ∧ (wr v).length ≤ 20000 ∧ Same H H3, ?_, ?_⟩
        · refine ⟨_, rfl, .inl ⟨_, rfl, _, _, rfl, rfl, ⟨by decide, by decide⟩, _, _, rfl, rfl, (by show (0 : Int) < 4; decide), rfl, _, rfl, ?_⟩⟩
          refine ite2 (fun cc => ?_) (fun cc => ⟨v, x, none, rfl, hrx, ho, by omega, by omega, s2⟩)
          have m92 : 0 ≤ z0 / 240 % 92 ∧ z0 / 240 % 92 < 92 := ⟨Int.emod_nonneg _ (by decide), Int.emod_lt_of_pos _ (by decide)⟩
          refine ⟨_, rfl, .inl ⟨_, rfl, _, _, rfl, rfl, ⟨by decide, by decide⟩, _, _, rfl, rfl, (by show (0 : Int) < 92; decide), z0 / 240 % 92, rfl, by omega, by omega, for_range (n := (z0 / 240 % 92).toNat) (fun i σ H3 => ∃ (v : Val) (x : V) (y9 : Option V), σ = [some (.ref a), some (.ref R), some (.int Lg), y3, y4, y5, y6, some x, some (.int z0), y9] ∧ Rep H3 v x ∧ Ok v ∧ dep v ≤ 9 + i ∧ (wr v).length ≤ 15000 + 2 * i ∧ Same H H3)
            ⟨v, x, none, rfl, hrx, ho, by omega, by omega, s2⟩ ?_ ?_⟩⟩
          · rintro i σ H3 hi ⟨v, x, y9, rfl, hrx, ho, hd, hl, s3⟩
            refine ⟨_, rfl, by show 1 ≤ sizeLine; decide, fun p2 hp2 => ?_⟩
            refine ⟨.tup [v], _, _, rfl, ⟨p2, [x], rfl, upd_same, ⟨x, [], rfl, Rep.mono (Tups.new hp2) _ _ hrx, rfl⟩⟩, by simp only [Ok, Oks]; exact ⟨ho, trivial⟩, by simp only [dep, deps]; omega, ?_, s3.trans (same_new hp2 _)⟩
            rw [wr_tup_len]
            simp only [wrl]
            show (wr v).length + 2 ≤ _
            omega
          · rintro σ H3 ⟨v, x, y9, rfl, hrx, ho, hd, hl, s3⟩
            exact ⟨v, x, y9, rfl, hrx, ho, by omega, by omega, s3⟩
        · rintro σ H3 ⟨v, x, y9, rfl, hrx, ho, hd, hl, s3⟩
          exact ⟨_, rfl, q v x H3 ho hd hl hrx s3⟩
end
end Kz
/-! KzDefs6 -/
set_option Elab.async false
set_option linter.all false
set_option maxRecDepth 100000
set_option maxHeartbeats 4000000
namespace Kz
open PySem PySem.Spec PyProof.Rows L2
open SX (S)
/-! ### _law_step(state, sign): slots state sign mode depth run -/
def mn : M → Str
  | .start => "start"
  | .first => "first"
  | .minus => "minus"
  | .zero => "zero"
  | .digits => "digits"
  | .word => "word"
  | .after => "after"
def stV (s : St) : HO := .tup [.str (mn s.1), .int ((s.2.1 : Nat) : Int), .int ((s.2.2 : Nat) : Int)]
def spStep : Sp := fun vs H Q _ => ∃ (a : Addr) (s : St) (c : Nat), vs = [.ref a, .str (S [c])] ∧ H a = some (stV s) ∧ (s.1 = .first → 1 ≤ s.2.1) ∧
  (stp s c = none → Q .non H) ∧ (∀ s', stp s c = some s' → ∀ p, H p = none → Q (.ref p) (upd H p (stV s')))
theorem scStep : FnScope ["_law_state", "_law_sign", "_law_mode", "_law_depth", "_law_run"] ["_law_state", "_law_sign"] (defScope sStep) := ⟨rfl, rfl, rfl, by decide +kernel, rfl, by decide +kernel, by decide +kernel⟩
theorem sgn {c n : Nat} {z : Str} (hz : z = S [n]) : V.str (S [c]) = V.str z ↔ c = n := by
  subst hz
  exact ⟨fun h => (List.cons.inj (SX.S_inj (V.str.inj h))).1, fun h => by rw [h]⟩
theorem lit_19 : (Str.ofString "123456789") = S [49, 50, 51, 52, 53, 54, 55, 56, 57] := by decide +kernel
theorem lit_09 : (Str.ofString "0123456789") = S digL := by decide +kernel
theorem in_19 {c : Nat} : c ∈ (Str.ofString "123456789").cps.toList ↔ (isD c = true ∧ c ≠ 48) := by
  rw [lit_19, tlS, isD_iff]
  simp only [List.mem_cons, List.not_mem_nil, or_false]
  omega
theorem in_09 {c : Nat} : c ∈ (Str.ofString "0123456789").cps.toList ↔ isD c = true := by
  rw [lit_09, tlS, ← digL_is, decide_eq_true_iff]
theorem in_az {c : Nat} : c ∈ (Str.ofString "abcdefghijklmnopqrstuvwxyz").cps.toList ↔ isL c = true := by
  rw [lit_letters, tlS, ← letL_is, decide_eq_true_iff]
theorem mn_iff {m m' : M} : V.str (mn m) = V.str (mn m') ↔ m = m' := by
  constructor
  · intro h
    cases m <;> cases m' <;> first | rfl | (exfalso; revert h; decide +kernel)
  · intro h
    rw [h]
/-- the slots behind the first three statements -/
def sg (a : Addr) (c : Nat) (m : M) (d r : Nat) : L2.St := [some (.ref a), some (.str (S [c])), some (.str (mn m)), some (.int ((d : Nat) : Int)), some (.int ((r : Nat) : Int))]
def Mid (σ0 : L2.St) (H : Hp) (p : Prop) : L2.St → Hp → Prop := fun σ H' => σ = σ0 ∧ H' = H ∧ p
section
variable {P : Program} {w : World} {K : PySem.W.Frag} {mg : Str → Option Value} {base : Heap} {f : Addr} {fd : FuncData} {C fI cc : Addr}
theorem ok_step {k : Nat} (F : Fun K "_law_step" "_law_step" sStep f fd) : FnOk P w K mg base CX0 (k + 1) f fd ["_law_state", "_law_sign"] spStep := by
  refine F.ok scStep (fun vs H Q E h => ?_) (fun cdv A outer s H vs Q E hr h => ?_)
  · obtain ⟨a, st, c, rfl, _⟩ := h
    rfl
  obtain ⟨a, ⟨m, d, r⟩, c, rfl, ha, hwf, qn, qs⟩ := h
  have nd := scStep.nd
  refine ⟨_, pss_cons (ps_set (i := 2) nd rfl (Or.inl rfl) (pe_ix ix_tup (pv 0) pe_int (fun _ _ => rfl)))
    (pss_cons (ps_set (i := 3) nd rfl (Or.inl rfl) (pe_ix ix_tup (pv 0) pe_int (fun _ _ => rfl)))
    (pss_cons (ps_set (i := 4) nd rfl (Or.inl rfl) (pe_ix ix_tup (pv 0) pe_int (fun _ _ => rfl)))
    (C8.pss_cut (ps_if (PW.pt (pw_or (pt_cmpR op_eq (pv 2) pe_str (nomark _)) (pw_or1 (pt_cmpR op_eq (pv 2) pe_str (nomark _)))))
      (C8.pss_cut (ps_if (PW.pt (pw_and (pt_cmpR op_eq (pv 1) pe_str (nomark _)) (pw_and1 (pt_cmpR op_lt (pv 3) pe_int (nomark _))))) (pss_one (ps_ret (pe_tup (pa_cons pe_str (pa_cons (pe_op op_add (pv 3) pe_int) (pa_cons pe_int pa_nil)))))) pss_nil)
      (C8.pss_cut (ps_if (PW.pt (pw_and (pt_cmpR op_eq (pv 1) pe_str (nomark _)) (pw_and1 (pt_cmpR op_eq (pv 2) pe_str (nomark _))))) (pss_one (ps_ret (pe_tup (pa_cons pe_str (pa_cons (pe_op op_sub (pv 3) pe_int) (pa_cons pe_int pa_nil)))))) pss_nil)
      (C8.pss_cut (ps_if (pt_cmpR op_eq (pv 1) pe_str (nomark _)) (pss_one (ps_ret (pe_tup (pa_cons pe_str (pa_cons (pv 3) (pa_cons pe_int pa_nil)))))) pss_nil)
      (C8.pss_cut (ps_if (pt_cmpR op_eq (pv 1) pe_str (nomark _)) (pss_one (ps_ret (pe_tup (pa_cons pe_str (pa_cons (pv 3) (pa_cons pe_int pa_nil)))))) pss_nil)
      (C8.pss_cut (ps_if (pt_cmpR op_in_sign (pv 1) pe_str (by with_unfolding_all rfl)) (pss_one (ps_ret (pe_tup (pa_cons pe_str (pa_cons (pv 3) (pa_cons pe_int pa_nil)))))) pss_nil)
      (C8.pss_cut (ps_if (pt_cmpR op_in_sign (pv 1) pe_str (by with_unfolding_all rfl)) (pss_one (ps_ret (pe_tup (pa_cons pe_str (pa_cons (pv 3) (pa_cons pe_int pa_nil)))))) pss_nil)
      (pss_one (ps_ret pe_non)))))))) pss_nil)
    (C8.pss_cut (ps_if (pt_cmpR op_eq (pv 2) pe_str (nomark _))
      (pss_one (ps_ret (pe_ifExp (pt_cmpR op_in_sign (pv 1) pe_str (by with_unfolding_all rfl)) (pe_tup (pa_cons pe_str (pa_cons (pv 3) (pa_cons pe_int pa_nil)))) pe_non))) pss_nil)
    (C8.pss_cut (ps_if (PW.pt (pw_and (pt_cmpR op_eq (pv 2) pe_str (nomark _)) (pw_and (pt_cmpR op_lt (pv 4) pe_int (nomark _)) (pw_and1 (pt_cmpR op_in_sign (pv 1) pe_str (by with_unfolding_all rfl))))))
      (pss_one (ps_ret (pe_tup (pa_cons pe_str (pa_cons (pv 3) (pa_cons (pe_op op_add (pv 4) pe_int) pa_nil)))))) pss_nil)
    (C8.pss_cut (ps_if (PW.pt (pw_and (pt_cmpR op_eq (pv 2) pe_str (nomark _)) (pw_and (pt_cmpR op_lt (pv 4) pe_int (nomark _)) (pw_and1 (pt_cmpR op_in_sign (pv 1) pe_str (by with_unfolding_all rfl))))))
      (pss_one (ps_ret (pe_tup (pa_cons pe_str (pa_cons (pv 3) (pa_cons (pe_op op_add (pv 4) pe_int) pa_nil)))))) pss_nil)
    (C8.pss_cut (ps_if (PW.pt (pw_and (pt_cmpR op_eq (pv 1) pe_str (nomark _)) (pw_and1 (pt_cmpR op_gt (pv 3) pe_int (nomark _))))) (pss_one (ps_ret (pe_tup (pa_cons pe_str (pa_cons (pv 3) (pa_cons pe_int pa_nil)))))) pss_nil)
    (C8.pss_cut (ps_if (PW.pt (pw_and (pt_cmpR op_eq (pv 1) pe_str (nomark _)) (pw_and1 (pt_cmpR op_gt (pv 3) pe_int (nomark _))))) (pss_one (ps_ret (pe_tup (pa_cons pe_str (pa_cons (pe_op op_sub (pv 3) pe_int) (pa_cons pe_int pa_nil)))))) pss_nil)
    (pss_one (ps_ret pe_non)))))))))), ?_⟩
  refine ⟨_, rfl, a, _, 0, _, rfl, rfl, .inl (.inl ha), atI_nat (j := 0) rfl, ?_⟩
  refine ⟨_, rfl, a, _, 1, _, rfl, rfl, .inl (.inl ha), atI_nat (j := 1) rfl, ?_⟩
  refine ⟨_, rfl, a, _, 2, _, rfl, rfl, .inl (.inl ha), atI_nat (j := 2) rfl, ?_⟩
  have tup : ∀ (m' : M) (d' r' : Nat), stp (m, d, r) c = some (m', d', r') → ∀ p, H p = none → Q (.ref p) (upd H p (.tup [.str (mn m'), .int ((d' : Nat) : Int), .int ((r' : Nat) : Int)])) := fun m' d' r' h p hp => qs (m', d', r') h p hp
  have s3 : ∀ x y z : V, [x, y, z].length ≤ sizeLine := fun _ _ _ => by show 3 ≤ sizeLine; decide
  refine ⟨Mid (sg a c m d r) H (m ≠ .start ∧ m ≠ .first), ?_, ?_⟩
  · -- start, first
    by_cases hms : m = .start ∨ m = .first
    rotate_left
    · refine ⟨_, rfl, rfl, _, rfl, iteND (fun z => hms (.inl (mn_iff (m' := .start).mp z))) ⟨_, rfl, rfl, _, rfl, iteND (fun z => hms (.inr (mn_iff (m' := .first).mp z))) ?_⟩⟩
      exact ⟨rfl, rfl, fun z => hms (.inl z), fun z => hms (.inr z)⟩
    have hop : ¬ (c = 41 ∧ m = .first) → stp (m, d, r) c = op d c := by
      intro hn
      rcases hms with rfl | rfl
      · rfl
      · exact if_neg (fun z => hn ⟨z, rfl⟩)
    have go_in : ∀ {X : Bool → Hp → Prop}, X true H → (fun b H1 => if b = true then X true H1 else (tTest (tOp rEq (tVar 2) (tC (.str "first")))) (sg a c m d r) H1 X) (decide (V.str (mn m) = V.str "start")) H := by
      intro X hX
      rcases hms with rfl | rfl
      · exact iteD rfl hX
      · refine iteND (fun z => by have := mn_iff (m := .first) (m' := .start).mp z; cases this) ⟨_, rfl, rfl, _, rfl, ?_⟩
        rw [decide_eq_true (show V.str (mn .first) = V.str (Str.ofString "first") from rfl)]
        exact hX
    refine ⟨_, rfl, rfl, _, rfl, go_in ?_⟩
    refine iteT ⟨Mid (sg a c m d r) H (¬ (c = 40 ∧ d < 100)), ?_, ?_⟩
    · by_cases c40 : c = 40
      · by_cases hd : d < 100
        · refine ⟨_, rfl, rfl, _, rfl, iteD ((sgn lit_paren).mpr c40) ⟨_, rfl, _, _, rfl, rfl, _, rfl, iteD (by show ((d : Nat) : Int) < 100; omega) ⟨_, rfl, _, _, rfl, rfl, s3 _ _ _, fun p hp => ?_⟩⟩⟩
          refine tup .first (d + 1) 0 ((hop (by omega)).trans ?_) p hp
          unfold op
          exact if_pos ⟨c40, hd⟩
        · exact ⟨_, rfl, rfl, _, rfl, iteD ((sgn lit_paren).mpr c40) ⟨_, rfl, _, _, rfl, rfl, _, rfl, iteND (by show ¬ ((d : Nat) : Int) < 100; omega) ⟨rfl, rfl, fun z => hd z.2⟩⟩⟩
      · exact ⟨_, rfl, rfl, _, rfl, iteND (fun z => c40 ((sgn lit_paren).mp z)) (iteF ⟨rfl, rfl, fun z => c40 z.1⟩)⟩
    rintro σ H' ⟨rfl, rfl, h40⟩
    refine ⟨Mid (sg a c m d r) H' (¬ (c = 41 ∧ m = .first)), ?_, ?_⟩
    · by_cases c41 : c = 41
      · by_cases hm : m = .first
        · refine ⟨_, rfl, rfl, _, rfl, iteD ((sgn lit_close).mpr c41) ⟨_, rfl, rfl, _, rfl, iteD (mn_iff (m' := .first).mpr hm) ⟨_, rfl, _, _, rfl, rfl, s3 _ _ _, fun p hp => ?_⟩⟩⟩
          have hd := hwf hm
          have e : ((d : Nat) : Int) - 1 = ((d - 1 : Nat) : Int) := by
            have hd' : 1 ≤ d := hd
            omega
          show Q (.ref p) (upd H' p (.tup [.str (mn .after), .int (((d : Nat) : Int) - 1), .int 0]))
          rw [e]
          refine tup .after (d - 1) 0 ?_ p hp
          subst hm
          exact if_pos c41
        · exact ⟨_, rfl, rfl, _, rfl, iteD ((sgn lit_close).mpr c41) ⟨_, rfl, rfl, _, rfl, iteND (fun z => hm (mn_iff (m' := .first).mp z)) ⟨rfl, rfl, fun z => hm z.2⟩⟩⟩
      · exact ⟨_, rfl, rfl, _, rfl, iteND (fun z => c41 ((sgn lit_close).mp z)) (iteF ⟨rfl, rfl, fun z => c41 z.1⟩)⟩
    rintro σ H' ⟨rfl, rfl, h41⟩
    have hop := hop h41
    refine ⟨Mid (sg a c m d r) H' (c ≠ 45), ?_, ?_⟩
    · by_cases c45 : c = 45
      · refine ⟨_, rfl, rfl, _, rfl, iteD ((sgn lit_minus).mpr c45) ⟨_, rfl, s3 _ _ _, fun p hp => ?_⟩⟩
        refine tup .minus d 0 (hop.trans ?_) p hp
        unfold op
        rw [if_neg h40, if_pos c45]
      · exact ⟨_, rfl, rfl, _, rfl, iteND (fun z => c45 ((sgn lit_minus).mp z)) ⟨rfl, rfl, c45⟩⟩
    rintro σ H' ⟨rfl, rfl, h45⟩
    refine ⟨Mid (sg a c m d r) H' (c ≠ 48), ?_, ?_⟩
    · by_cases c48 : c = 48
      · refine ⟨_, rfl, rfl, _, rfl, iteD ((sgn lit_zero).mpr c48) ⟨_, rfl, s3 _ _ _, fun p hp => ?_⟩⟩
        refine tup .zero d 0 (hop.trans ?_) p hp
        unfold op
        rw [if_neg h40, if_neg h45, if_pos c48]
      · exact ⟨_, rfl, rfl, _, rfl, iteND (fun z => c48 ((sgn lit_zero).mp z)) ⟨rfl, rfl, c48⟩⟩
    rintro σ H' ⟨rfl, rfl, h48⟩
    refine ⟨Mid (sg a c m d r) H' (¬ isD c = true), ?_, ?_⟩
    · by_cases hD : isD c = true
      · refine ⟨_, rfl, _, _, rfl, rfl, _, rfl, iteD (in_19.mpr ⟨hD, h48⟩) ⟨_, rfl, s3 _ _ _, fun p hp => ?_⟩⟩
        refine tup .digits d 1 (hop.trans ?_) p hp
        unfold op
        rw [if_neg h40, if_neg h45, if_neg h48, if_pos hD]
      · exact ⟨_, rfl, _, _, rfl, rfl, _, rfl, iteND (fun z => hD (in_19.mp z).1) ⟨rfl, rfl, hD⟩⟩
    rintro σ H' ⟨rfl, rfl, hD⟩
    refine ⟨Mid (sg a c m d r) H' (¬ isL c = true), ?_, ?_⟩
    · by_cases hL : isL c = true
      · refine ⟨_, rfl, _, _, rfl, rfl, _, rfl, iteD (in_az.mpr hL) ⟨_, rfl, s3 _ _ _, fun p hp => ?_⟩⟩
        refine tup .word d 1 (hop.trans ?_) p hp
        unfold op
        rw [if_neg h40, if_neg h45, if_neg h48, if_neg hD, if_pos hL]
      · exact ⟨_, rfl, _, _, rfl, rfl, _, rfl, iteND (fun z => hL (in_az.mp z)) ⟨rfl, rfl, hL⟩⟩
    rintro σ H' ⟨rfl, rfl, hL⟩
    refine qn (hop.trans ?_)
    unfold op
    rw [if_neg h40, if_neg h45, if_neg h48, if_neg hD, if_neg hL]
  rintro σ H' ⟨rfl, rfl, hns, hnf⟩
  refine ⟨Mid (sg a c m d r) H' (m ≠ .minus), ?_, ?_⟩
  · by_cases hm : m = .minus
    · subst hm
      refine ⟨_, rfl, rfl, _, rfl, iteD rfl ⟨_, rfl, _, _, rfl, rfl, _, rfl, ?_⟩⟩
      by_cases h19 : isD c = true ∧ c ≠ 48
      · exact iteD (in_19.mpr h19) ⟨_, rfl, s3 _ _ _, fun p hp => tup .digits d 1 (if_pos h19) p hp⟩
      · exact iteND (fun z => h19 (in_19.mp z)) (qn (if_neg h19))
    · exact ⟨_, rfl, rfl, _, rfl, iteND (fun z => hm (mn_iff (m' := .minus).mp z)) ⟨rfl, rfl, hm⟩⟩
  rintro σ H' ⟨rfl, rfl, hnm⟩
  refine ⟨Mid (sg a c m d r) H' (m = .word → ¬ (r < 20 ∧ isL c = true)), ?_, ?_⟩
  · by_cases hm : m = .word
    · subst hm
      by_cases hr : r < 20
      · by_cases hL : isL c = true
        · refine ⟨_, rfl, rfl, _, rfl, iteD rfl ⟨_, rfl, _, _, rfl, rfl, _, rfl, iteD (by omega) ⟨_, rfl, _, _, rfl, rfl, _, rfl, iteD (in_az.mpr hL) ⟨_, rfl, _, rfl, _, _, rfl, rfl, s3 _ _ _, fun p hp => ?_⟩⟩⟩⟩
          exact tup .word d (r + 1) (if_pos ⟨hr, hL⟩) p hp
        · exact ⟨_, rfl, rfl, _, rfl, iteD rfl ⟨_, rfl, _, _, rfl, rfl, _, rfl, iteD (by omega) ⟨_, rfl, _, _, rfl, rfl, _, rfl, iteND (fun z => hL (in_az.mp z)) ⟨rfl, rfl, fun _ z => hL z.2⟩⟩⟩⟩
      · exact ⟨_, rfl, rfl, _, rfl, iteD rfl ⟨_, rfl, _, _, rfl, rfl, _, rfl, iteND (by omega) (iteF ⟨rfl, rfl, fun _ z => hr z.1⟩)⟩⟩
    · exact ⟨_, rfl, rfl, _, rfl, iteND (fun z => hm (mn_iff (m' := .word).mp z)) (iteF ⟨rfl, rfl, fun z => absurd z hm⟩)⟩
  rintro σ H' ⟨rfl, rfl, hw⟩
  refine ⟨Mid (sg a c m d r) H' (m = .digits → ¬ (r < 200 ∧ isD c = true)), ?_, ?_⟩
  · by_cases hm : m = .digits
    · subst hm
      by_cases hr : r < 200
      · by_cases hL : isD c = true
        · refine ⟨_, rfl, rfl, _, rfl, iteD rfl ⟨_, rfl, _, _, rfl, rfl, _, rfl, iteD (by omega) ⟨_, rfl, _, _, rfl, rfl, _, rfl, iteD (in_09.mpr hL) ⟨_, rfl, _, rfl, _, _, rfl, rfl, s3 _ _ _, fun p hp => ?_⟩⟩⟩⟩
          exact tup .digits d (r + 1) (if_pos ⟨hr, hL⟩) p hp
        · exact ⟨_, rfl, rfl, _, rfl, iteD rfl ⟨_, rfl, _, _, rfl, rfl, _, rfl, iteD (by omega) ⟨_, rfl, _, _, rfl, rfl, _, rfl, iteND (fun z => hL (in_09.mp z)) ⟨rfl, rfl, fun _ z => hL z.2⟩⟩⟩⟩
      · exact ⟨_, rfl, rfl, _, rfl, iteD rfl ⟨_, rfl, _, _, rfl, rfl, _, rfl, iteND (by omega) (iteF ⟨rfl, rfl, fun _ z => hr z.1⟩)⟩⟩
    · exact ⟨_, rfl, rfl, _, rfl, iteND (fun z => hm (mn_iff (m' := .digits).mp z)) (iteF ⟨rfl, rfl, fun z => absurd z hm⟩)⟩
  rintro σ H' ⟨rfl, rfl, hdg⟩
  have htl : stp (m, d, r) c = tl1 d c := by
    cases m with
    | start => exact absurd rfl hns
    | first => exact absurd rfl hnf
    | minus => exact absurd rfl hnm
    | zero => rfl
    | after => rfl
    | word => exact if_neg (hw rfl)
    | digits => exact if_neg (hdg rfl)
  refine ⟨Mid (sg a c m d r) H' (¬ (c = 32 ∧ 0 < d)), ?_, ?_⟩
  · by_cases c32 : c = 32
    · by_cases hd : 0 < d
      · refine ⟨_, rfl, rfl, _, rfl, iteD ((sgn lit_space).mpr c32) ⟨_, rfl, _, _, rfl, rfl, _, rfl, iteD (by omega) ⟨_, rfl, s3 _ _ _, fun p hp => ?_⟩⟩⟩
        refine tup .start d 0 (htl.trans ?_) p hp
        exact if_pos ⟨c32, hd⟩
      · exact ⟨_, rfl, rfl, _, rfl, iteD ((sgn lit_space).mpr c32) ⟨_, rfl, _, _, rfl, rfl, _, rfl, iteND (by omega) ⟨rfl, rfl, fun z => hd z.2⟩⟩⟩
    · exact ⟨_, rfl, rfl, _, rfl, iteND (fun z => c32 ((sgn lit_space).mp z)) (iteF ⟨rfl, rfl, fun z => c32 z.1⟩)⟩
  rintro σ H' ⟨rfl, rfl, h32⟩
  refine ⟨Mid (sg a c m d r) H' (¬ (c = 41 ∧ 0 < d)), ?_, ?_⟩
  · by_cases c41 : c = 41
    · by_cases hd : 0 < d
      · refine ⟨_, rfl, rfl, _, rfl, iteD ((sgn lit_close).mpr c41) ⟨_, rfl, _, _, rfl, rfl, _, rfl, iteD (by omega) ⟨_, rfl, _, _, rfl, rfl, s3 _ _ _, fun p hp => ?_⟩⟩⟩
        have e : ((d : Nat) : Int) - 1 = ((d - 1 : Nat) : Int) := by omega
        show Q (.ref p) (upd H' p (.tup [.str (mn .after), .int (((d : Nat) : Int) - 1), .int 0]))
        rw [e]
        refine tup .after (d - 1) 0 (htl.trans ?_) p hp
        unfold tl1
        rw [if_neg h32, if_pos ⟨c41, hd⟩]
      · exact ⟨_, rfl, rfl, _, rfl, iteD ((sgn lit_close).mpr c41) ⟨_, rfl, _, _, rfl, rfl, _, rfl, iteND (by omega) ⟨rfl, rfl, fun z => hd z.2⟩⟩⟩
    · exact ⟨_, rfl, rfl, _, rfl, iteND (fun z => c41 ((sgn lit_close).mp z)) (iteF ⟨rfl, rfl, fun z => c41 z.1⟩)⟩
  rintro σ H' ⟨rfl, rfl, h41⟩
  refine qn (htl.trans ?_)
  unfold tl1
  rw [if_neg h32, if_neg h41]
end
/-! ### _law_due(text): slots text state at -/
def spDue : Sp := fun vs H Q _ => ∃ (t : List Nat), vs = [.str (S t)] ∧ t.length ≤ 100000 ∧ (due t = none → ∀ H', Same H H' → Q .non H') ∧ (∀ e, due t = some e → ∀ H', Same H H' → Q (.int ((t.length - e : Nat) : Int)) H')
theorem scDue : FnScope ["_law_text", "_law_state", "_law_at"] ["_law_text"] (defScope sDue) := ⟨rfl, rfl, rfl, by decide +kernel, rfl, by decide +kernel, by decide +kernel⟩
theorem op_wf {d c : Nat} {s' : St} (h : op d c = some s') : s'.1 = .first → 1 ≤ s'.2.1 := by
  unfold op at h
  intro hf
  split at h
  · have := Option.some.inj h; subst this; exact Nat.succ_le_succ (Nat.zero_le _)
  · split at h
    · have := Option.some.inj h; subst this; cases hf
    · split at h
      · have := Option.some.inj h; subst this; cases hf
      · split at h
        · have := Option.some.inj h; subst this; cases hf
        · split at h
          · have := Option.some.inj h; subst this; cases hf
          · cases h
theorem tl1_wf {d c : Nat} {s' : St} (h : tl1 d c = some s') : s'.1 = .first → 1 ≤ s'.2.1 := by
  unfold tl1 at h
  intro hf
  split at h
  · have := Option.some.inj h; subst this; cases hf
  · split at h
    · have := Option.some.inj h; subst this; cases hf
    · cases h
theorem stp_wf {s s' : St} {c : Nat} (h : stp s c = some s') : s'.1 = .first → 1 ≤ s'.2.1 := by
  obtain ⟨m, d, r⟩ := s
  cases m with
  | start => exact op_wf h
  | first =>
    have h' : (if c = 41 then some (M.after, d - 1, 0) else op d c) = some s' := h
    split at h'
    · have := Option.some.inj h'; subst this; intro z; cases z
    · exact op_wf h'
  | minus =>
    have h' : (if isD c = true ∧ c ≠ 48 then some (M.digits, d, 1) else none) = some s' := h
    split at h'
    · have := Option.some.inj h'; subst this; intro z; cases z
    · cases h'
  | zero => exact tl1_wf h
  | after => exact tl1_wf h
  | word =>
    have h' : (if r < 20 ∧ isL c = true then some (M.word, d, r + 1) else tl1 d c) = some s' := h
    split at h'
    · have := Option.some.inj h'; subst this; intro z; cases z
    · exact tl1_wf h'
  | digits =>
    have h' : (if r < 200 ∧ isD c = true then some (M.digits, d, r + 1) else tl1 d c) = some s' := h
    split at h'
    · have := Option.some.inj h'; subst this; intro z; cases z
    · exact tl1_wf h'
theorem acc_in (m : M) : inV (.str (mn m)) [.str "word", .str "digits", .str "zero", .str "after"] = acc m := by
  cases m <;> decide +kernel
section
variable {P : Program} {w : World} {K : PySem.W.Frag} {mg : Str → Option Value} {base : Heap} {f : Addr} {fd : FuncData} {C fI cc : Addr}
theorem ok_due {fS : Addr} {fdS : FuncData} (T : Txt P K mg C fI cc) (F : Fun K "_law_due" "_law_due" sDue f fd) (FS : Fun K "_law_step" "_law_step" sStep fS fdS) (bS : Binds K fdS ["_law_state", "_law_sign"] []) (mS : mg "_law_step" = some (.ref fS)) :
    FnOk P w K mg base CX0 2 f fd ["_law_text"] spDue := by
  refine F.ok scDue (fun vs H Q E h => ?_) (fun cdv A outer s H vs Q E hr h => ?_)
  · obtain ⟨t, rfl, _⟩ := h
    rfl
  obtain ⟨t, rfl, ht, qn, qs⟩ := h
  have nd := scDue.nd
  have GS : FnOk P w K mg base CX0 1 fS fdS ["_law_state", "_law_sign"] spStep := ok_step FS
  refine ⟨_, pss_cons (ps_set (i := 1) nd rfl (Or.inl rfl) (pe_tup (pa_cons pe_str (pa_cons pe_int (pa_cons pe_int pa_nil)))))
    (pss_cons (ps_for PassesOwn.never rfl (pi_range1 rfl T.mran (pa_cons (pe_callB call_len_str rfl T.mlen PySem.boot_len (pa_cons (pv 0) pa_nil)) pa_nil)) (pg_name (i := 2) nd rfl (Or.inl rfl))
      (pss_cons (ps_set (i := 1) nd rfl (Or.inl rfl) (pe_call GS hr rfl mS FS.kp bS .nil pass0 (pa_cons (pv 1) (pa_cons (pe_ix ix_str (pv 0) (pv 2) (fun _ _ => rfl)) pa_nil))))
      (pss_one (ps_if (pt_cmp (pc_isN (pv 1))) (pss_one (ps_ret (pv 2))) pss_nil))))
    (pss_cons (ps_if (PW.pt (pw_and (pt_cmpR op_eq (pe_ix ix_tup (pv 1) pe_int (fun _ _ => rfl)) pe_int (nomark _)) (pw_and1 (pt_cmpR op_in_seq (pe_ix ix_tup (pv 1) pe_int (fun _ _ => rfl)) (pe_tup (pa_cons pe_str (pa_cons pe_str (pa_cons pe_str (pa_cons pe_str pa_nil))))) (by with_unfolding_all rfl)))))
      (pss_one (ps_ret pe_non)) pss_nil)
    (pss_one (ps_ret (pe_callB call_len_str rfl T.mlen PySem.boot_len (pa_cons (pv 0) pa_nil)))))), ?_⟩
  refine ⟨by show 3 ≤ sizeLine; decide, fun a0 ha0 => ?_⟩
  refine ⟨_, rfl, _, rfl, S_line ht, (t.length : Int), by rw [SX.S_len], by omega, by omega, for_range (n := t.length) (fun i σ H' => ∃ (a : Addr) (s : St) (y : Option V), σ = [some (.str (S t)), some (.ref a), y] ∧ H' a = some (stV s) ∧ (s.1 = .first → 1 ≤ s.2.1) ∧ due t = go s (t.drop i) ∧ Same H H')
    ⟨a0, (.start, 0, 0), none, rfl, upd_same, (by intro z; cases z), rfl, same_new ha0 _⟩ ?_ ?_⟩
  · rintro i σ H' hi ⟨a, s, y, rfl, ha, hwf, hd, sm⟩
    have hc : t[i]? = some t[i] := List.getElem?_eq_getElem hi
    have hdr : t.drop i = t[i] :: t.drop (i + 1) := List.drop_eq_getElem_cons hi
    generalize t[i] = c at hc hdr
    refine ⟨_, rfl, _, rfl, _, rfl, _, _, _, rfl, rfl, S_line ht, (by rw [Int.zero_add]; exact atI_nat hc), ?_⟩
    refine ⟨a, s, c, rfl, ha, hwf, fun hn => ?_, fun s' hs p hp => ?_⟩
    · refine ⟨_, rfl, _, rfl, iteT ⟨_, rfl, ?_⟩⟩
      rw [hdr, go_none hn] at hd
      have := qs _ hd H' sm
      have hl : (t.drop (i + 1)).length = t.length - (i + 1) := List.length_drop
      rw [hl, show t.length - (t.length - (i + 1) + 1) = i by omega] at this
      rw [Int.zero_add]
      exact this
    · refine ⟨_, rfl, _, rfl, iteF ?_⟩
      rw [hdr, go_some hs] at hd
      exact ⟨p, s', _, rfl, upd_same, stp_wf hs, hd, sm.trans (same_new hp _)⟩
  · rintro σ H' ⟨a, ⟨m, d, r⟩, y, rfl, ha, hwf, hd, sm⟩
    rw [List.drop_length] at hd
    refine ⟨_, rfl, a, _, 1, _, rfl, rfl, .inl (.inl ha), atI_nat (j := 1) rfl, rfl, _, rfl, ?_⟩
    have fin : ∀ H2, Same H H2 → ¬ (d = 0 ∧ acc m = true) → Q (.int (((S t).length : Nat) : Int)) H2 := by
      intro H2 s2 hn
      have hd2 : due t = some 0 := hd.trans (if_neg hn)
      have := qs 0 hd2 H2 s2
      rw [SX.S_len]
      exact this
    by_cases h0 : d = 0
    · refine iteD (by rw [h0]; rfl) ⟨_, rfl, a, _, 0, _, rfl, rfl, .inl (.inl ha), atI_nat (j := 0) rfl, by show 4 ≤ sizeLine; decide, fun p hp => ?_⟩
      have s2 : Same H (upd H' p (.tup [.str "word", .str "digits", .str "zero", .str "after"])) := sm.trans (same_new hp _)
      refine ⟨p, _, rfl, .inr (.inl (.inl upd_same)), rfl, rfl, _, rfl, ?_⟩
      have e : inV (.str (mn m)) [.str "word", .str "digits", .str "zero", .str "after"] = acc m := acc_in m
      show if inV (.str (mn m)) [.str "word", .str "digits", .str "zero", .str "after"] = true then _ else _
      rw [e]
      cases hm : acc m with
      | true =>
        refine iteT ?_
        have hd2 : due t = none := hd.trans (if_pos ⟨h0, hm⟩)
        exact qn hd2 _ s2
      | false =>
        refine iteF ⟨_, rfl, _, rfl, S_line ht, ?_⟩
        exact fin _ s2 (fun z => by rw [hm] at z; cases z.2)
    · refine iteND (fun z => h0 (by have := V.int.inj z; exact Int.ofNat.inj this)) (iteF ⟨_, rfl, _, rfl, S_line ht, ?_⟩)
      exact fin _ sm (fun z => h0 z.1)
end
end Kz
/-! KzTry -/
set_option Elab.async false
set_option linter.all false
set_option maxRecDepth 100000
set_option maxHeartbeats 4000000
/-! try: body; except X1: suite; except X2 as n: suite -/
namespace L2
open PySem PySem.Spec PyProof.Rows
/-- what the two clauses wish of an exception of the body -/
def wTwo (K : PySem.W.Frag) (c1 c2 : Value) (i : Nat) (t1 t2 : Addr → Value → Option Addr → TS) (Wout : WX) (D : Ends) : WX := fun cls d σ H =>
  ∃ k, PySem.W.exmOne K cls c1 = some k ∧ (k = true → ∀ a, H a = none → t1 a cls d D σ H) ∧ (k = false → wAs K c2 i t2 Wout D cls d σ H)
section
variable {X : Cx} {x1 x2 n : Str} {c1 c2 : Value} {i : Nat} {body su1 su2 : List Stmt} {b1 b2 : Stmt} {p1 p2 q1 q2 pos : Pos} {tb : WX → TS} {t1 t2 : Addr → Value → Option Addr → TS} {Wout : WX}
theorem ps_try_two (hs : X.stack = X.env :: X.outer) (hf : X.env.frame = some X.env.locals) (hN : X.N.Nodup) (hi : X.N[i]? = some n) (hln : X.env.kindOf n = some .local) (hc1 : Names X x1 c1) (hc2 : Names X x2 c2) (tk : Takes X Wout)
    (hb : ∀ (W : WX) (pn : List (Addr × Obj)) (xe : Value → Shared → Prop), Takes (X.tr pn xe) W → PassesOwn (model X.prog X.w) X.A X.env xe → PSs (X.tr pn xe) body (tb W))
    (h1 : ∀ (a : Addr) (oe : Obj) (cls : Value) (d : Option Addr) (pn : List (Addr × Obj)), Zc cls d oe → (∃ vs, oe.data = .fields vs) → PSs (X.suite a ((a, oe) :: pn)) (b1 :: su1) (t1 a cls d))
    (h2 : ∀ (a : Addr) (oe : Obj) (cls : Value) (d : Option Addr) (pn : List (Addr × Obj)), Zc cls d oe → (∃ vs, oe.data = .fields vs) → PSs (X.suite a ((a, oe) :: pn)) (b2 :: su2) (t2 a cls d)) :
    PS X (.Try body [.ExceptHandler (some (.Name x1 p1)) none (b1 :: su1) q1, .ExceptHandler (some (.Name x2 p2)) (some n) (b2 :: su2) q2] [] [] pos) (fun D σ H => tb (wTwo X.K c1 c2 i t1 t2 Wout D) D σ H) := by
  refine ⟨fun pins s σ H D I h => ?_⟩
  have okX := I.ok
  have frX : X.A.frames = some (X.env :: X.outer) := okX.frames.trans (congrArg some hs)
  have locN : Loc X.env.scope n := .inl hln
  refine wpAny_Try_except ?_
  refine wpAny_mono ((hb (wTwo X.K c1 c2 i t1 t2 Wout D) (X.pn ++ pins)
    (fun e s₁ => wpAny (model X.prog X.w) X.A (noteFrame e X.env)
      (fun _ s₂ => wpAny (model X.prog X.w) X.A (setFlight e none)
        (fun _ s₃ => wpAny (model X.prog X.w) X.A (handleBy e X.env [.ExceptHandler (some (.Name x1 p1)) none (b1 :: su1) q1, .ExceptHandler (some (.Name x2 p2)) (some n) (b2 :: su2) q2]) (SP X pins D) X.xe s₃) X.xe s₂) X.xe s₁)
    (fun u s' xx => ?caught) PassesOwn.looking).run [] s σ H D (I.toTry _) h) (fun f s1 hsp => ?through) (fun e s1 he => he)
  case caught =>
    obtain ⟨a, B, sI, pins', σ', H', cls, d, rfl, J0, nb, up, sky, na, os, ag, k, hk1, hyes, hno⟩ := xx
    have J : Inv X pins σ' H' sI := J0.ofTry okX
    have sky1 : Sky B (X.env :: X.outer) a (Zc cls d) X.env.locals s'.heap := hs ▸ sky
    show wpAny (model X.prog X.w) X.A (noteFrame (.ref a) X.env) _ _ _
    refine Sky.land Zc.steady frX hf sky1 fun g3 fl3 up3 => ?_
    have J3 : Inv X pins σ' H' { s' with heap := g3 } :=
      J.landed nb fl3.1 (up.trans up3) os ag
    obtain ⟨o3, v3, at3, z3, dat3⟩ := fl3.there
    have apart : a ∉ frs (X.env :: X.outer) := fun hm => by
      obtain ⟨_, o', e', nf⟩ := fl3.2.2.1.mem hm
      rw [at3] at e'
      cases e'
      exact nf _ dat3
    have nLoc : a ≠ X.env.locals := fun z =>
      apart (List.mem_filterMap.mpr ⟨X.env, List.mem_cons_self, by rw [hf, z]⟩)
    have nOut : a ∉ X.fs := fun hm => by
      obtain ⟨e, he, hq⟩ := List.mem_filterMap.mp hm
      exact apart (List.mem_filterMap.mpr ⟨e, List.mem_cons_of_mem _ he, hq⟩)
    have S3 := J3.suite at3 dat3 na nLoc nOut
    have tyL : PySem.W.Looks (model X.prog X.w) g3 (typeOf (.ref a)) cls := fun A Q E s k q =>
      wpAny_typeOf_ref (k _ _ at3) (by rw [z3.1]; exact q)
    have look : ∀ {x : Str} {c : Value} {np : Pos} {Q : Value → Shared → Prop} {E : Value → Shared → Prop}, Names X x c → Q c { s' with heap := g3 } →
        wpAny (model X.prog X.w) (X.A.mark (some (.ref a))) (eval (.Name x np) X.env) Q E { s' with heap := g3 } := fun {x c np Q E} hc q => by
      obtain ⟨hg, hdb, hm | ⟨hm, hv, hnn⟩⟩ := hc
      · exact ld_glob (X := X.suite a ((a, o3) :: (X.pn ++ pins))) S3 hg hm q hdb
      · exact ld_blt (X := X.suite a ((a, o3) :: (X.pn ++ pins))) S3 hg hm hv q hnn hdb
    refine wpAny_handleBy_cons (codeAny_handlers_test (look hc1 ((PySem.W.exm_one (M := model X.prog X.w) J3.kIn tyL hk1).here ?_))) (by intro q; cases q)
    cases k with
    | true =>
      refine codeAny_handlers_suite (HandSPX.lands_againZ fl3 fun g4 fl4 up4 => ?_)
      have J4 : Inv X pins σ' H' { s' with heap := g4 } :=
        J.landed nb fl4.1 ((up.trans up3).trans up4) os ag
      obtain ⟨o4, v4, at4, z4, dat4⟩ := fl4.there
      refine wpAny_mono ((h1 a o4 cls d (X.pn ++ pins) z4 ⟨_, dat4⟩).run [] _ _ H' _ (J4.suite at4 dat4 na nLoc nOut) (hyes rfl a na)) (fun f s6 out => ?_) (fun _ _ z => False.elim z)
      cases f with
      | ret u =>
        obtain ⟨v6, σ6, H6, S6, r6, q6⟩ := out
        exact ⟨_, _, _, S6.unsuite okX, r6, q6⟩
      | next => exact let ⟨σ6, H6, S6, q6⟩ := out; ⟨_, _, S6.unsuite okX, q6⟩
      | brk => exact let ⟨σ6, H6, S6, q6⟩ := out; ⟨_, _, S6.unsuite okX, q6⟩
      | cont => exact let ⟨σ6, H6, S6, q6⟩ := out; ⟨_, _, S6.unsuite okX, q6⟩
    | false =>
      obtain ⟨k2, hk2, hyes2, hno2⟩ := hno rfl
      show wpAny _ X.A (handleBy (.ref a) X.env [.ExceptHandler (some (.Name x2 p2)) (some n) (b2 :: su2) q2]) _ _ _
      refine wpAny_handleBy_cons (codeAny_handlers_test (look hc2 ((PySem.W.exm_one (M := model X.prog X.w) J3.kIn tyL hk2).here ?_))) (by intro q; cases q)
      cases k2 with
      | true =>
        refine codeAny_handlers_suite_as (HandSPX.lands_againZ fl3 fun g4 fl4 up4 => ?_)
        have J4 : Inv X pins σ' H' { s' with heap := g4 } :=
          J.landed nb fl4.1 ((up.trans up3).trans up4) os ag
        obtain ⟨o4, v4, at4, z4, dat4⟩ := fl4.there
        refine store_ok (X := X.suite a ((a, o4) :: (X.pn ++ pins))) (v := .ref a) (J4.suite at4 dat4 na nLoc nOut) hN hi locN rfl (fun s5 S5 => ?_) (.inr hln)
        refine wpAny_mono ((h2 a o4 cls d (X.pn ++ pins) z4 ⟨_, dat4⟩).run [] s5 _ H' _ S5 (hyes2 rfl a na)) (fun f s6 out => ?_) (fun _ _ z => False.elim z)
        have shut : ∀ {σ6 : St} {H6 : Hp} {Q : Shared → Prop}, Inv (X.suite a ((a, o4) :: (X.pn ++ pins))) [] σ6 H6 s6 → (∀ s7, Inv X pins (σ6.set i none) H6 s7 → Q s7) →
            wpAny (model X.prog X.w) X.A (do bindName X.env n .none; unbindBehindTheSuite X.env n q2) (fun _ s7 => Q s7) X.xe s6 :=
          fun S6 hq => gone_ok (S6.unsuite okX) hN hi hln hq
        cases f with
        | ret u =>
          obtain ⟨v6, σ6, H6, S6, r6, q6⟩ := out
          exact shut S6 fun s7 J7 => ⟨_, _, _, J7, r6, q6⟩
        | next => exact let ⟨σ6, H6, S6, q6⟩ := out; shut S6 fun s7 J7 => ⟨_, _, J7, q6⟩
        | brk => exact let ⟨σ6, H6, S6, q6⟩ := out; shut S6 fun s7 J7 => ⟨_, _, J7, q6⟩
        | cont => exact let ⟨σ6, H6, S6, q6⟩ := out; shut S6 fun s7 J7 => ⟨_, _, J7, q6⟩
      | false =>
        show wpAny _ X.A (handleBy (.ref a) X.env []) _ _ _
        refine wpAny_handleBy_nil ?_
        obtain ⟨e1, e2, e3, oe, vs, Tb, oT, ts', he, hz, hd, hv1, hr⟩ := id fl3
        unfold PySem.passOn
        refine wpAny_bind (wpAny_field he hd hv1 ?_)
        rw [if_neg (fun z => by simp at z)]
        have last : wpAny (model X.prog X.w) X.A (setFlight (.ref a) X.env.frame)
            (fun _ s4 => wpAny (model X.prog X.w) X.A (throw (.ref a) : Sem Flow) (SP X pins D) X.xe s4) X.xe { s' with heap := g3 } := by
          rw [hf]
          refine HandSPX.setFlight_upZ fl3 fun g4 hh4 up4 => wpAny_throw (tk _ _ ?_)
          exact ⟨a, B, sI, pins, σ', H', cls, d, rfl, J, nb, (up.trans up3).trans up4,
            .inr (.inr (by rw [hs]; exact hh4)), na, os, ag, hno2 rfl⟩
        first
          | exact wpAny_bind (wpAny_pure (wpAny_bind last))
          | exact wpAny_bind last
  case through =>
    cases f with
    | ret u =>
      obtain ⟨v, σ', H', J', r, q⟩ := hsp
      exact ⟨v, σ', H', J'.ofTry okX, r, q⟩
    | next => exact let ⟨σ', H', J', q⟩ := hsp; wpAny_execs_nil ⟨σ', H', J'.ofTry okX, q⟩
    | brk => exact let ⟨σ', H', J', q⟩ := hsp; ⟨σ', H', J'.ofTry okX, q⟩
    | cont => exact let ⟨σ', H', J', q⟩ := hsp; ⟨σ', H', J'.ofTry okX, q⟩
end
end L2
/-! KzDefs7 -/
set_option Elab.async false
set_option linter.all false
set_option maxRecDepth 100000
set_option maxHeartbeats 4000000
namespace Kz
open PySem PySem.Spec PyProof.Rows L2
open SX (S)
/-! ### _law_spoilt(text, cell): slots text cell signs way place sign -/
def spSpoilt : Sp := fun vs H Q _ => ∃ (t : List Nat) (z : Int), vs = [.str (S t), .int z] ∧ t.length ≤ 50000 ∧ ∀ u : List Nat, u.length ≤ t.length + 1 → Q (.str (S u)) H
theorem scSpoilt : FnScope ["_law_text", "_law_cell_here", "_law_signs", "_law_way", "_law_place", "_law_sign"] ["_law_text", "_law_cell_here"] (defScope sSpoilt) := ⟨rfl, rfl, rfl, by decide +kernel, rfl, by decide +kernel, by decide +kernel⟩
def sgL : List Nat := [40, 41, 32, 45, 48, 49, 55, 57, 97, 122, 65, 43, 44, 10]
theorem lit_signs : (Str.ofString "() -0179azA+,\n") = S sgL := by decide +kernel
theorem cat_len {a b : List Nat} (h : a.length + b.length ≤ 100001) : (S a).length + (S b).length ≤ sizeLine := by
  rw [SX.S_len, SX.S_len]
  exact Nat.le_trans h (by decide)
section
variable {P : Program} {w : World} {K : PySem.W.Frag} {mg : Str → Option Value} {base : Heap} {f : Addr} {fd : FuncData} {C fI cc : Addr}
theorem ok_spoilt {k : Nat} (T : Txt P K mg C fI cc) (F : Fun K "_law_spoilt" "_law_spoilt" sSpoilt f fd) : FnOk P w K mg base CX0 (k + 1) f fd ["_law_text", "_law_cell_here"] spSpoilt := by
  refine F.ok scSpoilt (fun vs H Q E h => ?_) (fun cdv A outer s H vs Q E hr h => ?_)
  · obtain ⟨t, z, rfl, _⟩ := h
    rfl
  obtain ⟨t, z, rfl, ht, q⟩ := h
  have nd := scSpoilt.nd
  refine ⟨_, pss_cons (ps_set (i := 2) nd rfl (Or.inl rfl) pe_str)
    (pss_cons (ps_set (i := 3) nd rfl (Or.inl rfl) (pe_op op_mod (pe_callTy call_int1 rfl T.mint PyProof.Rows.boot_int (pa_cons (pv 1) pa_nil)) pe_int))
    (pss_cons (ps_set (i := 4) nd rfl (Or.inl rfl) (pe_op op_mod (pe_op op_fdiv (pe_callTy call_int1 rfl T.mint PyProof.Rows.boot_int (pa_cons (pv 1) pa_nil)) pe_int) (pe_op op_add (pe_callB call_len_str rfl T.mlen PySem.boot_len (pa_cons (pv 0) pa_nil)) pe_int)))
    (pss_cons (ps_set (i := 5) nd rfl (Or.inl rfl) (pe_ix ix_str (pv 2) (pe_op op_mod (pe_op op_fdiv (pe_callTy call_int1 rfl T.mint PyProof.Rows.boot_int (pa_cons (pv 1) pa_nil)) pe_int) pe_int) (fun _ _ => rfl)))
    (pss_cons (ps_if (pt_cmpR op_eq (pv 3) pe_int (nomark _)) (pss_one (ps_ret (pe_op op_add_str (pe_op op_add_str (pe_slice C8.sl_txt (pv 0) po_none (po_some (pv 4))) (pv 5)) (pe_slice C8.sl_txt (pv 0) (po_some (pv 4)) po_none)))) pss_nil)
    (pss_cons (ps_if (pt_cmpR op_eq (pv 3) pe_int (nomark _)) (pss_one (ps_ret (pe_op op_add_str (pe_slice C8.sl_txt (pv 0) po_none (po_some (pv 4))) (pe_slice C8.sl_txt (pv 0) (po_some (pe_op op_add (pv 4) pe_int)) po_none)))) pss_nil)
    (pss_cons (ps_if (pt_cmpR op_eq (pv 3) pe_int (nomark _)) (pss_one (ps_ret (pe_op op_add_str (pe_op op_add_str (pe_slice C8.sl_txt (pv 0) po_none (po_some (pv 4))) (pv 5)) (pe_slice C8.sl_txt (pv 0) (po_some (pe_op op_add (pv 4) pe_int)) po_none)))) pss_nil)
    (pss_cons (ps_if (pt_cmpR op_eq (pv 3) pe_int (nomark _)) (pss_one (ps_ret (pe_slice C8.sl_txt (pv 0) po_none (po_some (pv 4))))) pss_nil)
    (pss_cons (ps_if (pt_cmpR op_eq (pv 3) pe_int (nomark _)) (pss_one (ps_ret (pe_op op_add_str (pe_slice C8.sl_txt (pv 0) po_none (po_some (pe_op op_add (pv 4) pe_int))) (pe_slice C8.sl_txt (pv 0) (po_some (pv 4)) po_none)))) pss_nil)
    (pss_one (ps_ret (pe_op op_add_str (pv 0) (pv 5)))))))))))), ?_⟩
  have hl : ((S t).length : Int) = (t.length : Int) := by rw [SX.S_len]
  have htl := S_line (show t.length ≤ 100000 by omega)
  obtain ⟨p, hp, hpl⟩ : ∃ p : Nat, z / 6 % (((S t).length : Int) + 1) = (p : Int) ∧ p ≤ t.length := by
    rw [hl]
    have h1 := Int.emod_nonneg (z / 6) (show ((t.length : Int) + 1) ≠ 0 by omega)
    have h2 := Int.emod_lt_of_pos (z / 6) (show (0 : Int) < (t.length : Int) + 1 by omega)
    exact ⟨(z / 6 % ((t.length : Int) + 1)).toNat, by omega, by omega⟩
  obtain ⟨j, hj, hj14⟩ : ∃ j : Nat, z / 7 % 14 = (j : Int) ∧ j < 14 := ⟨(z / 7 % 14).toNat, by omega, by omega⟩
  have hsg : ∃ c, sgL[j]? = some c := ⟨sgL[j]'hj14, List.getElem?_eq_getElem hj14⟩
  obtain ⟨c, hc⟩ := hsg
  refine ⟨_, rfl, .inl ⟨_, rfl, _, _, rfl, rfl, (by show (0 : Int) < 6; decide), ?_⟩⟩
  refine ⟨_, rfl, .inl ⟨_, rfl, _, _, rfl, rfl, ⟨by decide, by decide⟩, _, rfl, _, rfl, htl, _, _, rfl, rfl, _, _, rfl, rfl, (by show (0 : Int) < ((S t).length : Int) + 1; omega), ?_⟩⟩
  refine ⟨_, rfl, _, rfl, .inl ⟨_, rfl, _, _, rfl, rfl, ⟨by decide, by decide⟩, _, _, rfl, rfl, (by show (0 : Int) < 14; decide), S sgL, _, c, (by rw [← lit_signs]), rfl, by decide, (by show atI sgL (z / 7 % 14) = some c; rw [hj]; exact atI_nat hc), ?_⟩⟩
  have hp1 : z / 6 % (((S t).length : Int) + 1) + 1 = ((p + 1 : Nat) : Int) := by omega
  have e1 : PySem.Txt.slice (S t) none (some (p : Int)) = S (t.take p) := SX.slice_to (by omega)
  have e2 : PySem.Txt.slice (S t) (some (p : Int)) none = S (t.drop p) := SX.slice_from (by omega)
  have e3 : PySem.Txt.slice (S t) (some ((p + 1 : Nat) : Int)) none = S (t.drop (p + 1)) := SX.slice_from (by omega)
  have e4 : PySem.Txt.slice (S t) none (some ((p + 1 : Nat) : Int)) = S (t.take (p + 1)) := SX.slice_to (by omega)
  have l1 : (t.take p).length = p := by rw [List.length_take]; omega
  have l2 : (t.drop p).length = t.length - p := List.length_drop
  have l3 : (t.drop (p + 1)).length = t.length - (p + 1) := List.length_drop
  have l4 : (t.take (p + 1)).length ≤ p + 1 := by rw [List.length_take]; omega
  by_cases w0 : z % 6 = 0
  · refine ⟨_, rfl, rfl, _, rfl, iteE w0 ⟨_, rfl, _, rfl, _, congrArg V.int hp, _, rfl, htl, _, rfl, _, _, congrArg V.str e1, rfl, cat_len (a := t.take p) (b := [c]) (by rw [l1]; show p + 1 ≤ _; omega), ?_⟩⟩
    refine ⟨_, rfl, _, rfl, _, congrArg V.int hp, _, rfl, htl, S (t.take p ++ [c]), _, congrArg V.str (SX.S_cat _ _), congrArg V.str e2, cat_len (by rw [List.length_append, l1, l2]; show p + 1 + _ ≤ _; omega), ?_⟩
    rw [SX.S_cat]
    exact q _ (by rw [List.length_append, List.length_append, l1, l2]; show p + 1 + _ ≤ _; omega)
  refine ⟨_, rfl, rfl, _, rfl, iteNE w0 ?_⟩
  by_cases w1 : z % 6 = 1
  · refine ⟨_, rfl, rfl, _, rfl, iteE w1 ⟨_, rfl, _, rfl, _, congrArg V.int hp, _, rfl, htl, ?_⟩⟩
    refine ⟨_, rfl, _, rfl, _, _, rfl, rfl, _, congrArg V.int hp1, _, rfl, htl, _, _, congrArg V.str e1, congrArg V.str e3, cat_len (by rw [l1, l3]; omega), ?_⟩
    rw [SX.S_cat]
    exact q _ (by rw [List.length_append, l1, l3]; omega)
  refine ⟨_, rfl, rfl, _, rfl, iteNE w1 ?_⟩
  by_cases w2 : z % 6 = 2
  · refine ⟨_, rfl, rfl, _, rfl, iteE w2 ⟨_, rfl, _, rfl, _, congrArg V.int hp, _, rfl, htl, _, rfl, _, _, congrArg V.str e1, rfl, cat_len (a := t.take p) (b := [c]) (by rw [l1]; show p + 1 ≤ _; omega), ?_⟩⟩
    refine ⟨_, rfl, _, rfl, _, _, rfl, rfl, _, congrArg V.int hp1, _, rfl, htl, S (t.take p ++ [c]), _, congrArg V.str (SX.S_cat _ _), congrArg V.str e3, cat_len (by rw [List.length_append, l1, l3]; show p + 1 + _ ≤ _; omega), ?_⟩
    rw [SX.S_cat]
    exact q _ (by rw [List.length_append, List.length_append, l1, l3]; show p + 1 + _ ≤ _; omega)
  refine ⟨_, rfl, rfl, _, rfl, iteNE w2 ?_⟩
  by_cases w3 : z % 6 = 3
  · refine ⟨_, rfl, rfl, _, rfl, iteE w3 ⟨_, rfl, _, rfl, _, congrArg V.int hp, _, rfl, htl, ?_⟩⟩
    rw [e1]
    exact q _ (by rw [l1]; omega)
  refine ⟨_, rfl, rfl, _, rfl, iteNE w3 ?_⟩
  by_cases w4 : z % 6 = 4
  · refine ⟨_, rfl, rfl, _, rfl, iteE w4 ⟨_, rfl, _, rfl, _, _, rfl, rfl, _, congrArg V.int hp1, _, rfl, htl, ?_⟩⟩
    refine ⟨_, rfl, _, rfl, _, congrArg V.int hp, _, rfl, htl, _, _, congrArg V.str e4, congrArg V.str e2, cat_len (by rw [l2]; omega), ?_⟩
    rw [SX.S_cat]
    exact q _ (by rw [List.length_append, l2]; omega)
  refine ⟨_, rfl, rfl, _, rfl, iteNE w4 ⟨_, rfl, _, rfl, _, _, rfl, rfl, cat_len (a := t) (b := [c]) (by show _ + 1 ≤ _; omega), ?_⟩⟩
  have := q (t ++ [c]) (by rw [List.length_append]; exact Nat.le_refl _)
  rw [← SX.S_cat] at this
  exact this
end
/-! ### _law_read_as_due(text): slots text due value e at -/
structure Txt2 (P : Program) (K : PySem.W.Frag) (mg : Str → Option Value) (C D B : Addr) : Prop where
  gD : mg "BadName" = some (.ref D)
  gB : mg "BookError" = some (.ref B)
  xD : PySem.W.exmOne K (.ref C) (.ref D) = some false
  xC : PySem.W.exmOne K (.ref C) (.ref C) = some true
  xB : PySem.W.exmOne K (.ref C) (.ref B) = some true
  exc : ExcC K C
  kV : PySem.W.kitOne K (.ref C) (.type "ValueError") = some true
  kC : PySem.W.kitOne K (.ref C) (.ref C) = some true
  kD : PySem.W.kitOne K (.ref C) (.ref D) = some false
  mVE : mg "ValueError" = none
def spRead : Sp := fun vs H Q _ => ∃ (t : List Nat), vs = [.str (S t)] ∧ t.length ≤ 50000 ∧ ∀ H', Same H H' → Q (.bl true) H'
theorem scRead : FnScope ["_law_text", "_law_due_here", "_law_value_here", "e", "_law_at"] ["_law_text"] (defScope sRead) := ⟨rfl, rfl, rfl, by decide +kernel, rfl, by decide +kernel, by decide +kernel⟩
section
variable {P : Program} {w : World} {K : PySem.W.Frag} {mg : Str → Option Value} {base : Heap} {f : Addr} {fd : FuncData} {C fI cc D B : Addr}
theorem ok_read {fU fR fW fS : Addr} {fdU fdR fdW fdS : FuncData} (T : Txt P K mg C fI cc) (T2 : Txt2 P K mg C D B) (F : Fun K "_law_read_as_due" "_law_read_as_due" sRead f fd)
    (GU : FnOk P w K mg base CX0 2 fU fdU ["_law_text"] spDue) (kU : PySem.W.keepIn K (.ref fU) = true) (bU : Binds K fdU ["_law_text"] []) (mU : mg "_law_due" = some (.ref fU))
    (GR : FnOk P w K mg base (L2.CX P w) 7 fR fdR ["text"] (spRV C)) (kR : PySem.W.keepIn K (.ref fR) = true) (bR : Binds K fdR ["text"] []) (mR : mg "read_value" = some (.ref fR))
    (GW : FnOk P w K mg base CX0 101 fW fdW ["_law_value_here"] (spVT 101)) (kW : PySem.W.keepIn K (.ref fW) = true) (bW : Binds K fdW ["_law_value_here"] []) (mW : mg "_law_write" = some (.ref fW))
    (GS : FnOk P w K mg base CX0 101 fS fdS ["_law_actual", "_law_expected"] (spSame 101)) (kS : PySem.W.keepIn K (.ref fS) = true) (bS : Binds K fdS ["_law_actual", "_law_expected"] []) (mS : mg "_law_same" = some (.ref fS)) :
    FnOk P w K mg base CX0 102 f fd ["_law_text"] spRead := by
  refine F.ok scRead (fun vs H Q E h => ?_) (fun cdv A outer s H vs Q E hr h => ?_)
  · obtain ⟨t, rfl, _⟩ := h
    rfl
  obtain ⟨t, rfl, ht, q⟩ := h
  have nd := scRead.nd
  refine ⟨_, pss_cons (ps_set (i := 1) nd rfl (Or.inl rfl) (pe_call GU (hr.mono (by decide)) rfl mU kU bU .nil pass0 (pa_cons (pv 0) pa_nil)))
    (pss_cons (ps_try_two (i := 3) (tb := fun W => tAsg (tCallS (spRV C) (WE W) (tCons (tVar 0) tNil)) (gName 2)) (t1 := fun _ _ _ => tRet (tC (.bl false))) (Wout := fun _ _ _ _ => False) rfl rfl nd rfl rfl ⟨rfl, by decide, .inl T2.gD⟩ ⟨rfl, by decide, .inl T.err.gC⟩ takes0
      (fun W pn xe tk _ => pss_one (ps_set (i := 2) nd rfl (Or.inl rfl) (by exact (pe_callS GR (hr.mono (by decide)) rfl mR kR bR (fun σ => passAt tk σ) (by exact (pa_cons (pv 0) pa_nil))))))
      (fun a oe cls d pn hz hf => pss_one (ps_ret pe_bl))
      (fun a oe cls d pn hz hf => pss_cons (ps_set (i := 4) nd rfl (Or.inl rfl) (by exact (pe_byX T.err hz hf (pv 3))))
        (pss_one (ps_ret (by exact (pe_and (pe_cmp (pc_notN (pv 1))) (pe_and (pe_callB (r := rIsi K) call_isi rfl T.misi PyProof.Rows.boot_isinstance (pa_cons (pv 4) (pa_cons (pe_bltn (v := .ty "int") rfl T.mint PyProof.Rows.boot_int rfl) pa_nil)))
          (pe_and (pe_not (pe_callB (r := rIsi K) call_isi rfl T.misi PyProof.Rows.boot_isinstance (pa_cons (pv 4) (pa_cons (pe_bltn (v := .ty "bool") rfl T.mboo PyProof.Rows.boot_bool rfl) pa_nil)))) (pe_one (pe_cmpR op_eq (pv 4) (pv 1) (nomark _)))))))))))
    (pss_one (ps_ret (pe_and (pe_cmp (pc_isN (pv 1))) (pe_and (pe_cmpR op_eq (pe_call GW hr rfl mW kW bW .nil pass0 (pa_cons (pv 2) pa_nil)) (pv 0) (nomark _))
      (pe_one (pe_call GS hr rfl mS kS bS .nil pass0 (pa_cons (pe_call GR (hr.mono (by decide)) rfl mR kR bR .nil passL (pa_cons (pe_call GW hr rfl mW kW bW .nil pass0 (pa_cons (pv 2) pa_nil)) pa_nil)) (pa_cons (pv 2) pa_nil))))))))), ?_⟩
  have hps := parse_sound t
  cases hpar : parse t with
  | error e =>
    rw [hpar] at hps
    obtain ⟨hdue, hel⟩ := hps
    refine ⟨_, rfl, t, rfl, by omega, (fun hn => by rw [hdue] at hn; cases hn), fun e1 he1 H1 s1 => ?_⟩
    have e1e : e1 = e := by rw [hdue] at he1; exact (Option.some.inj he1).symm
    subst e1e
    refine ⟨_, rfl, t, rfl, by omega, fun e2 H2 hp2 s2 d hd => ?_, fun v x H2 hv => by rw [hpar] at hv; cases hv⟩
    have e2e : e2 = e1 := by rw [hpar] at hp2; injection hp2 with z; exact z.symm
    subst e2e
    refine ⟨false, T2.xD, (fun z => nomatch z), fun _ => ⟨true, T2.xC, fun _ a ha => ?_, fun z => nomatch z⟩⟩
    refine ⟨_, rfl, rfl, rfl, d, _, rfl, upd_same, ?_⟩
    refine ⟨_, rfl, _, rfl, iteT ?_⟩
    refine ⟨_, rfl, _, .ty "int", .type "int", .type "int", true, rfl, .ty _, .base (.int _), kit_ty (by decide +kernel), true, rfl, iteT ?_⟩
    refine ⟨_, rfl, _, .ty "bool", .type "int", .type "bool", false, rfl, .ty _, .base (.int _), kit_ty (by decide +kernel), false, rfl, true, rfl, iteT ⟨_, rfl, _, rfl, rfl, ?_⟩⟩
    rw [decide_eq_true rfl]
    refine q _ (s1.trans (s2.trans (same_new hd _)))
  | ok v =>
    rw [hpar] at hps
    obtain ⟨hdue, hwr, hok, hdep⟩ := hps
    have hlen : (wr v).length ≤ 100000 := by rw [hwr]; omega
    refine ⟨_, rfl, t, rfl, by omega, fun _ H1 s1 => ?_, fun e1 he1 => by rw [hdue] at he1; cases he1⟩
    refine ⟨_, rfl, t, rfl, by omega, fun e2 H2 hp2 => (by rw [hpar] at hp2; cases hp2), fun v2 x H2 hv s2 hrep => ?_⟩
    have v2v : v2 = v := by rw [hpar] at hv; injection hv with z; exact z.symm
    subst v2v
    refine ⟨_, rfl, _, rfl, iteT ?_⟩
    refine ⟨_, rfl, v2, x, rfl, hrep, hok, by omega, hlen, fun H3 s3 => ⟨_, rfl, rfl, _, rfl, iteD (by rw [hwr]) ?_⟩⟩
    refine ⟨_, rfl, v2, x, rfl, Rep.mono (Tups.of_same s3) _ _ hrep, hok, by omega, hlen, fun H4 s4 => ?_⟩
    refine ⟨wr v2, rfl, hlen, fun e H5 he => (by rw [parse_back hok hdep] at he; cases he), fun v3 y H5 hv3 s5 hy => ?_⟩
    have v3v : v3 = v2 := by rw [parse_back hok hdep] at hv3; injection hv3 with z; exact z.symm
    subst v3v
    refine ⟨_, rfl, v3, y, x, rfl, hy, Rep.mono (Tups.of_same (s3.trans (s4.trans s5))) _ _ hrep, by omega, hlen, fun H6 s6 => ?_⟩
    exact q _ (s1.trans (s2.trans (s3.trans (s4.trans (s5.trans s6)))))
end
end Kz
/-! KzIs -/
set_option Elab.async false
set_option linter.all false
set_option maxRecDepth 100000
set_option maxHeartbeats 4000000
namespace L2
open PySem PySem.Spec PyProof.Rows
/-- isinstance(e, c), e the exception that the suite holds, with a dict of its own at d -/
def rIsX (K : PySem.W.Frag) (C a : Addr) (cls : Value) (d : Option Addr) : List V → Hp → VK → Prop := fun xs H Q => ∃ (c : V) (cv : Value) (b : Bool) (dd : Addr) (l : List (Str × V)), xs = [.ref a, c] ∧ cls = .ref C ∧ d = some dd ∧ H dd = some (.xd l) ∧ (∀ u, RelV c u → u = cv) ∧ PySem.W.kitOne K (.ref C) cv = some b ∧ Q (.bl b) H
theorem call_isX {X : Cx} {a C : Addr} {cls : Value} {d : Option Addr} {oe : Obj} {pn : List (Addr × Obj)} (G : ExcC X.K C) (hz : Zc cls d oe) (hf : ∃ vs, oe.data = .fields vs) : CallR (X.suite a ((a, oe) :: pn)) (.builtin "isinstance") (rIsX X.K C a cls d) := by
  intro pins s σ H xs us Q I r h
  obtain ⟨c, cv, b, dd, l, rfl, ec, ed, ea, hcv, hk, q⟩ := h
  subst ec
  subst ed
  obtain ⟨ux, ut, rfl, rx, rt⟩ := vals2 r
  obtain rfl : ux = Value.ref a := rx
  obtain rfl := hcv _ rt
  obtain ⟨hget, _⟩ := I.pin (a, oe) (List.mem_append_left _ List.mem_cons_self)
  obtain ⟨vs, hd⟩ := hf
  have hx : ObjOk X.prog X.w H s.heap dd (.xd l) := I.hok dd _ ea
  obtain ⟨mA, hns, hr⟩ := hx
  obtain ⟨od, ho, hl⟩ := lookIn_ns hns
  have J : PySem.W.InstAt s.heap a oe C (some od) := ⟨hget, hz.1, by unfold PySem.W.notCls; rw [hd] <;> rfl, by rw [hz.2]; exact ho⟩
  have hcl : (PySem.W.clsIn X.K C).isSome = true := by
    obtain ⟨cd, hc, _⟩ := PySem.W.any_some G.hd
    rw [hc]
    rfl
  exact PySem.W.kia_one (PySem.W.kitx_exc hcl G.hg G.hk G.hs G.ha G.hn G.ht G.hm) I.kIn J hk (fun z => nomatch z) fun tk => ⟨.bl b, H, I.kept (t' := tk) fun _ _ z => z, rfl, q⟩
/-- a text of one sign, some times over -/
def rRepS : R2 := fun x y H Q => ∃ (i : Str) (n : Int), x = .str i ∧ y = .int n ∧ MulOk i n ∧ Q (.str (Txt.mul i n)) H
theorem op_repS {X : Cx} : OpR X (binaryOp .Mult) rRepS := by
  intro pins s σ H x y v u Q I rx ry h
  obtain ⟨i, n, rfl, rfl, hm, q⟩ := h
  obtain ⟨t, rfl⟩ := rx
  obtain ⟨t', rfl⟩ := ry
  exact SB.mul hm fun t' k => ⟨.str (Txt.mul i n), H, I.tok _, ⟨_, rfl⟩, q⟩
end L2
namespace Kz
open PySem PySem.Spec PyProof.Rows L2
open SX (S)
theorem rep40_101 : MulOk (Str.ofString "(") 101 ∧ Txt.mul (Str.ofString "(") 101 = S (List.replicate 101 40) := by unfold MulOk; decide +kernel
theorem rep41_101 : MulOk (Str.ofString ")") 101 ∧ Txt.mul (Str.ofString ")") 101 = S (List.replicate 101 41) := by unfold MulOk; decide +kernel
theorem rep40_100 : MulOk (Str.ofString "(") 100 ∧ Txt.mul (Str.ofString "(") 100 = S (List.replicate 100 40) := by unfold MulOk; decide +kernel
theorem rep41_100 : MulOk (Str.ofString ")") 100 ∧ Txt.mul (Str.ofString ")") 100 = S (List.replicate 100 41) := by unfold MulOk; decide +kernel
def fxL : List (List Nat) := [[], [40], [41], [45], [45, 48], [48, 48], [40, 32, 41], [40, 41], [40, 49, 32, 41], [49, 32], [32, 49], [97, 49], [49, 97], [40, 49, 32, 32, 50, 41], [40, 41, 41]]
theorem fx_eq : [V.str "", V.str "(", V.str ")", V.str "-", V.str "-0", V.str "00", V.str "( )", V.str "()", V.str "(1 )", V.str "1 ", V.str " 1", V.str "a1", V.str "1a", V.str "(1  2)", V.str "())"] = fxL.map fun l => V.str (S l) := by decide +kernel
theorem fx_len : ∀ l ∈ fxL, l.length ≤ 6 := by decide
theorem due_open : due (List.replicate 101 40) = some 1 := by decide +kernel
theorem parse_open : parse (List.replicate 101 40) = .error 1 := by
  have h := parse_sound (List.replicate 101 40)
  cases e : parse (List.replicate 101 40) with
  | error k =>
    rw [e, due_open] at h
    rw [Option.some.inj h.1]
  | ok v =>
    rw [e, due_open] at h
    cases h.1
end Kz
/-! KzLaw -/
set_option Elab.async false
set_option linter.all false
set_option maxRecDepth 100000
set_option maxHeartbeats 4000000
namespace Kz
open PySem PySem.Spec PyProof.Rows L2
open SX (S)
theorem iteF' {c : Bool} {A B : Prop} (h : c = false) (hb : B) : if c = true then A else B := by rw [h]; exact iteF hb
/-! ### law(script): slots script value text fixed texts k spoilt e -/
def tv (l : List Nat) : V := .str (S l)
def spLaw (K : PySem.W.Frag) : Sp := fun vs H Q _ => ∃ (a : Addr) (ns : List Int), vs = [.ref a] ∧ SqL K H a (ns.map V.int) ∧ ns.length ≤ 63 ∧ ∀ H', Q (.bl true) H'
abbrev nLaw : List Str := ["_law_script", "_law_value_here", "_law_text", "_law_fixed", "_law_texts", "_law_k", "_law_spoilt_here", "e"]
theorem scLaw : FnScope nLaw ["_law_script"] (defScope sLaw) := ⟨rfl, rfl, rfl, by decide +kernel, rfl, by decide +kernel, by decide +kernel⟩
section
variable {P : Program} {w : World} {K : PySem.W.Frag} {mg : Str → Option Value} {base : Heap} {f : Addr} {fd : FuncData} {C fI cc D B : Addr}
theorem ok_law {fV fT fR fW fS fC fP fD : Addr} {fdV fdT fdR fdW fdS fdC fdP fdD : FuncData} (T : Txt P K mg C fI cc) (T2 : Txt2 P K mg C D B) (F : Fun K "law" "law" sLaw f fd)
    (GV : FnOk P w K mg base CX0 3 fV fdV ["_law_script"] (spValue K)) (kV : PySem.W.keepIn K (.ref fV) = true) (bV : Binds K fdV ["_law_script"] []) (mV : mg "_law_value" = some (.ref fV))
    (GT : FnOk P w K mg base CX0 101 fT fdT ["value"] (spVT 101)) (kT : PySem.W.keepIn K (.ref fT) = true) (bT : Binds K fdT ["value"] []) (mT : mg "value_text" = some (.ref fT))
    (GR : FnOk P w K mg base (L2.CX P w) 7 fR fdR ["text"] (spRV C)) (kR : PySem.W.keepIn K (.ref fR) = true) (bR : Binds K fdR ["text"] []) (mR : mg "read_value" = some (.ref fR))
    (GW : FnOk P w K mg base CX0 101 fW fdW ["_law_value_here"] (spVT 101)) (kW : PySem.W.keepIn K (.ref fW) = true) (bW : Binds K fdW ["_law_value_here"] []) (mW : mg "_law_write" = some (.ref fW))
    (GS : FnOk P w K mg base CX0 101 fS fdS ["_law_actual", "_law_expected"] (spSame 101)) (kS : PySem.W.keepIn K (.ref fS) = true) (bS : Binds K fdS ["_law_actual", "_law_expected"] []) (mS : mg "_law_same" = some (.ref fS))
    (GC : FnOk P w K mg base CX0 1 fC fdC ["_law_script", "_law_k"] (spCell K)) (kC : PySem.W.keepIn K (.ref fC) = true) (bC : Binds K fdC ["_law_script", "_law_k"] []) (mC : mg "_law_cell" = some (.ref fC))
    (GP : FnOk P w K mg base CX0 1 fP fdP ["_law_text", "_law_cell_here"] spSpoilt) (kP : PySem.W.keepIn K (.ref fP) = true) (bP : Binds K fdP ["_law_text", "_law_cell_here"] []) (mP : mg "_law_spoilt" = some (.ref fP))
    (GD : FnOk P w K mg base CX0 102 fD fdD ["_law_text"] spRead) (kD : PySem.W.keepIn K (.ref fD) = true) (bD : Binds K fdD ["_law_text"] []) (mD : mg "_law_read_as_due" = some (.ref fD)) :
    FnOk P w K mg base CX0 103 f fd ["_law_script"] (spLaw K) := by
  refine F.ok scLaw (fun vs H Q E h => ?_) (fun cdv A outer s H vs Q E hr h => ?_)
  · obtain ⟨a, ns, rfl, _⟩ := h
    rfl
  obtain ⟨a, ns, rfl, hS, h63, q⟩ := h
  have nd := scLaw.nd
  refine ⟨_, pss_cons (ps_set (i := 1) nd rfl (Or.inl rfl) (pe_call GV (hr.mono (by decide)) rfl mV kV bV .nil pass0 (pa_cons (pv 0) pa_nil)))
    (pss_cons (ps_set (i := 2) nd rfl (Or.inl rfl) (pe_call GT (hr.mono (by decide)) rfl mT kT bT .nil pass0 (pa_cons (pv 1) pa_nil)))
    (pss_cons (ps_if (PW.pt (pw_or (pt_not (pt_val (pe_callB (r := rIsi K) call_isi rfl T.misi PyProof.Rows.boot_isinstance (pa_cons (pv 2) (pa_cons (pe_bltn (v := .ty "str") rfl T.mstr PyProof.Rows.boot_str rfl) pa_nil)))))
        (pw_or1 (pt_cmpR op_ne (pv 2) (pe_call GW (hr.mono (by decide)) rfl mW kW bW .nil pass0 (pa_cons (pv 1) pa_nil)) (nomark _))))) (pss_one (ps_ret pe_bl)) pss_nil)
    (pss_cons (ps_if (pt_not (pt_val (pe_call GS (hr.mono (by decide)) rfl mS kS bS .nil pass0 (pa_cons (pe_call GR (hr.mono (by decide)) rfl mR kR bR .nil passL (pa_cons (pv 2) pa_nil)) (pa_cons (pv 1) pa_nil))))) (pss_one (ps_ret pe_bl)) pss_nil)
    (pss_cons (ps_set (i := 3) nd rfl (Or.inl rfl) (pe_lst (pa_cons pe_str (pa_cons pe_str (pa_cons pe_str (pa_cons pe_str (pa_cons pe_str (pa_cons pe_str (pa_cons pe_str (pa_cons pe_str (pa_cons pe_str (pa_cons pe_str (pa_cons pe_str (pa_cons pe_str (pa_cons pe_str (pa_cons pe_str (pa_cons pe_str pa_nil)))))))))))))))))
    (pss_cons (ps_set (i := 4) nd rfl (Or.inl rfl) (pe_lst (pa_cons (pe_ix ix_list (pv 3) (pe_op op_mod (pe_callTy call_int1 rfl T.mint PyProof.Rows.boot_int (pa_cons (pe_call GC (hr.mono (by decide)) rfl mC kC bC .nil pass0 (pa_cons (pv 0) (pa_cons pe_int pa_nil))) pa_nil)) pe_int) (fun _ _ => rfl))
      (pa_cons (pe_op op_add_str (pe_op op_repS pe_str pe_int) (pe_op op_repS pe_str pe_int)) (pa_cons (pe_op op_add_str (pe_op op_repS pe_str pe_int) (pe_op op_repS pe_str pe_int)) pa_nil)))))
    (pss_cons (ps_for PassesOwn.never rfl (pi_range1 rfl T.mran (pa_cons pe_int pa_nil)) (pg_name (i := 5) nd rfl (Or.inl rfl))
      (pss_one (ps_expr (pe_bm PySem.F.plainAttrs_list PySem.F.slot_list_append PySem.F.type_list_append mt_append (pv 4) (pa_cons (pe_call GP (hr.mono (by decide)) rfl mP kP bP .nil pass0 (pa_cons (pv 2) (pa_cons
        (pe_op op_add (pe_op op_add (pe_op op_fdiv (pe_callB call_abs rfl T.mabs PyProof.Rows.boot_abs (pa_cons (pe_call GC (hr.mono (by decide)) rfl mC kC bC .nil pass0 (pa_cons (pv 0) (pa_cons (pe_op op_sub pe_int (pv 5)) pa_nil))) pa_nil)) pe_int) (pe_op op_mul pe_int (pv 5)))
          (pe_callB call_len_seq rfl T.mlen PySem.boot_len (pa_cons (pv 0) pa_nil))) pa_nil))) pa_nil)))))
    (pss_cons (ps_for PassesOwn.never rfl (pi_range1 rfl T.mran (pa_cons pe_int pa_nil)) (pg_name (i := 5) nd rfl (Or.inl rfl))
      (pss_one (ps_expr (pe_bm PySem.F.plainAttrs_list PySem.F.slot_list_append PySem.F.type_list_append mt_append (pv 4) (pa_cons (pe_call GP (hr.mono (by decide)) rfl mP kP bP .nil pass0 (pa_cons (pe_ix ix_list (pv 4) (pe_op op_add pe_int (pv 5)) (fun _ _ => rfl)) (pa_cons
        (pe_op op_fdiv (pe_callB call_abs rfl T.mabs PyProof.Rows.boot_abs (pa_cons (pe_call GC (hr.mono (by decide)) rfl mC kC bC .nil pass0 (pa_cons (pv 0) (pa_cons (pv 5) pa_nil))) pa_nil)) pe_int) pa_nil))) pa_nil)))))
    (pss_cons (ps_for PassesOwn.never rfl (pi_list (pv 4)) (pg_name (i := 6) nd rfl (Or.inl rfl))
      (pss_one (ps_if (pt_not (pt_val (pe_call GD hr rfl mD kD bD .nil pass0 (pa_cons (pv 6) pa_nil)))) (pss_one (ps_ret pe_bl)) pss_nil)))
    (pss_cons (ps_try_as (i := 7) (tb := fun W => tDrop (tCallS (spRV C) (WE W) (tCons (tOp rRepS (tC (.str "(")) (tC (.int 101))) tNil))) (Wout := fun _ _ _ _ => False) rfl rfl nd rfl rfl ⟨rfl, by decide, .inl T2.gB⟩ takes0
      (fun W pn xe tk _ => pss_one (ps_expr (by exact (pe_callS GR (hr.mono (by decide)) rfl mR kR bR (fun σ => passAt tk σ) (by exact (pa_cons (pe_op op_repS pe_str pe_int) pa_nil))))))
      (fun a oe cls d pn hz hf => pss_one (ps_ret (by exact (pe_and (pe_callB (r := rIsX K C a cls d) (call_isX T2.exc hz hf) rfl T.misi PyProof.Rows.boot_isinstance (pa_cons (pv 7) (pa_cons (pe_bltn (v := .ty "ValueError") rfl T2.mVE (by decide +kernel) rfl) pa_nil)))
        (pe_and (pe_callB (r := rIsX K C a cls d) (call_isX T2.exc hz hf) rfl T.misi PyProof.Rows.boot_isinstance (pa_cons (pv 7) (pa_cons (pe_glob (v := .ref C) rfl T.err.gC rfl) pa_nil)))
        (pe_and (pe_not (pe_callB (r := rIsX K C a cls d) (call_isX T2.exc hz hf) rfl T.misi PyProof.Rows.boot_isinstance (pa_cons (pv 7) (pa_cons (pe_glob (v := .ref D) rfl T2.gD rfl) pa_nil))))
        (pe_one (pe_cmpR op_eq (pe_byX T.err hz hf (pv 7)) pe_int (nomark _))))))))))
    (pss_one (ps_ret pe_bl))))))))))), ?_⟩
  refine ⟨_, rfl, a, ns, rfl, hS, h63, fun v x H1 ho hd hl hrep s1 => ?_⟩
  refine ⟨_, rfl, v, x, rfl, hrep, ho, by omega, by omega, fun H2 s2 => ?_⟩
  have hrep2 : Rep H2 v x := Rep.mono (Tups.of_same s2) _ _ hrep
  refine ⟨_, rfl, _, .ty "str", .type "str", .type "str", true, rfl, .ty _, .base (.str _), kit_ty (by decide +kernel), true, rfl, iteF ?_⟩
  refine ⟨_, rfl, _, rfl, v, x, rfl, hrep2, ho, by omega, by omega, fun H3 s3 => ?_⟩
  have hrep3 : Rep H3 v x := Rep.mono (Tups.of_same s3) _ _ hrep2
  refine ⟨rfl, _, rfl, iteF' (by rw [decide_eq_true rfl]; rfl) ?_⟩
  refine ⟨_, rfl, wr v, rfl, by omega, fun e H4 he => (by rw [parse_back ho hd] at he; cases he), fun v2 y H4 hv2 s4 hy => ?_⟩
  have v2v : v2 = v := by rw [parse_back ho hd] at hv2; injection hv2 with z; exact z.symm
  subst v2v
  refine ⟨_, rfl, v2, y, x, rfl, hy, Rep.mono (Tups.of_same s4) _ _ hrep3, by omega, by omega, fun H5 s5 => ?_⟩
  refine ⟨_, rfl, iteF ?_⟩
  have sA : Same H H5 := s1.trans (s2.trans (s3.trans (s4.trans s5)))
  refine ⟨by show 15 ≤ sizeLine; decide, fun fo hfo => ?_⟩
  have sB : Same H (upd H5 fo (.lst [V.str "", V.str "(", V.str ")", V.str "-", V.str "-0", V.str "00", V.str "( )", V.str "()", V.str "(1 )", V.str "1 ", V.str " 1", V.str "a1", V.str "1a", V.str "(1  2)", V.str "())"])) := sA.trans (same_new hfo _)
  rw [fx_eq] at sB ⊢
  have hSB : SqL K (upd H5 fo (.lst (fxL.map fun l => V.str (S l)))) a (ns.map V.int) := sB.seq hS
  obtain ⟨j, hj, hj15⟩ : ∃ j : Nat, ns.getD 0 0 % 15 = (j : Int) ∧ j < 15 := ⟨(ns.getD 0 0 % 15).toNat, by omega, by omega⟩
  have hfx : ∃ c, fxL[j]? = some c := ⟨fxL[j]'hj15, List.getElem?_eq_getElem hj15⟩
  obtain ⟨c0, hc0⟩ := hfx
  have hc0l := fx_len c0 (List.mem_of_getElem? hc0)
  refine ⟨_, rfl, _, rfl, a, ns, 0, rfl, hSB, .inl ⟨_, rfl, _, _, rfl, rfl, (by show (0 : Int) < 15; decide), fo, _, _, V.str (S c0), rfl, congrArg V.int hj, .inl (.inl upd_same), atI_nat (by rw [List.getElem?_map, hc0]; rfl), ?_⟩⟩
  refine ⟨_, _, rfl, rfl, rep40_101.1, _, _, rfl, rfl, rep41_101.1, S (List.replicate 101 40), S (List.replicate 101 41), congrArg V.str rep40_101.2, congrArg V.str rep41_101.2, cat_len (by decide), ?_⟩
  refine ⟨_, _, rfl, rfl, rep40_100.1, _, _, rfl, rfl, rep41_100.1, S (List.replicate 100 40), S (List.replicate 100 41), congrArg V.str rep40_100.2, congrArg V.str rep41_100.2, cat_len (by decide), ?_⟩
  refine ⟨by show 3 ≤ sizeLine; decide, fun o hno => ?_⟩
  rw [SX.S_cat, SX.S_cat]
  have hnoH : H o = none := by
    cases e : H o with
    | none => rfl
    | some u => exact absurd (sB _ _ e) (by rw [hno]; exact fun z => nomatch z)
  have keep : ∀ {H' : Hp} {xs : List V}, Same H H' → Same H (upd H' o (.lst xs)) := fun sm b x e => by
    rw [upd_ne (ne_of_none e hnoH)]
    exact sm _ _ e
  refine ⟨_, rfl, by decide, by decide, for_range (n := 3) (fun i σ H' => ∃ (us : List (List Nat)) (y : Option V), σ = [some (.ref a), some x, some (.str (S (wr v2))), some (.ref fo), some (.ref o), y, none, none] ∧ us.length = 3 + i ∧ (∀ u ∈ us, u.length ≤ 20001) ∧ Same H H' ∧ H' o = some (.lst (us.map tv)))
    ⟨[c0, List.replicate 101 40 ++ List.replicate 101 41, List.replicate 100 40 ++ List.replicate 100 41], none, rfl, rfl, ?_, keep sB, upd_same⟩ ?_ ?_⟩
  · intro u hu
    rcases List.mem_cons.mp hu with rfl | hu
    · omega
    rcases List.mem_cons.mp hu with rfl | hu
    · decide
    rcases List.mem_cons.mp hu with rfl | hu
    · decide
    cases hu
  · rintro i σ H' hi ⟨us, y, rfl, hl, hb, sm, eo⟩
    have hS' : SqL K H' a (ns.map V.int) := sm.seq hS
    refine ⟨.ref o, rfl, .inl ⟨rfl, _, .inl (.inl eo)⟩, _, rfl, _, rfl, _, rfl, _, _, rfl, rfl, a, ns, 61 - i, ?_, hS', ?_⟩
    · show [V.ref a, V.int (61 - (0 + (i : Int)))] = [V.ref a, V.int ((61 - i : Nat) : Int)]
      rw [show (61 : Int) - (0 + (i : Int)) = ((61 - i : Nat) : Int) by omega]
    · refine ⟨_, rfl, _, _, rfl, rfl, ⟨by decide, by decide⟩, _, rfl, _, _, rfl, rfl, .inl ⟨by decide, by decide⟩, _, _, rfl, rfl, _, rfl, a, _, rfl, .inl hS', _, _, rfl, rfl, wr v2, _, rfl, by omega, fun u hu => ?_⟩
      refine ⟨o, _, _, rfl, rfl, eo, small200 (by rw [List.length_map]; omega), ?_⟩
      refine ⟨us ++ [u], _, rfl, by rw [List.length_append, hl]; rfl, fun u' hu' => ?_, keep sm, ?_⟩
      · rcases List.mem_append.mp hu' with h | h
        · exact hb u' h
        · rw [List.mem_singleton.mp h]; omega
      · rw [upd_same, List.map_append]
        rfl
  · rintro σ H' ⟨us, y, rfl, hl, hb, sm, eo⟩
    refine ⟨_, rfl, by decide, by decide, for_range (n := 2) (fun i σ H' => ∃ (us : List (List Nat)) (y : Option V), σ = [some (.ref a), some x, some (.str (S (wr v2))), some (.ref fo), some (.ref o), y, none, none] ∧ us.length = 6 + i ∧ (∀ u ∈ us, u.length ≤ 20001 + i) ∧ Same H H' ∧ H' o = some (.lst (us.map tv)))
      ⟨us, y, rfl, hl, hb, sm, eo⟩ ?_ ?_⟩
    · clear sm eo hb hl us y
      rintro i σ H' hi ⟨us, y, rfl, hl, hb, sm, eo⟩
      have hS' : SqL K H' a (ns.map V.int) := sm.seq hS
      have h3 : us[3 + i]? = some us[3 + i] := List.getElem?_eq_getElem (by omega)
      have hb3 := hb _ (List.mem_of_getElem? h3)
      generalize us[3 + i] = u0 at h3 hb3
      refine ⟨.ref o, rfl, .inl ⟨rfl, _, .inl (.inl eo)⟩, _, rfl, _, rfl, _, _, rfl, rfl, o, _, _, V.str (S u0), rfl, congrArg V.int (show (3 : Int) + (0 + (i : Int)) = ((3 + i : Nat) : Int) by omega), .inl (.inl eo), atI_nat (by rw [List.getElem?_map, h3]; rfl), ?_⟩
      refine ⟨_, rfl, _, rfl, a, ns, i, ?_, hS', ?_⟩
      · show [V.ref a, V.int (0 + (i : Int))] = [V.ref a, V.int (i : Int)]
        rw [Int.zero_add]
      refine ⟨_, rfl, _, _, rfl, rfl, ⟨by decide, by decide⟩, u0, _, rfl, by omega, fun u hu => ?_⟩
      refine ⟨o, _, _, rfl, rfl, eo, small200 (by rw [List.length_map]; omega), ?_⟩
      refine ⟨us ++ [u], _, rfl, by rw [List.length_append, hl]; rfl, fun u' hu' => ?_, keep sm, ?_⟩
      · rcases List.mem_append.mp hu' with h | h
        · have := hb u' h; omega
        · rw [List.mem_singleton.mp h]; omega
      · rw [upd_same, List.map_append]
        rfl
    · clear sm eo hb hl us y
      rintro σ H' ⟨us, y, rfl, hl, hb, sm, eo⟩
      refine ⟨_, rfl, o, rfl, ⟨_, .inl (.inl eo)⟩, for_list (K := K) (xs := us.map tv) (fun i σ H2 => ∃ (y6 : Option V), σ = [some (.ref a), some x, some (.str (S (wr v2))), some (.ref fo), some (.ref o), y, y6, none] ∧ Same H' H2)
        ⟨none, rfl, Same.refl _⟩ (fun i σ H2 _ ⟨y6, _, s2⟩ => .inl (.inl (s2 _ _ eo))) ?_ ?_⟩
      · rintro i z σ H2 hz ⟨y6, rfl, s2⟩
        rw [List.getElem?_map] at hz
        cases hu : us[i]? with
        | none => rw [hu] at hz; cases hz
        | some u =>
          rw [hu] at hz
          obtain rfl : tv u = z := Option.some.inj hz
          have hub := hb _ (List.mem_of_getElem? hu)
          refine ⟨_, rfl, u, rfl, by omega, fun H6 s6 => ?_⟩
          refine ⟨_, rfl, iteF ?_⟩
          exact ⟨_, rfl, s2.trans s6⟩
      · rintro σ H2 ⟨y6, rfl, s2⟩
        refine ⟨_, _, rfl, rfl, rep40_101.1, ?_⟩
        refine ⟨List.replicate 101 40, congrArg (fun z => [V.str z]) rep40_101.2, by decide, fun e H3 he s3 d hd => ?_, fun v3 x3 H3 hv => (by rw [parse_open] at hv; cases hv)⟩
        have e1 : e = 1 := by rw [parse_open] at he; injection he with z; exact z.symm
        subst e1
        refine ⟨true, T2.xB, fun _ ae hae => ?_, fun z => nomatch z⟩
        refine ⟨_, rfl, _, .type "ValueError", true, d, _, rfl, rfl, rfl, upd_same, (fun u h => h), T2.kV, true, rfl, iteT ?_⟩
        refine ⟨_, rfl, _, .ref C, true, d, _, rfl, rfl, rfl, upd_same, (fun u h => h), T2.kC, true, rfl, iteT ?_⟩
        refine ⟨_, rfl, _, .ref D, false, d, _, rfl, rfl, rfl, upd_same, (fun u h => h), T2.kD, false, rfl, true, rfl, iteT ?_⟩
        refine ⟨_, rfl, rfl, rfl, d, _, rfl, upd_same, rfl, ?_⟩
        rw [decide_eq_true (show V.int (((List.replicate 101 40).length - 1 : Nat) : Int) = V.int 100 by rw [List.length_replicate]; rfl)]
        exact q _
end
end Kz
/-! KzEnd -/
set_option Elab.async false
set_option linter.all false
set_option maxRecDepth 100000
set_option maxHeartbeats 4000000
namespace Kz
open PySem PySem.Spec PyProof.Rows L2
open SX (S)
section
variable {P : Program} {w : World} {K : PySem.W.Frag} {mg : Str → Option Value} {base : Heap} {f : Addr} {fd : FuncData} {C fI cc D B : Addr}
theorem vt0 {ps : List Str} : FnOk P w K mg base CX0 0 f fd ps (spVT 0) := by
  have no : ∀ vs H Q E, ¬ spVT 0 vs H Q E := fun vs H Q E h => by
    obtain ⟨v, x, _, _, _, h1, _⟩ := h
    omega
  exact ⟨fun vs H Q E h => absurd h (no vs H Q E), fun A outer s H args us vs Q E _ _ _ _ h => absurd h (no vs H Q E)⟩
theorem sm0 {ps : List Str} : FnOk P w K mg base CX0 0 f fd ps (spSame 0) := by
  have no : ∀ vs H Q E, ¬ spSame 0 vs H Q E := fun vs H Q E h => by
    obtain ⟨v, x, y, _, _, _, h1, _⟩ := h
    omega
  exact ⟨fun vs H Q E h => absurd h (no vs H Q E), fun A outer s H args us vs Q E _ _ _ _ h => absurd h (no vs H Q E)⟩
theorem all_vt (T : Txt P K mg C fI cc) (F : Fun K "value_text" "value_text" sVT f fd) (b : Binds K fd ["value"] []) (m : mg "value_text" = some (.ref f)) : ∀ n : Nat, FnOk P w K mg base CX0 n f fd ["value"] (spVT n)
  | 0 => vt0
  | n + 1 => ok_vt T F b m (all_vt T F b m n)
theorem all_wr (T : Txt P K mg C fI cc) (F : Fun K "_law_write" "_law_write" sWrite f fd) (b : Binds K fd ["_law_value_here"] []) (m : mg "_law_write" = some (.ref f)) : ∀ n : Nat, FnOk P w K mg base CX0 n f fd ["_law_value_here"] (spVT n)
  | 0 => vt0
  | n + 1 => ok_wr T F b m (all_wr T F b m n)
theorem all_same (T : Txt P K mg C fI cc) (F : Fun K "_law_same" "_law_same" sSame f fd) (b : Binds K fd ["_law_actual", "_law_expected"] []) (m : mg "_law_same" = some (.ref f)) : ∀ n : Nat, FnOk P w K mg base CX0 n f fd ["_law_actual", "_law_expected"] (spSame n)
  | 0 => sm0
  | n + 1 => ok_same T F b m (all_same T F b m n)
theorem kit_self {x : Value} : PySem.W.kitOne K x x = some true := by
  unfold PySem.W.kitOne
  rw [if_pos (beq_self_eq_true x)]
theorem kit_cls_of {x : Value} {c : Addr} {b : Bool} (hd : PySem.W.hasDictIn K c = true) (ht : PySem.W.typeIn K (.ref c) = some (.type "type")) (hs : PySem.W.subIn K x (.ref c) = some b) (hx : x ≠ .ref c) : PySem.W.kitOne K x (.ref c) = some b := by
  obtain ⟨cd, hc, _⟩ := PySem.W.any_some hd
  have e2 : ((PySem.W.clsIn K c).isSome && PySem.W.typeIn K (.ref c) == some (.type "type")) = true := by rw [hc, ht] <;> rfl
  unfold PySem.W.kitOne
  rw [if_neg (fun z => hx (beq_iff_eq.mp z))]
  show (if ((PySem.W.clsIn K c).isSome && PySem.W.typeIn K (.ref c) == some (.type "type")) = true then PySem.W.subIn K x (.ref c) else none) = some b
  rw [if_pos e2]
  exact hs
theorem kit_ve {c : Addr} {b : Bool} (hs : PySem.W.subIn K (.ref c) (.type "ValueError") = some b) : PySem.W.kitOne K (.ref c) (.type "ValueError") = some b := by
  unfold PySem.W.kitOne
  rw [if_neg (show ¬ (Value.ref c == Value.type "ValueError") = true from fun z => by have y := beq_iff_eq.mp z; cases y)]
  show (if PySem.W.kitMeta "ValueError" = true then PySem.W.subIn K (.ref c) (.type "ValueError") else none) = some b
  rw [if_pos (by decide +kernel)]
  exact hs
end
theorem all_mk {l : PySem.W.OpenLaw} {w : World} {K : PySem.W.Frag} {h : Heap} {mg : Str → Option Value} {fa C D B fI cc cda : Addr} {f1 f2 f3 f4 f5 f6 f7 f8 f9 f10 f11 f12 f13 f14 f15 f16 f17 : Addr} (X : K.In h) (G : h.Ns mainGlobals mg) (hfa : mg "law" = some (.ref fa))
    {nm q2 : Str} {N : Addr} {bs : List Value} {sn : List Str} {sub : List Value} {ab : Bool} {col : Option Bool} {dd : Option Addr} {m0 m1 m2 m3 m5 : Option Value}
    {od0 an0 cld cdd : Option Addr} {sl0 csl ccs : Array (Option Value)} {oc0 dc0 pm0 ct0 cl ccl : Value} {vs : Array Value} {file : Str} {tf tD tL tM1 tM2 tM3 : Tok}
    {od1 an1 od2 an2 od3 an3 od4 an4 od5 an5 od6 an6 od7 an7 od8 an8 od9 an9 od10 an10 od11 an11 od12 an12 od13 an13 od14 an14 od15 an15 od16 an16 od17 an17 : Option Addr} {sl1 sl2 sl3 sl4 sl5 sl6 sl7 sl8 sl9 sl10 sl11 sl12 sl13 sl14 sl15 sl16 sl17 : Array (Option Value)} {oc1 kV1 dc1 pm1 cd1 ct1 oc2 kV2 dc2 pm2 cd2 ct2 oc3 kV3 dc3 pm3 cd3 ct3 oc4 kV4 dc4 pm4 cd4 ct4 oc5 kV5 dc5 pm5 cd5 ct5 oc6 kV6 dc6 pm6 cd6 ct6 oc7 kV7 dc7 pm7 cd7 ct7 oc8 kV8 dc8 pm8 cd8 ct8 oc9 kV9 dc9 pm9 cd9 ct9 oc10 kV10 dc10 pm10 cd10 ct10 oc11 kV11 dc11 pm11 cd11 ct11 oc12 kV12 dc12 pm12 cd12 ct12 oc13 kV13 dc13 pm13 cd13 ct13 oc14 kV14 dc14 pm14 cd14 ct14 oc15 kV15 dc15 pm15 cd15 ct15 oc16 kV16 dc16 pm16 cd16 ct16 oc17 kV17 dc17 pm17 cd17 ct17 : Value}
    (aC : PySem.W.nsIn K mainGlobals "BadText" = some (some (.ref C)))
    (aD : PySem.W.nsIn K mainGlobals "BadName" = some (some (.ref D)))
    (aB : PySem.W.nsIn K mainGlobals "BookError" = some (some (.ref B)))
    (aS : PySem.W.nsIn K mainGlobals "super" = some none)
    (xL : K.lookup C = some (excClassObj nm q2 C N bs [.ref B, .type "ValueError", .type "Exception", .type "BaseException", .type "object"] true sn sub ab col dd m0 m1 m2 m3 m5 "ValueError.__new__"))
    (sa : PySem.W.findIn K (.ref C) "__setattr__" = some (some (.builtin "object.__setattr__")))
    (ga : PySem.W.findIn K (.ref C) "__getattribute__" = some (some (.builtin "BaseException.__getattribute__")))
    (gg : PySem.W.findIn K (.ref C) "__getattr__" = some none)
    (nb : PySem.W.findIn K (.ref C) "at" = some none)
    (a0 : PySem.W.findIn K (.ref C) "__init__" = some (some (.ref fI)))
    (t0 : PySem.W.typeIn K (.ref fI) = some (.type "function"))
    (kC : PySem.W.keepIn K (.ref C) = true)
    (eC : PySem.W.subIn K (.ref C) (.type "BaseException") = some true)
    (vC : PySem.W.subIn K (.ref C) (.type "ValueError") = some true)
    (tC : PySem.W.typeIn K (.ref C) = some (.type "type"))
    (hC : PySem.W.hasDictIn K C = true)
    (iC : PySem.W.isClsIn K C = true)
    (sC : PySem.W.subIn K (.ref C) (.ref C) = some true)
    (sD : PySem.W.subIn K (.ref C) (.ref D) = some false)
    (sB : PySem.W.subIn K (.ref C) (.ref B) = some true)
    (mC : PySem.W.mroIn K C (.ref C) = some true)
    (su : PySem.W.ks_superIn K C C "__init__" = some (some (.builtin "ValueError.__init__")))
    (opq : PySem.W.nsIn K cStatics "thirdparty.any" = some none)
    (l0 : K.lookup fI = some ⟨oc0, od0, .func (PySem.W.ksFn "__init__" "BadText.__init__" (KzX.xA "at" ⟨11, 17, 11, 21⟩ ⟨11, 23, 11, 25⟩) (KzX.xB "at" "the text is not written in the right form" ⟨12, 8, 12, 13⟩ ⟨12, 8, 12, 15⟩ ⟨12, 25, 12, 68⟩ ⟨12, 8, 12, 69⟩ ⟨13, 8, 13, 12⟩ ⟨13, 8, 13, 15⟩ ⟨13, 18, 13, 20⟩ ⟨13, 8, 13, 20⟩) (KzX.xS "at") .none .none dc0 pm0 an0 (.ref cda) ct0 cc), sl0⟩)
    (c0 : PySem.W.codeIn K (.ref cda) "BadText.__init__" = true)
    (lcd : K.lookup cda = some ⟨ccl, cdd, .fields vs, ccs⟩)
    (lv : vs[2]? = some (.str file tf))
    (lf : ((l.prog.main.file : Str) == file) = true)
    (lc : K.lookup cc = some ⟨cl, cld, .cell (some (.ref C)), csl⟩)
    (tp : (l.prog.main.scope.names.lookup ("super" : Str)).isSome = false)
    (eD : PySem.W.subIn K (.ref D) (.type "BaseException") = some true)
    (hD : PySem.W.hasDictIn K D = true)
    (tyD : PySem.W.typeIn K (.ref D) = some (.type "type"))
    (eB : PySem.W.subIn K (.ref B) (.type "BaseException") = some true)
    (hB : PySem.W.hasDictIn K B = true)
    (tB : PySem.W.typeIn K (.ref B) = some (.type "type"))
    (xa : PySem.W.findIn K (.ref C) "__class__" = some (some (.builtin "object.__class__")))
    (xn : PySem.W.specialIn K (.builtin "object.__class__") "__get__" = some (some (.builtin "getset_descriptor.__get__")))
    (xt : PySem.W.takesIn K (.builtin "object.__class__") = some true)
    (xm : PySem.W.mroIn K C (.type "object") = some true)
    (g1 : PySem.W.nsIn K mainGlobals "DIGITS" = some (some (.str "0123456789" tD)))
    (g2 : PySem.W.nsIn K mainGlobals "LETTERS" = some (some (.str "abcdefghijklmnopqrstuvwxyz" tL)))
    (g3 : PySem.W.nsIn K mainGlobals "MOST_DIGITS" = some (some (.int 200 tM1)))
    (g4 : PySem.W.nsIn K mainGlobals "MOST_LETTERS" = some (some (.int 20 tM2)))
    (g5 : PySem.W.nsIn K mainGlobals "MOST_DEEP" = some (some (.int 100 tM3)))
    (z1 : PySem.W.nsIn K mainGlobals "len" = some none)
    (z2 : PySem.W.nsIn K mainGlobals "int" = some none)
    (z3 : PySem.W.nsIn K mainGlobals "tuple" = some none)
    (z4 : PySem.W.nsIn K mainGlobals "str" = some none)
    (z5 : PySem.W.nsIn K mainGlobals "isinstance" = some none)
    (z6 : PySem.W.nsIn K mainGlobals "range" = some none)
    (z7 : PySem.W.nsIn K mainGlobals "bool" = some none)
    (z8 : PySem.W.nsIn K mainGlobals "abs" = some none)
    (z9 : PySem.W.nsIn K mainGlobals "ValueError" = some none)
    (a1 : PySem.W.nsIn K mainGlobals "value_text" = some (some (.ref f1)))
    (l1 : K.lookup f1 = some ⟨oc1, od1, .func (PySem.W.fnOf "value_text" "value_text" (defArgs sVT) (defBody sVT) (defScope sVT) .none kV1 dc1 pm1 an1 cd1 ct1), sl1⟩)
    (c1 : PySem.W.codeIn K cd1 "value_text" = true)
    (k1 : PySem.W.keepIn K (.ref f1) = true)
    (a2 : PySem.W.nsIn K mainGlobals "read_value" = some (some (.ref f2)))
    (l2 : K.lookup f2 = some ⟨oc2, od2, .func (PySem.W.fnOf "read_value" "read_value" (defArgs sRV) (defBody sRV) (defScope sRV) .none kV2 dc2 pm2 an2 cd2 ct2), sl2⟩)
    (c2 : PySem.W.codeIn K cd2 "read_value" = true)
    (k2 : PySem.W.keepIn K (.ref f2) = true)
    (a3 : PySem.W.nsIn K mainGlobals "next_part" = some (some (.ref f3)))
    (l3 : K.lookup f3 = some ⟨oc3, od3, .func (PySem.W.fnOf "next_part" "next_part" (defArgs sNP) (defBody sNP) (defScope sNP) .none kV3 dc3 pm3 an3 cd3 ct3), sl3⟩)
    (c3 : PySem.W.codeIn K cd3 "next_part" = true)
    (k3 : PySem.W.keepIn K (.ref f3) = true)
    (a4 : PySem.W.nsIn K mainGlobals "value_start" = some (some (.ref f4)))
    (l4 : K.lookup f4 = some ⟨oc4, od4, .func (PySem.W.fnOf "value_start" "value_start" (defArgs sVS) (defBody sVS) (defScope sVS) .none kV4 dc4 pm4 an4 cd4 ct4), sl4⟩)
    (c4 : PySem.W.codeIn K cd4 "value_start" = true)
    (k4 : PySem.W.keepIn K (.ref f4) = true)
    (a5 : PySem.W.nsIn K mainGlobals "number_end" = some (some (.ref f5)))
    (l5 : K.lookup f5 = some ⟨oc5, od5, .func (PySem.W.fnOf "number_end" "number_end" (defArgs sNE) (defBody sNE) (defScope sNE) .none kV5 dc5 pm5 an5 cd5 ct5), sl5⟩)
    (c5 : PySem.W.codeIn K cd5 "number_end" = true)
    (k5 : PySem.W.keepIn K (.ref f5) = true)
    (a6 : PySem.W.nsIn K mainGlobals "end_of" = some (some (.ref f6)))
    (l6 : K.lookup f6 = some ⟨oc6, od6, .func (PySem.W.fnOf "end_of" "end_of" (defArgs sEO) (defBody sEO) (defScope sEO) .none kV6 dc6 pm6 an6 cd6 ct6), sl6⟩)
    (c6 : PySem.W.codeIn K cd6 "end_of" = true)
    (k6 : PySem.W.keepIn K (.ref f6) = true)
    (a7 : PySem.W.nsIn K mainGlobals "_law_cell" = some (some (.ref f7)))
    (l7 : K.lookup f7 = some ⟨oc7, od7, .func (PySem.W.fnOf "_law_cell" "_law_cell" (defArgs sCell) (defBody sCell) (defScope sCell) .none kV7 dc7 pm7 an7 cd7 ct7), sl7⟩)
    (c7 : PySem.W.codeIn K cd7 "_law_cell" = true)
    (k7 : PySem.W.keepIn K (.ref f7) = true)
    (a8 : PySem.W.nsIn K mainGlobals "_law_draws" = some (some (.ref f8)))
    (l8 : K.lookup f8 = some ⟨oc8, od8, .func (PySem.W.fnOf "_law_draws" "_law_draws" (defArgs sDraws) (defBody sDraws) (defScope sDraws) .none kV8 dc8 pm8 an8 cd8 ct8), sl8⟩)
    (c8 : PySem.W.codeIn K cd8 "_law_draws" = true)
    (k8 : PySem.W.keepIn K (.ref f8) = true)
    (a9 : PySem.W.nsIn K mainGlobals "_law_word" = some (some (.ref f9)))
    (l9 : K.lookup f9 = some ⟨oc9, od9, .func (PySem.W.fnOf "_law_word" "_law_word" (defArgs sWord) (defBody sWord) (defScope sWord) .none kV9 dc9 pm9 an9 cd9 ct9), sl9⟩)
    (c9 : PySem.W.codeIn K cd9 "_law_word" = true)
    (k9 : PySem.W.keepIn K (.ref f9) = true)
    (a10 : PySem.W.nsIn K mainGlobals "_law_value" = some (some (.ref f10)))
    (l10 : K.lookup f10 = some ⟨oc10, od10, .func (PySem.W.fnOf "_law_value" "_law_value" (defArgs sValue) (defBody sValue) (defScope sValue) .none kV10 dc10 pm10 an10 cd10 ct10), sl10⟩)
    (c10 : PySem.W.codeIn K cd10 "_law_value" = true)
    (k10 : PySem.W.keepIn K (.ref f10) = true)
    (a11 : PySem.W.nsIn K mainGlobals "_law_write" = some (some (.ref f11)))
    (l11 : K.lookup f11 = some ⟨oc11, od11, .func (PySem.W.fnOf "_law_write" "_law_write" (defArgs sWrite) (defBody sWrite) (defScope sWrite) .none kV11 dc11 pm11 an11 cd11 ct11), sl11⟩)
    (c11 : PySem.W.codeIn K cd11 "_law_write" = true)
    (k11 : PySem.W.keepIn K (.ref f11) = true)
    (a12 : PySem.W.nsIn K mainGlobals "_law_same" = some (some (.ref f12)))
    (l12 : K.lookup f12 = some ⟨oc12, od12, .func (PySem.W.fnOf "_law_same" "_law_same" (defArgs sSame) (defBody sSame) (defScope sSame) .none kV12 dc12 pm12 an12 cd12 ct12), sl12⟩)
    (c12 : PySem.W.codeIn K cd12 "_law_same" = true)
    (k12 : PySem.W.keepIn K (.ref f12) = true)
    (a13 : PySem.W.nsIn K mainGlobals "_law_step" = some (some (.ref f13)))
    (l13 : K.lookup f13 = some ⟨oc13, od13, .func (PySem.W.fnOf "_law_step" "_law_step" (defArgs sStep) (defBody sStep) (defScope sStep) .none kV13 dc13 pm13 an13 cd13 ct13), sl13⟩)
    (c13 : PySem.W.codeIn K cd13 "_law_step" = true)
    (k13 : PySem.W.keepIn K (.ref f13) = true)
    (a14 : PySem.W.nsIn K mainGlobals "_law_due" = some (some (.ref f14)))
    (l14 : K.lookup f14 = some ⟨oc14, od14, .func (PySem.W.fnOf "_law_due" "_law_due" (defArgs sDue) (defBody sDue) (defScope sDue) .none kV14 dc14 pm14 an14 cd14 ct14), sl14⟩)
    (c14 : PySem.W.codeIn K cd14 "_law_due" = true)
    (k14 : PySem.W.keepIn K (.ref f14) = true)
    (a15 : PySem.W.nsIn K mainGlobals "_law_spoilt" = some (some (.ref f15)))
    (l15 : K.lookup f15 = some ⟨oc15, od15, .func (PySem.W.fnOf "_law_spoilt" "_law_spoilt" (defArgs sSpoilt) (defBody sSpoilt) (defScope sSpoilt) .none kV15 dc15 pm15 an15 cd15 ct15), sl15⟩)
    (c15 : PySem.W.codeIn K cd15 "_law_spoilt" = true)
    (k15 : PySem.W.keepIn K (.ref f15) = true)
    (a16 : PySem.W.nsIn K mainGlobals "_law_read_as_due" = some (some (.ref f16)))
    (l16 : K.lookup f16 = some ⟨oc16, od16, .func (PySem.W.fnOf "_law_read_as_due" "_law_read_as_due" (defArgs sRead) (defBody sRead) (defScope sRead) .none kV16 dc16 pm16 an16 cd16 ct16), sl16⟩)
    (c16 : PySem.W.codeIn K cd16 "_law_read_as_due" = true)
    (k16 : PySem.W.keepIn K (.ref f16) = true)
    (a17 : PySem.W.nsIn K mainGlobals "law" = some (some (.ref f17)))
    (l17 : K.lookup f17 = some ⟨oc17, od17, .func (PySem.W.fnOf "law" "law" (defArgs sLaw) (defBody sLaw) (defScope sLaw) .none kV17 dc17 pm17 an17 cd17 ct17), sl17⟩)
    (c17 : PySem.W.codeIn K cd17 "law" = true)
    (k17 : PySem.W.keepIn K (.ref f17) = true)
    : ∃ fd : FuncData, (∀ (s : Shared) (v : Value), BindsTo s fd ⟨[v], []⟩ [("_law_script", v)]) ∧ ∀ base : Heap, K.In base → base.Ns mainGlobals mg → FnOk l.prog w K mg base CX0 103 fa fd ["_law_script"] (spLaw K) := by
  have e := hfa.symm.trans (PySem.W.mg_of X G a17)
  cases e
  have XT : KzX.XT l.prog K mg "BadText" "at" C fI cc :=
    { gC := PySem.W.mg_of X G aC, gS := PySem.W.mg_none_of X G aS, cls := ⟨nm, q2, N, bs, _, sn, sub, ab, col, dd, m0, m1, m2, m3, m5, xL, rfl⟩, sa := sa, ga := ga, gg := gg, noF := nb, iC := a0, tI := t0, kC := kC, exC := eC, veC := vC, tyC := tC, hdC := hC, mrC := mC, suC := su, opq := opq, top := tp,
      fn := ⟨_, _, _, _, _, _, _, cda, _, _, _, _, _, _, _, _, _, _, _, _, l0, c0, _, _, _, _, _, _, lcd, lv, lf⟩, cell := ⟨_, _, _, lc⟩ }
  have T : Txt l.prog K mg C fI cc :=
    { err := XT, mgD := ⟨tD, by rw [← lit_09]; exact PySem.W.mg_of X G g1⟩, mgL := ⟨tL, by rw [← lit_letters]; exact PySem.W.mg_of X G g2⟩, mgMD := ⟨_, PySem.W.mg_of X G g3⟩, mgML := ⟨_, PySem.W.mg_of X G g4⟩, mgMP := ⟨_, PySem.W.mg_of X G g5⟩,
      mlen := PySem.W.mg_none_of X G z1, mint := PySem.W.mg_none_of X G z2, mtup := PySem.W.mg_none_of X G z3, mstr := PySem.W.mg_none_of X G z4, misi := PySem.W.mg_none_of X G z5, mran := PySem.W.mg_none_of X G z6, mboo := PySem.W.mg_none_of X G z7, mabs := PySem.W.mg_none_of X G z8 }
  have nCD : (Value.ref C) ≠ Value.ref D := fun z => by
    rw [← z, sC] at sD
    cases sD
  have T2 : Txt2 l.prog K mg C D B :=
    { gD := PySem.W.mg_of X G aD, gB := PySem.W.mg_of X G aB, xD := PySem.W.exm_ref eD hD tyD sD, xC := PySem.W.exm_ref eC hC tC sC, xB := PySem.W.exm_ref eB hB tB sB,
      exc := ⟨ga, gg, eC, hC, xa, xn, xt, xm⟩, kV := kit_ve vC, kC := kit_self, kD := kit_cls_of hD tyD sD nCD, mVE := PySem.W.mg_none_of X G z9 }
  have F1 := fun_mk (st := sVT) l1 c1 k1
  have b1 := F1.binds (ps := ["value"]) fun _ _ _ _ _ _ us hl => match us, hl with | [_], _ => rfl
  have m1 := PySem.W.mg_of X G a1
  have F2 := fun_mk (st := sRV) l2 c2 k2
  have b2 := F2.binds (ps := ["text"]) fun _ _ _ _ _ _ us hl => match us, hl with | [_], _ => rfl
  have m2 := PySem.W.mg_of X G a2
  have F3 := fun_mk (st := sNP) l3 c3 k3
  have b3 := F3.binds (ps := ["text", "at", "rows"]) fun _ _ _ _ _ _ us hl => match us, hl with | [_, _, _], _ => rfl
  have m3 := PySem.W.mg_of X G a3
  have F4 := fun_mk (st := sVS) l4 c4 k4
  have b4 := F4.binds (ps := ["text", "at", "rows"]) fun _ _ _ _ _ _ us hl => match us, hl with | [_, _, _], _ => rfl
  have m4 := PySem.W.mg_of X G a4
  have F5 := fun_mk (st := sNE) l5 c5 k5
  have b5 := F5.binds (ps := ["text", "at"]) fun _ _ _ _ _ _ us hl => match us, hl with | [_, _], _ => rfl
  have m5 := PySem.W.mg_of X G a5
  have F6 := fun_mk (st := sEO) l6 c6 k6
  have b6 := F6.binds (ps := ["text", "at", "letters", "most"]) fun _ _ _ _ _ _ us hl => match us, hl with | [_, _, _, _], _ => rfl
  have m6 := PySem.W.mg_of X G a6
  have F7 := fun_mk (st := sCell) l7 c7 k7
  have b7 := F7.binds (ps := ["_law_script", "_law_k"]) fun _ _ _ _ _ _ us hl => match us, hl with | [_, _], _ => rfl
  have m7 := PySem.W.mg_of X G a7
  have F8 := fun_mk (st := sDraws) l8 c8 k8
  have b8 := F8.binds (ps := ["_law_cell_here", "_law_many"]) fun _ _ _ _ _ _ us hl => match us, hl with | [_, _], _ => rfl
  have m8 := PySem.W.mg_of X G a8
  have F9 := fun_mk (st := sWord) l9 c9 k9
  have b9 := F9.binds (ps := ["_law_cell_here"]) fun _ _ _ _ _ _ us hl => match us, hl with | [_], _ => rfl
  have m9 := PySem.W.mg_of X G a9
  have F10 := fun_mk (st := sValue) l10 c10 k10
  have b10 := F10.binds (ps := ["_law_script"]) fun _ _ _ _ _ _ us hl => match us, hl with | [_], _ => rfl
  have m10 := PySem.W.mg_of X G a10
  have F11 := fun_mk (st := sWrite) l11 c11 k11
  have b11 := F11.binds (ps := ["_law_value_here"]) fun _ _ _ _ _ _ us hl => match us, hl with | [_], _ => rfl
  have m11 := PySem.W.mg_of X G a11
  have F12 := fun_mk (st := sSame) l12 c12 k12
  have b12 := F12.binds (ps := ["_law_actual", "_law_expected"]) fun _ _ _ _ _ _ us hl => match us, hl with | [_, _], _ => rfl
  have m12 := PySem.W.mg_of X G a12
  have F13 := fun_mk (st := sStep) l13 c13 k13
  have b13 := F13.binds (ps := ["_law_state", "_law_sign"]) fun _ _ _ _ _ _ us hl => match us, hl with | [_, _], _ => rfl
  have m13 := PySem.W.mg_of X G a13
  have F14 := fun_mk (st := sDue) l14 c14 k14
  have b14 := F14.binds (ps := ["_law_text"]) fun _ _ _ _ _ _ us hl => match us, hl with | [_], _ => rfl
  have m14 := PySem.W.mg_of X G a14
  have F15 := fun_mk (st := sSpoilt) l15 c15 k15
  have b15 := F15.binds (ps := ["_law_text", "_law_cell_here"]) fun _ _ _ _ _ _ us hl => match us, hl with | [_, _], _ => rfl
  have m15 := PySem.W.mg_of X G a15
  have F16 := fun_mk (st := sRead) l16 c16 k16
  have b16 := F16.binds (ps := ["_law_text"]) fun _ _ _ _ _ _ us hl => match us, hl with | [_], _ => rfl
  have m16 := PySem.W.mg_of X G a16
  have F17 := fun_mk (st := sLaw) l17 c17 k17
  have b17 := F17.binds (ps := ["_law_script"]) fun _ _ _ _ _ _ us hl => match us, hl with | [_], _ => rfl
  have m17 := PySem.W.mg_of X G a17
  refine ⟨PySem.W.fnOf "law" "law" (defArgs sLaw) (defBody sLaw) (defScope sLaw) .none kV17 dc17 pm17 an17 cd17 ct17, fun s v => .of_eq rfl, fun base _ _ => ?_⟩
  have GVT := all_vt (P := l.prog) (w := w) (base := base) T F1 b1 m1 101
  have GW := all_wr (P := l.prog) (w := w) (base := base) T F11 b11 m11 101
  have GS := all_same (P := l.prog) (w := w) (base := base) T F12 b12 m12 101
  have GR := ok_rv (P := l.prog) (w := w) (base := base) T F2 F6 b6 m6 F5 b5 m5 F4 b4 m4 F3 b3 m3
  have GV := ok_value (P := l.prog) (w := w) (base := base) T F10 F8 b8 m8 F9 b9 m9 F7 b7 m7
  have GC : FnOk l.prog w K mg base CX0 1 f7 _ ["_law_script", "_law_k"] (spCell K) := ok_cell (P := l.prog) (w := w) (base := base) T F7
  have GP : FnOk l.prog w K mg base CX0 1 f15 _ ["_law_text", "_law_cell_here"] spSpoilt := ok_spoilt (P := l.prog) (w := w) (base := base) T F15
  have GU := ok_due (P := l.prog) (w := w) (base := base) T F14 F13 b13 m13
  have GD := ok_read (P := l.prog) (w := w) (base := base) T T2 F16 GU k14 b14 m14 GR k2 b2 m2 GW k11 b11 m11 GS k12 b12 m12
  exact ok_law (P := l.prog) (w := w) (base := base) T T2 F17 GV k10 b10 m10 GVT k1 b1 m1 GR k2 b2 m2 GW k11 b11 m11 GS k12 b12 m12 GC k7 b7 m7 GP k15 b15 m15 GD k16 b16 m16
end Kz
/-! KzFin -/
set_option Elab.async false
set_option maxRecDepth 100000
open PySem PySem.W PyProof.Rows
set_option maxHeartbeats 0 in
theorem PySem.Challenge.cw_papersorliars_k00_value_texts_holds : PySem.Challenge.rw_papersorliars_k00_value_texts.Holds := by
  w_on; o_law; k_head; (case hw => w_witness2)
  k_fill
  refine L2.walk_ofB (l := PySem.Challenge.rw_papersorliars_k00_value_texts) (n := 63) (k := 103) (x := "_law_script") (CX := fun _ => L2.CX0) (sp := fun w => Kz.spLaw _) rfl (by decide) rfl ⟨rfl, by decide, by decide⟩ (fun w h Y => PySem.W.kIn_of Y) ?F (fun _ _ a ns hl _ _ hS => ⟨a, ns, rfl, hS, hl, fun _ => rfl⟩) (fun _ _ _ _ _ h => h)
  case F =>
    intro w mg fa h KX G hmg
    refine' Kz.all_mk KX G hmg ?aC ?aD ?aB ?aS ?xL ?sa ?ga ?gg ?nb ?a0 ?t0 ?kC ?eC ?vC ?tC ?hC ?iC ?sC ?sD ?sB ?mC ?su ?opq ?l0 ?c0 ?lcd ?lv ?lf ?lc ?tp ?eD ?hD ?tyD ?eB ?hB ?tB ?xa ?xn ?xt ?xm ?g1 ?g2 ?g3 ?g4 ?g5 ?z1 ?z2 ?z3 ?z4 ?z5 ?z6 ?z7 ?z8 ?z9 ?a1 ?l1 ?c1 ?k1 ?a2 ?l2 ?c2 ?k2 ?a3 ?l3 ?c3 ?k3 ?a4 ?l4 ?c4 ?k4 ?a5 ?l5 ?c5 ?k5 ?a6 ?l6 ?c6 ?k6 ?a7 ?l7 ?c7 ?k7 ?a8 ?l8 ?c8 ?k8 ?a9 ?l9 ?c9 ?k9 ?a10 ?l10 ?c10 ?k10 ?a11 ?l11 ?c11 ?k11 ?a12 ?l12 ?c12 ?k12 ?a13 ?l13 ?c13 ?k13 ?a14 ?l14 ?c14 ?k14 ?a15 ?l15 ?c15 ?k15 ?a16 ?l16 ?c16 ?k16 ?a17 ?l17 ?c17 ?k17
    (case aC => k_is)
    (case aD => k_is)
    (case aB => k_is)
    (case aS => k_is)
    (case xL => k_is)
    (case sa => k_is)
    (case ga => k_is)
    (case gg => k_is)
    (case nb => k_is)
    (case a0 => k_is)
    (case t0 => k_is)
    (case kC => k_is)
    (case eC => k_is)
    (case vC => k_is)
    (case tC => k_is)
    (case hC => k_is)
    (case iC => k_is)
    (case sC => first | rfl | k_is)
    (case sD => k_is)
    (case sB => k_is)
    (case mC => k_is)
    (case su => ks_is)
    (case opq => k_is)
    (case l0 => k_is)
    (case c0 => k_is)
    (case lcd => k_is)
    (case lv => first | rfl | decide | kernel_rfl)
    (case lf => first | rfl | decide | kernel_rfl)
    (case lc => k_is)
    (case tp => first | rfl | decide | kernel_rfl)
    (case eD => k_is)
    (case hD => k_is)
    (case tyD => k_is)
    (case eB => k_is)
    (case hB => k_is)
    (case tB => k_is)
    (case xa => k_is)
    (case xn => k_is)
    (case xt => k_is)
    (case xm => k_is)
    (case g1 => k_is)
    (case g2 => k_is)
    (case g3 => k_is)
    (case g4 => k_is)
    (case g5 => k_is)
    (case z1 => k_is)
    (case z2 => k_is)
    (case z3 => k_is)
    (case z4 => k_is)
    (case z5 => k_is)
    (case z6 => k_is)
    (case z7 => k_is)
    (case z8 => k_is)
    (case z9 => k_is)
    (case a1 => k_is)
    (case l1 => k_is)
    (case c1 => k_is)
    (case k1 => k_is)
    (case a2 => k_is)
    (case l2 => k_is)
    (case c2 => k_is)
    (case k2 => k_is)
    (case a3 => k_is)
    (case l3 => k_is)
    (case c3 => k_is)
    (case k3 => k_is)
    (case a4 => k_is)
    (case l4 => k_is)
    (case c4 => k_is)
    (case k4 => k_is)
    (case a5 => k_is)
    (case l5 => k_is)
    (case c5 => k_is)
    (case k5 => k_is)
    (case a6 => k_is)
    (case l6 => k_is)
    (case c6 => k_is)
    (case k6 => k_is)
    (case a7 => k_is)
    (case l7 => k_is)
    (case c7 => k_is)
    (case k7 => k_is)
    (case a8 => k_is)
    (case l8 => k_is)
    (case c8 => k_is)
    (case k8 => k_is)
    (case a9 => k_is)
    (case l9 => k_is)
    (case c9 => k_is)
    (case k9 => k_is)
    (case a10 => k_is)
    (case l10 => k_is)
    (case c10 => k_is)
    (case k10 => k_is)
    (case a11 => k_is)
    (case l11 => k_is)
    (case c11 => k_is)
    (case k11 => k_is)
    (case a12 => k_is)
    (case l12 => k_is)
    (case c12 => k_is)
    (case k12 => k_is)
    (case a13 => k_is)
    (case l13 => k_is)
    (case c13 => k_is)
    (case k13 => k_is)
    (case a14 => k_is)
    (case l14 => k_is)
    (case c14 => k_is)
    (case k14 => k_is)
    (case a15 => k_is)
    (case l15 => k_is)
    (case c15 => k_is)
    (case k15 => k_is)
    (case a16 => k_is)
    (case l16 => k_is)
    (case c16 => k_is)
    (case k16 => k_is)
    (case a17 => k_is)
    (case l17 => k_is)
    (case c17 => k_is)
    (case k17 => k_is)
