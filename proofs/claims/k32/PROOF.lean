import PyProof.Rows.All
import Wide.All
import OpenK.AllK
import Wide.FinOn
import HandS.ForMost
import HandS.WordsExc
import HandS.Sort
import HandS.SortRule
import HandS.ExcInit
import HandS.ExcIs
import HandS.ExcField
import HandS.IsInst
import HandS.Conv
import HandS.Codes
import HandS.ClsMeth
import HandS.Property
import HandS.TupSets
import HandS.DictComp
import HandS.Evl
import KE.KEqSeq
import HandS.Wide
import HandS.Walk
import HandS.Iter
import PySem.Challenge.RW_pullstore_k32_disks_cut_anywhere
section
set_option Elab.async false
set_option linter.all false
namespace K32
/-- the frames of a log, the first of them at index k -/
def frs : Int → List Int → List Int
  | _, [] => []
  | k, e :: r => k :: e :: (-1 - e) :: frs (k + 1) r
/-- the entries that are read, the first of them at index k -/
def rd : Int → List Int → List Int
  | k, a :: b :: c :: r => if a = k ∧ 0 ≤ b ∧ c = -1 - b then b :: rd (k + 1) r else []
  | _, _ => []
def bg (k : Int) : List Int → Bool
  | [a, b, c] => decide (a = k) && (decide (0 ≤ b) && decide (c = -1 - b))
  | _ => false
theorem frs_len : ∀ (k : Int) (es : List Int), (frs k es).length = 3 * es.length
  | _, [] => rfl
  | k, e :: r => by
    show (frs (k + 1) r).length + 1 + 1 + 1 = 3 * (r.length + 1)
    rw [frs_len (k + 1) r]
    omega
theorem frs_app : ∀ (k : Int) (es fs : List Int), frs k (es ++ fs) = frs k es ++ frs (k + (es.length : Int)) fs
  | k, [], fs => by
    show frs k fs = frs (k + ((0 : Nat) : Int)) fs
    congr 1
    omega
  | k, e :: r, fs => by
    show k :: e :: (-1 - e) :: frs (k + 1) (r ++ fs) = k :: e :: (-1 - e) :: (frs (k + 1) r ++ frs (k + ((r.length + 1 : Nat) : Int)) fs)
    rw [frs_app (k + 1) r fs]
    congr 5
    omega
theorem frs_snoc (es : List Int) (e : Int) : frs 0 (es ++ [e]) = frs 0 es ++ [(es.length : Int), e, -1 - e] := by
  rw [frs_app]
  show frs 0 es ++ [0 + (es.length : Int), e, -1 - e] = _
  rw [Int.zero_add]
theorem rd_short {k : Int} {cs : List Int} (h : cs.length < 3) : rd k cs = [] := by
  match cs, h with
  | [], _ => rfl
  | [_], _ => rfl
  | [_, _], _ => rfl
  | _ :: _ :: _ :: _, h => simp at h; omega
theorem rd_yes {k a b c : Int} {r : List Int} (h : a = k ∧ 0 ≤ b ∧ c = -1 - b) : rd k (a :: b :: c :: r) = b :: rd (k + 1) r := by
  show (if a = k ∧ 0 ≤ b ∧ c = -1 - b then b :: rd (k + 1) r else []) = _
  rw [if_pos h]
theorem rd_no {k a b c : Int} {r : List Int} (h : ¬ (a = k ∧ 0 ≤ b ∧ c = -1 - b)) : rd k (a :: b :: c :: r) = [] := by
  show (if a = k ∧ 0 ≤ b ∧ c = -1 - b then b :: rd (k + 1) r else []) = _
  rw [if_neg h]
theorem rd_le : ∀ (n : Nat) (k : Int) (cs : List Int), cs.length ≤ n → 3 * (rd k cs).length ≤ cs.length
  | _, k, [], _ => Nat.le_refl _
  | _, k, [_], _ => Nat.zero_le _
  | _, k, [_, _], _ => Nat.zero_le _
  | 0, k, _ :: _ :: _ :: r, h => by simp at h
  | n + 1, k, a :: b :: c :: r, h => by
    have h1 : r.length ≤ n := by simp at h; omega
    by_cases q : a = k ∧ 0 ≤ b ∧ c = -1 - b
    · rw [rd_yes q]
      have := rd_le n (k + 1) r h1
      simp
      omega
    · rw [rd_no q]
      exact Nat.zero_le _
theorem rd_len (k : Int) (cs : List Int) : 3 * (rd k cs).length ≤ cs.length := rd_le _ k cs (Nat.le_refl _)
theorem rd_pos0 : ∀ (n : Nat) (k : Int) (cs : List Int), cs.length ≤ n → ∀ e ∈ rd k cs, 0 ≤ e
  | _, k, [], _, e, h => nomatch h
  | _, k, [_], _, e, h => nomatch h
  | _, k, [_, _], _, e, h => nomatch h
  | 0, k, _ :: _ :: _ :: r, h, _, _ => by simp at h
  | n + 1, k, a :: b :: c :: r, h, e, he => by
    have h1 : r.length ≤ n := by simp at h; omega
    by_cases q : a = k ∧ 0 ≤ b ∧ c = -1 - b
    · rw [rd_yes q] at he
      cases he with
      | head => exact q.2.1
      | tail _ u => exact rd_pos0 n (k + 1) r h1 e u
    · rw [rd_no q] at he
      cases he
theorem rd_pos {k : Int} {cs : List Int} : ∀ e ∈ rd k cs, 0 ≤ e := rd_pos0 _ k cs (Nat.le_refl _)
theorem take_rd0 : ∀ (n : Nat) (k : Int) (cs : List Int), cs.length ≤ n → cs.take (3 * (rd k cs).length) = frs k (rd k cs)
  | _, k, [], _ => rfl
  | _, k, [_], _ => rfl
  | _, k, [_, _], _ => rfl
  | 0, k, _ :: _ :: _ :: r, h => by simp at h
  | n + 1, k, a :: b :: c :: r, h => by
    have h1 : r.length ≤ n := by simp at h; omega
    by_cases q : a = k ∧ 0 ≤ b ∧ c = -1 - b
    · rw [rd_yes q]
      show (a :: b :: c :: r).take (3 * ((rd (k + 1) r).length + 1)) = k :: b :: (-1 - b) :: frs (k + 1) (rd (k + 1) r)
      rw [show 3 * ((rd (k + 1) r).length + 1) = 3 * (rd (k + 1) r).length + 1 + 1 + 1 from by omega]
      rw [List.take_succ_cons, List.take_succ_cons, List.take_succ_cons, take_rd0 n (k + 1) r h1, q.1, q.2.2]
    · rw [rd_no q]
      rfl
theorem take_rd (k : Int) (cs : List Int) : cs.take (3 * (rd k cs).length) = frs k (rd k cs) := take_rd0 _ k cs (Nat.le_refl _)
theorem rd_frs_app : ∀ (k : Int) (es cs : List Int), (∀ e ∈ es, 0 ≤ e) → rd k (frs k es ++ cs) = es ++ rd (k + (es.length : Int)) cs
  | k, [], cs, _ => by
    show rd k cs = rd (k + ((0 : Nat) : Int)) cs
    congr 1
    omega
  | k, e :: r, cs, h => by
    show rd k (k :: e :: (-1 - e) :: (frs (k + 1) r ++ cs)) = e :: (r ++ rd (k + ((r.length + 1 : Nat) : Int)) cs)
    rw [rd_yes ⟨rfl, h e (List.mem_cons_self ..), rfl⟩, rd_frs_app (k + 1) r cs (fun x hx => h x (List.mem_cons_of_mem _ hx))]
    congr 3
    omega
theorem rd_frs {k : Int} {es : List Int} (h : ∀ e ∈ es, 0 ≤ e) : rd k (frs k es) = es := by
  have := rd_frs_app k es [] h
  rw [List.append_nil] at this
  rw [this, rd_short (by simp), List.append_nil]
theorem rd_take : ∀ (k : Int) (es : List Int) (n : Nat), (∀ e ∈ es, 0 ≤ e) → rd k ((frs k es).take n) = es.take (n / 3)
  | k, [], n, _ => by
    show rd k ([].take n) = _
    rw [List.take_nil, List.take_nil]
    rfl
  | k, e :: r, 0, _ => rfl
  | k, e :: r, 1, _ => rfl
  | k, e :: r, 2, _ => rfl
  | k, e :: r, n + 3, h => by
    show rd k ((k :: e :: (-1 - e) :: frs (k + 1) r).take (n + 1 + 1 + 1)) = _
    rw [List.take_succ_cons, List.take_succ_cons, List.take_succ_cons, rd_yes ⟨rfl, h e (List.mem_cons_self ..), rfl⟩, rd_take (k + 1) r n (fun x hx => h x (List.mem_cons_of_mem _ hx))]
    rw [show (n + 3) / 3 = n / 3 + 1 from by omega, List.take_succ_cons]
theorem rd_set : ∀ (k : Int) (es : List Int) (n : Nat) (v o : Int), (∀ e ∈ es, 0 ≤ e) → (frs k es)[n]? = some o → v ≠ o → rd k ((frs k es).take n ++ [v] ++ (frs k es).drop (n + 1)) = es.take (n / 3)
  | k, [], n, v, o, _, h, _ => by cases h
  | k, e :: r, 0, v, o, _, h, ne => by
    have : k = o := Option.some.inj h
    exact rd_no fun q => ne (q.1.trans this)
  | k, e :: r, 1, v, o, _, h, ne => by
    have : e = o := Option.some.inj h
    exact rd_no fun q => ne (by omega)
  | k, e :: r, 2, v, o, _, h, ne => by
    have : -1 - e = o := Option.some.inj h
    exact rd_no fun q => ne (by omega)
  | k, e :: r, n + 3, v, o, hp, h, ne => by
    show rd k ((k :: e :: (-1 - e) :: frs (k + 1) r).take (n + 1 + 1 + 1) ++ [v] ++ (k :: e :: (-1 - e) :: frs (k + 1) r).drop (n + 1 + 1 + 1 + 1)) = _
    rw [List.take_succ_cons, List.take_succ_cons, List.take_succ_cons, List.drop_succ_cons, List.drop_succ_cons, List.drop_succ_cons]
    show rd k (k :: e :: (-1 - e) :: ((frs (k + 1) r).take n ++ [v] ++ (frs (k + 1) r).drop (n + 1))) = _
    rw [rd_yes ⟨rfl, hp e (List.mem_cons_self ..), rfl⟩, rd_set (k + 1) r n v o (fun x hx => hp x (List.mem_cons_of_mem _ hx)) h ne]
    rw [show (n + 3) / 3 = n / 3 + 1 from by omega, List.take_succ_cons]
theorem take_due {cs log : List Int} (h : rd 0 cs = log) : cs.take (3 * log.length) = frs 0 log := by
  rw [← h]
  exact take_rd 0 cs
theorem rd_due {log : List Int} (e : Int) (h : ∀ e ∈ log, 0 ≤ e) (he : 0 ≤ e) : rd 0 (frs 0 log ++ [(log.length : Int), e, -1 - e]) = log ++ [e] := by
  rw [← frs_snoc]
  refine rd_frs fun x hx => ?_
  cases List.mem_append.mp hx with
  | inl q => exact h x q
  | inr q =>
    cases q with
    | head => exact he
    | tail _ z => cases z
theorem bg_true {k : Int} {cs : List Int} (h : bg k (cs.take 3) = true) : ∃ a b c r, cs = a :: b :: c :: r ∧ a = k ∧ 0 ≤ b ∧ c = -1 - b := by
  match cs, h with
  | a :: b :: c :: r, h =>
    have h : (decide (a = k) && (decide (0 ≤ b) && decide (c = -1 - b))) = true := h
    simp at h
    exact ⟨a, b, c, r, rfl, h⟩
theorem bg_false {k : Int} {cs : List Int} (h : bg k (cs.take 3) = false) : rd k cs = [] := by
  match cs, h with
  | [], _ => rfl
  | [_], _ => rfl
  | [_, _], _ => rfl
  | a :: b :: c :: r, h =>
    have h : (decide (a = k) && (decide (0 ≤ b) && decide (c = -1 - b))) = false := h
    refine rd_no fun q => ?_
    rw [decide_eq_true q.1, decide_eq_true q.2.1, decide_eq_true q.2.2] at h
    cases h
/-- how far a reading has come -/
def Sc (cs es : List Int) : Prop := rd 0 cs = es ++ rd (es.length : Int) (cs.drop (3 * es.length)) ∧ 3 * es.length ≤ cs.length
theorem Sc.init (cs : List Int) : Sc cs [] := ⟨rfl, Nat.zero_le _⟩
theorem Sc.step {cs es : List Int} {a b c : Int} {r : List Int} (s : Sc cs es) (e : cs.drop (3 * es.length) = a :: b :: c :: r) (q : a = (es.length : Int) ∧ 0 ≤ b ∧ c = -1 - b) : Sc cs (es ++ [b]) := by
  have hl : (cs.drop (3 * es.length)).length = r.length + 1 + 1 + 1 := by rw [e]; rfl
  rw [List.length_drop] at hl
  refine ⟨?_, by rw [List.length_append]; show 3 * (es.length + 1) ≤ _; omega⟩
  have e2 : cs.drop (3 * (es ++ [b]).length) = r := by
    rw [List.length_append]
    show cs.drop (3 * (es.length + 1)) = r
    rw [show 3 * (es.length + 1) = 3 * es.length + 3 from by omega, ← List.drop_drop, e]
    rfl
  rw [e2, s.1, e, rd_yes q, List.length_append, List.append_assoc]
  show es ++ b :: rd ((es.length : Int) + 1) r = es ++ b :: rd (((es.length + 1 : Nat)) : Int) r
  rfl
theorem Sc.stop {cs es : List Int} (s : Sc cs es) (h : rd (es.length : Int) (cs.drop (3 * es.length)) = []) : rd 0 cs = es := by
  rw [s.1, h, List.append_nil]
theorem drop_three {cs : List Int} {n : Nat} {a b c : Int} {r : List Int} (e : cs.drop n = a :: b :: c :: r) : cs[n]? = some a ∧ cs[n + 1]? = some b ∧ cs[n + 2]? = some c := by
  have h : ∀ i, cs[n + i]? = (a :: b :: c :: r)[i]? := fun i => by rw [← e, List.getElem?_drop]
  exact ⟨h 0, h 1, h 2⟩
end K32

end
section
set_option Elab.async false
set_option linter.all false
set_option maxRecDepth 100000
set_option maxHeartbeats 4000000
namespace KR
open PySem PySem.Spec PyProof.Rows L2
/-- x not in range(..) -/
theorem opNotInRng {X : Cx} : OpR X (compareOp .NotIn) (fun x y H Q => ∃ i a lo hi, x = V.int i ∧ y = V.ref a ∧ H a = some (.rng lo hi) ∧ Q (.bl (!decide (lo ≤ i ∧ i < hi))) H) := by
  intro pins s σ H x y v u Q I rx ry h
  obtain ⟨i, a, lo, hi, rfl, rfl, ha, q⟩ := h
  obtain ⟨k, rfl⟩ := rx
  obtain rfl : u = Value.ref a := ry
  obtain ⟨t1, t2, t3, ho⟩ := I.hok a _ ha
  show wpAny _ _ (do return Value.bool (!(← contains (Value.ref a) (Value.int i k)))) _ _ s
  refine wpAny_bind (wpAny_contains_slot (T := "range") ⟨_, ho, rfl⟩ F.slot_range_contains ?_)
  refine call_meets F.slot_range_contains ⟨_, ho, rfl⟩ F.entry_range_contains (F.args_range_contains_2 _ _) (q_contains a lo hi i t1 t2 t3 k) ⟨ho, ?_⟩
  refine wpAny_truthy_bool (wpAny_pure ⟨.bl _, H, I, rfl, ?_⟩)
  rw [place1]
  exact q
/-- range(n) as a value -/
theorem crRange1 {X : Cx} : CallR X (.type "range") (fun vs H Q => ∃ j, vs = [V.int j] ∧ ∀ p, H p = none → Q (.ref p) (upd H p (.rng 0 j))) := by
  intro pins s σ H vs us Q I r h
  obtain ⟨j, rfl, q⟩ := h
  obtain ⟨u1, rfl, rj⟩ := vals1 r
  obtain ⟨u, rfl⟩ := rj
  have fr := I.hok.fresh (Nat.le_refl s.heap.objs.size)
  refine call_range_1 ⟨V.ref s.heap.objs.size, upd H s.heap.objs.size (.rng 0 j), I.laid (t' := s.toks + 1 + 1) (fun b o e => Heap.get?_push_of_some _ e) (Nat.le_refl _) ?_, rfl, q _ fr⟩
  exact ⟨_, u, _, Heap.get?_push_size _ rfl⟩
end KR
namespace Kit
open PySem L2
theorem ifD {p A B : Prop} [Decidable p] (h1 : p → A) (h2 : ¬ p → B) : if decide p = true then A else B := by
  by_cases h : p
  · rw [decide_eq_true h]; exact h1 h
  · rw [decide_eq_false h, if_neg Bool.false_ne_true]; exact h2 h
theorem ifN {p A B : Prop} [Decidable p] (h1 : p → B) (h2 : ¬ p → A) : if (!decide p) = true then A else B := by
  by_cases h : p
  · rw [decide_eq_true h]; exact h1 h
  · rw [decide_eq_false h]; exact h2 h
theorem ifEqI {i j : Int} {A B : Prop} (h1 : i = j → A) (h2 : i ≠ j → B) : if decide (V.int i = V.int j) = true then A else B :=
  ifD (fun h => h1 (V.int.inj h)) fun h => h2 fun e => h (congrArg V.int e)
theorem ifNeI {i j : Int} {A B : Prop} (h1 : i ≠ j → A) (h2 : i = j → B) : if (!decide (V.int i = V.int j)) = true then A else B :=
  ifN (fun h => h2 (V.int.inj h)) fun h => h1 fun e => h (congrArg V.int e)
theorem ifB {c : Bool} {A B : Prop} (h1 : c = true → A) (h2 : c = false → B) : if c = true then A else B := by
  cases c
  · exact iteF (h2 rfl)
  · exact iteT (h1 rfl)
theorem iteK {c : Bool} {A B : Prop} (h : c = true) (a : A) : if c = true then A else B := by
  rw [if_pos h]
  exact a
theorem iteKF {c : Bool} {A B : Prop} (h : c = false) (b : B) : if c = true then A else B := by
  rw [h]
  exact iteF b
theorem nifD {p A B : Prop} [Decidable p] (h1 : ¬ p → A) (h2 : p → B) : if (!decide p) = true then A else B := ifN h2 h1
theorem nifN {p A B : Prop} [Decidable p] (h1 : p → A) (h2 : ¬ p → B) : if (!(!decide p)) = true then A else B := by
  rw [Bool.not_not]
  exact ifD h1 h2
theorem nifEqI {i j : Int} {A B : Prop} (h1 : i ≠ j → A) (h2 : i = j → B) : if (!decide (V.int i = V.int j)) = true then A else B := ifNeI h1 h2
theorem nifNeI {i j : Int} {A B : Prop} (h1 : i = j → A) (h2 : i ≠ j → B) : if (!(!decide (V.int i = V.int j))) = true then A else B := by
  rw [Bool.not_not]
  exact ifEqI h1 h2
theorem nifB {c : Bool} {A B : Prop} (h1 : c = false → A) (h2 : c = true → B) : if (!c) = true then A else B := by
  cases c
  · exact iteT (h1 rfl)
  · exact iteF (h2 rfl)
theorem fm0 (i : Int) {n : Int} (h : 0 < n) : 0 ≤ i.fmod n := by
  rw [Int.fmod_eq_emod_of_nonneg _ (Int.le_of_lt h)]
  exact Int.emod_nonneg _ (Int.ne_of_gt h)
theorem fm1 (i : Int) {n : Int} (h : 0 < n) : i.fmod n < n := Int.fmod_lt_of_pos i h
theorem mulF {i j n : Int} (h : 0 < n) (h2 : n ≤ 2 ^ 64) : CMul (i.fmod n) j := .inl ⟨Int.lt_of_lt_of_le (by decide) (fm0 i h), Int.lt_of_lt_of_le (fm1 i h) h2⟩
/-- all but what stands at b is kept -/
def Kp (b : Addr) (H H' : Hp) : Prop := ∀ a o, a ≠ b → H a = some o → H' a = some o
theorem Kp.refl {b : Addr} {H : Hp} : Kp b H H := fun _ _ _ h => h
theorem Kp.trans {b : Addr} {H H1 H2 : Hp} (x : Kp b H H1) (y : Kp b H1 H2) : Kp b H H2 := fun a o n h => y a o n (x a o n h)
theorem Kp.tr {b : Addr} {H H1 H2 : Hp} (y : Kp b H1 H2) (x : Kp b H H1) : Kp b H H2 := x.trans y
theorem Kp.of {b : Addr} {H H1 : Hp} (x : Same H H1) : Kp b H H1 := fun a o _ h => x a o h
theorem Kp.new {b p : Addr} {H H1 : Hp} {o : HO} (x : Kp b H H1) (n : H1 p = none) : Kp b H (upd H1 p o) := fun a u m h => by
  have e := x a u m h
  rw [upd_ne (ne_of_none e n)]
  exact e
theorem Kp.at {b : Addr} {H H1 : Hp} {o : HO} (x : Kp b H H1) : Kp b H (upd H1 b o) := fun a u m h => by
  rw [upd_ne m]
  exact x a u m h
theorem Kp.mut {b p : Addr} {H H1 : Hp} {o : HO} (x : Kp b H H1) (n : H p = none) : Kp b H (upd H1 p o) := fun a u m h => by
  rw [upd_ne (ne_of_none h n)]
  exact x a u m h
theorem Kp.fr0 {b p : Addr} {H H1 : Hp} {u : HO} (x : Kp b H H1) (n : H1 p = none) (hb : H1 b = some u) : H p = none := by
  cases e : H p with
  | none => rfl
  | some o =>
    have nb : p ≠ b := fun z => by
      rw [z, hb] at n
      cases n
    rw [x p o nb e] at n
    cases n
theorem Same.tr {H H1 H2 : Hp} (y : Same H1 H2) (x : Same H H1) : Same H H2 := x.trans y
theorem Same.get {H H1 : Hp} {a : Addr} {o : HO} (x : Same H H1) (h : H a = some o) : H1 a = some o := x a o h
theorem Same.new {p : Addr} {H H1 : Hp} {o : HO} (x : Same H H1) (n : H1 p = none) : Same H (upd H1 p o) := fun a u h => by
  have e := x a u h
  rw [upd_ne (ne_of_none e n)]
  exact e
theorem Same.mut {p : Addr} {H H1 : Hp} {o : HO} (x : Same H H1) (n : H p = none) : Same H (upd H1 p o) := fun a u h => by
  rw [upd_ne (ne_of_none h n)]
  exact x a u h
def boxL (c : Addr) (x1 x2 x3 x4 : Int) : List V := [.ref c, .int x1, .int x2, .int x3, .int x4]
/-- the box at b, its cells at c -/
structure BoxOk (H : Hp) (b c : Addr) : Prop where
  ex : ∃ ns x1 x2 x3 x4, H b = some (.lst (boxL c x1 x2 x3 x4)) ∧ H c = some (.lst (List.map V.int ns)) ∧ 0 ≤ x1
/-- what cannot be the box -/
def NB (o : HO) : Prop := ∀ c x1 x2 x3 x4, o ≠ .lst (boxL c x1 x2 x3 x4)
theorem nb_tup {xs : List V} : NB (.tup xs) := fun _ _ _ _ _ q => by cases q
theorem nb_nil : NB (.lst []) := fun _ _ _ _ _ q => by cases q
theorem nb_ints {ns : List Int} : NB (.lst (ns.map V.int)) := fun _ _ _ _ _ q => by
  cases ns with
  | nil => cases q
  | cons n r => cases q
theorem nb_refs {as : List Addr} : NB (.lst (as.map V.ref)) := fun _ _ _ _ _ q => by
  match as with
  | [] => cases q
  | [_] => cases q
  | _ :: _ :: _ => cases q
theorem box_c {H : Hp} {b c d : Addr} {ns : List Int} {x1 x2 x3 x4 : Int} (hb : H b = some (.lst (boxL d x1 x2 x3 x4))) (hc : H c = some (.lst (ns.map V.int))) : c ≠ b := fun z => by
  rw [z, hb] at hc
  exact nb_ints d x1 x2 x3 x4 (Option.some.inj hc).symm
theorem nb_ins {C dx : Addr} {fs : List (Str × V)} : NB (.ins C dx fs) := fun _ _ _ _ _ q => by cases q
theorem nb_dT {kvs : List (List Key × V)} : NB (.dT kvs) := fun _ _ _ _ _ q => by cases q
theorem nb_frz {o : Obj} {u : HO} : NB (.frz o u) := fun _ _ _ _ _ q => by cases q
theorem BoxOk.ne {H : Hp} {a b c : Addr} {o : HO} (x : BoxOk H b c) (h : H a = some o) (d : NB o) : a ≠ b := fun z => by
  obtain ⟨ns, x1, x2, x3, x4, hb, _⟩ := x
  rw [z, hb] at h
  exact d c x1 x2 x3 x4 (Option.some.inj h).symm
theorem BoxOk.new {H : Hp} {b c p : Addr} {o : HO} (x : BoxOk H b c) (n : H p = none) : BoxOk (upd H p o) b c := by
  obtain ⟨ns, x1, x2, x3, x4, hb, hc, r⟩ := x
  exact ⟨ns, x1, x2, x3, x4, by rw [upd_ne (ne_of_none hb n)]; exact hb, by rw [upd_ne (ne_of_none hc n)]; exact hc, r⟩
theorem BoxOk.same {H H' : Hp} {b c : Addr} (s : Same H H') (x : BoxOk H b c) : BoxOk H' b c := by
  obtain ⟨ns, x1, x2, x3, x4, hb, hc, r⟩ := x
  exact ⟨ns, x1, x2, x3, x4, s _ _ hb, s _ _ hc, r⟩
/-- a list is changed that stood not at H0 -/
theorem BoxOk.mut {H0 H : Hp} {b c p : Addr} {o : HO} (x : BoxOk H b c) (x0 : BoxOk H0 b c) (n : H0 p = none) : BoxOk (upd H p o) b c := by
  obtain ⟨ns, x1, x2, x3, x4, hb, hc, r⟩ := x
  obtain ⟨ms, y1, y2, y3, y4, kb, kc, _⟩ := x0
  exact ⟨ns, x1, x2, x3, x4, by rw [upd_ne (ne_of_none kb n)]; exact hb, by rw [upd_ne (ne_of_none kc n)]; exact hc, r⟩
theorem BoxOk.there {H : Hp} {b c : Addr} (x : BoxOk H b c) : ∃ u, H b = some u := by
  obtain ⟨ns, x1, x2, x3, x4, hb, _⟩ := x
  exact ⟨_, hb⟩
theorem Kp.get {b c a : Addr} {H H' : Hp} {o : HO} (k : Kp b H H') (x : BoxOk H b c) (h : H a = some o) (d : NB o) : H' a = some o := k a o (x.ne h d) h
theorem Kp.free {b c p : Addr} {H H' : Hp} (k : Kp b H H') (x : BoxOk H' b c) (n : H' p = none) : H p = none := by
  obtain ⟨u, hu⟩ := x.there
  exact k.fr0 n hu
theorem cut_all {ns : List Int} {n : Int} (h : (ns.length : Int) ≤ n) : cutV (ns.map V.int) none (some n) = ns.map V.int := by
  have e : HT.sIx (ns.map V.int).length (ns.map V.int).length (some n) = (ns.map V.int).length := by
    show (HT.sIx _ _ _) = _
    simp only [HT.sIx, List.length_map]
    first
      | omega
      | (split <;> omega)
      | simp; omega
  unfold cutV
  rw [e]
  show ((ns.map V.int).drop 0).take ((ns.map V.int).length - 0) = _
  rw [List.drop_zero, Nat.sub_zero, List.take_length]
theorem dpInts {K : PySem.W.Frag} {H : Hp} : ∀ ns : List Int, DpAll K H (ns.map V.int) (ns.map PyData.int)
  | [] => .nil
  | n :: r => .cons (.int n) (dpInts r)
def prD (p : Int × Int) : PyData := .tuple [.int p.1, .int p.2]
theorem prD_lay : ∀ ps : List (Int × Int), PyData.canLayAll0 (ps.map prD) = true
  | [] => rfl
  | p :: r => by
    show (PyData.canLay0 (prD p) && PyData.canLayAll0 (r.map prD)) = true
    rw [prD_lay r] <;> rfl
theorem prD_deep : ∀ ps : List (Int × Int), PyData.depthAll (ps.map prD) ≤ 1
  | [] => Nat.zero_le _
  | p :: r => by
    show max (PyData.depth (prD p)) (PyData.depthAll (r.map prD)) ≤ 1
    exact Nat.max_le.mpr ⟨Nat.le_refl 1, prD_deep r⟩
theorem prD_shaped (ps : List (Int × Int)) : SeqAt.shaped (.list (ps.map prD)) = true := by
  refine Bool.and_eq_true_iff.mpr ⟨prD_lay ps, decide_eq_true ?_⟩
  show PyData.depthAll (ps.map prD) + 1 ≤ 64
  have := prD_deep ps
  omega
theorem eqv_ints (ns : List Int) : PyData.eqv (.list (ns.map PyData.int)) (.list (ns.map PyData.int)) = true := SeqAt.eqv_refl _ (Bool.and_eq_true_iff.mp (PySem.W.ke_shaped_ints ns)).1
theorem eqv_prs (ps : List (Int × Int)) : PyData.eqv (.list (ps.map prD)) (.list (ps.map prD)) = true := SeqAt.eqv_refl _ (prD_lay ps)
/-- tuples stay -/
def Tk (H H' : Hp) : Prop := ∀ a xs, H a = some (.tup xs) → H' a = some (.tup xs)
theorem Tk.refl {H : Hp} : Tk H H := fun _ _ h => h
theorem Tk.get {H H' : Hp} {t : Addr} {xs : List V} (h : H t = some (.tup xs)) (k : Tk H H') : H' t = some (.tup xs) := k t xs h
theorem Tk.tr {H H1 H2 : Hp} (y : Tk H1 H2) (x : Tk H H1) : Tk H H2 := fun a xs h => y a xs (x a xs h)
theorem Tk.new {H H1 : Hp} {p : Addr} {o : HO} (x : Tk H H1) (n : H1 p = none) : Tk H (upd H1 p o) := fun a xs h => by
  rw [upd_ne (ne_of_none (x a xs h) n)]
  exact x a xs h
theorem Tk.lst {H H1 : Hp} {p : Addr} {ys : List V} {o : HO} (x : Tk H H1) (n : H1 p = some (.lst ys)) : Tk H (upd H1 p o) := fun a xs h => by
  rw [upd_ne (ne_of (x a xs h) n (by intro q; cases q))]
  exact x a xs h
theorem Same.tk {H H1 : Hp} (x : Same H H1) : Tk H H1 := fun a xs h => x a _ h
theorem Kp.tk {b c : Addr} {H H1 : Hp} (x : Kp b H H1) (bx : BoxOk H b c) : Tk H H1 := fun a xs h => x.get bx h nb_tup
/-- at the addresses as: the pairs ps -/
def PrT (H : Hp) (as : List Addr) (ps : List (Int × Int)) : Prop := as.length = ps.length ∧ ∀ (i : Nat) (a : Addr) (p : Int × Int), as[i]? = some a → ps[i]? = some p → H a = some (.tup [.int p.1, .int p.2])
theorem PrT.mono {H H' : Hp} {as : List Addr} {ps : List (Int × Int)} (x : PrT H as ps) (k : Tk H H') : PrT H' as ps := ⟨x.1, fun i a p h1 h2 => k _ _ (x.2 i a p h1 h2)⟩
theorem PrT.nil {H : Hp} : PrT H [] [] := ⟨rfl, fun i a p h => by simp at h⟩
theorem PrT.tail {H : Hp} {a : Addr} {p : Int × Int} {as : List Addr} {ps : List (Int × Int)} (x : PrT H (a :: as) (p :: ps)) : PrT H as ps :=
  ⟨by have := x.1; simp at this; exact this, fun i b q h1 h2 => x.2 (i + 1) b q (by simpa using h1) (by simpa using h2)⟩
theorem dpPrs {K : PySem.W.Frag} {H : Hp} : ∀ {as : List Addr} {ps : List (Int × Int)}, PrT H as ps → DpAll K H (as.map V.ref) (ps.map prD)
  | [], [], _ => .nil
  | a :: as, p :: ps, x => .cons (.tup (SqT.of (x.2 0 a p rfl rfl)) (.cons (.int _) (.cons (.int _) .nil))) (dpPrs x.tail)
  | [], _ :: _, x => by have := x.1; simp at this
  | _ :: _, [], x => by have := x.1; simp at this
theorem PrT.snoc {H : Hp} {as : List Addr} {ps : List (Int × Int)} {t : Addr} {x y : Int} (h : PrT H as ps) (ht : H t = some (.tup [.int x, .int y])) : PrT H (as ++ [t]) (ps ++ [(x, y)]) := by
  refine ⟨by rw [List.length_append, List.length_append, h.1]; rfl, fun i a p h1 h2 => ?_⟩
  by_cases hi : i < as.length
  · rw [List.getElem?_append_left hi] at h1
    rw [List.getElem?_append_left (h.1 ▸ hi)] at h2
    exact h.2 i a p h1 h2
  · rw [List.getElem?_append_right (by omega)] at h1
    rw [List.getElem?_append_right (by have := h.1; omega)] at h2
    have e : i - as.length = 0 := by
      have := (List.getElem?_eq_some_iff.mp h1).1
      simp at this
      omega
    have e2 : i - ps.length = 0 := by rw [← h.1]; exact e
    rw [e] at h1
    rw [e2] at h2
    cases h1
    cases h2
    exact ht
theorem PrT.append {H : Hp} {as bs : List Addr} {ps qs : List (Int × Int)} (x : PrT H as ps) (y : PrT H bs qs) : PrT H (as ++ bs) (ps ++ qs) := by
  refine ⟨by rw [List.length_append, List.length_append, x.1, y.1], fun i a p h1 h2 => ?_⟩
  by_cases hi : i < as.length
  · rw [List.getElem?_append_left hi] at h1
    rw [List.getElem?_append_left (x.1 ▸ hi)] at h2
    exact x.2 i a p h1 h2
  · rw [List.getElem?_append_right (by omega)] at h1
    rw [List.getElem?_append_right (by have := x.1; omega), ← x.1] at h2
    exact y.2 _ a p h1 h2
theorem PrT.one {H : Hp} {t : Addr} {x y : Int} (h : H t = some (.tup [.int x, .int y])) : PrT H [t] [(x, y)] := PrT.snoc (as := []) (ps := []) PrT.nil h
theorem PrT.take {H : Hp} {as : List Addr} {ps : List (Int × Int)} (x : PrT H as ps) (k : Nat) : PrT H (as.take k) (ps.take k) := by
  refine ⟨by rw [List.length_take, List.length_take, x.1], fun i a p h1 h2 => ?_⟩
  rw [List.getElem?_take] at h1 h2
  by_cases h : i < k
  · rw [if_pos h] at h1 h2
    exact x.2 i a p h1 h2
  · rw [if_neg h] at h1
    cases h1
theorem PrT.drop {H : Hp} {as : List Addr} {ps : List (Int × Int)} (x : PrT H as ps) (k : Nat) : PrT H (as.drop k) (ps.drop k) := by
  refine ⟨by rw [List.length_drop, List.length_drop, x.1], fun i a p h1 h2 => ?_⟩
  rw [List.getElem?_drop] at h1 h2
  exact x.2 _ a p h1 h2
theorem PrT.ins {H : Hp} {as : List Addr} {ps : List (Int × Int)} {t : Addr} {x y : Int} (h : PrT H as ps) (ht : H t = some (.tup [.int x, .int y])) (k : Nat) : PrT H (as.take k ++ [t] ++ as.drop k) (ps.take k ++ [(x, y)] ++ ps.drop k) :=
  ((h.take k).append (PrT.one ht)).append (h.drop k)
theorem PrT.at {H : Hp} {as : List Addr} {ps : List (Int × Int)} {i : Nat} (h : PrT H as ps) (hi : i < ps.length) : ∃ a x y, as[i]? = some a ∧ ps[i]? = some (x, y) ∧ H a = some (.tup [.int x, .int y]) := by
  have h1 : i < as.length := by rw [h.1]; exact hi
  exact ⟨as[i], ps[i].1, ps[i].2, List.getElem?_eq_getElem h1, List.getElem?_eq_getElem hi, h.2 i _ _ (List.getElem?_eq_getElem h1) (List.getElem?_eq_getElem hi)⟩
theorem PrT.item {H : Hp} {as : List Addr} {ps : List (Int × Int)} {i : Nat} {v : V} (h : PrT H as ps) (e : (as.map V.ref)[i]? = some v) : ∃ a x y, v = V.ref a ∧ as[i]? = some a ∧ ps[i]? = some (x, y) ∧ H a = some (.tup [.int x, .int y]) := by
  rw [List.getElem?_map] at e
  cases q : as[i]? with
  | none => rw [q] at e; cases e
  | some a =>
    rw [q] at e
    have hi := (List.getElem?_eq_some_iff.mp q).1
    obtain ⟨b, x, y, e1, e2, e3⟩ := h.at (i := i) (by rw [← h.1]; exact hi)
    rw [q] at e1
    cases e1
    exact ⟨a, x, y, (Option.some.inj e).symm, rfl, e2, e3⟩
theorem at_of0 {α : Type} {xs : List α} {j : Nat} {v : α} (h : xs[j]? = some v) : atI xs (j : Int) = some v := atI_nat h
theorem at_ref {as : List Addr} {i : Nat} {a : Addr} {z : Int} (h : as[i]? = some a) (e : z = (i : Int)) : atI (as.map V.ref) z = some (V.ref a) := at_of e (by rw [List.getElem?_map, h]; rfl)
theorem ix0 {α : Type} {a : α} {l : List α} : atI (a :: l) 0 = some a := at_of0 (j := 0) rfl
theorem ix1 {α : Type} {a b : α} {l : List α} : atI (a :: b :: l) 1 = some b := at_of0 (j := 1) rfl
theorem ix2 {α : Type} {a b c : α} {l : List α} : atI (a :: b :: c :: l) 2 = some c := at_of0 (j := 2) rfl
theorem at_drawn {as : List Addr} {d : Int} (h0 : 0 ≤ d) (h1 : d < (((as.map V.ref).length : Nat) : Int)) : atI (as.map V.ref) d = some (V.ref (as.getD d.toNat 0)) := by
  rw [List.length_map] at h1
  have h : d.toNat < as.length := by omega
  refine at_ref (i := d.toNat) ?_ (by omega)
  rw [List.getD_eq_getElem?_getD, List.getElem?_eq_getElem h]
  rfl
theorem getD_at {as : List Addr} {d : Int} (h0 : 0 ≤ d) (h1 : d < (((as.map V.ref).length : Nat) : Int)) : as[d.toNat]? = some (as.getD d.toNat 0) := by
  rw [List.length_map] at h1
  have h : d.toNat < as.length := by omega
  rw [List.getD_eq_getElem?_getD, List.getElem?_eq_getElem h]
  rfl
theorem at_int {ns : List Int} {i : Nat} {n : Int} {z : Int} (h : ns[i]? = some n) (e : z = (i : Int)) : atI (ns.map V.int) z = some (V.int n) := at_of e (by rw [List.getElem?_map, h]; rfl)
theorem upd_new {H : Hp} {a p : Addr} {o u : HO} (h : H a = some u) (n : H p = none) : upd H p o a = some u := by
  rw [upd_ne (ne_of_none h n)]
  exact h
theorem upd_oth {H : Hp} {a p : Addr} {o u : HO} (h : H a = some u) (n : a ≠ p) : upd H p o a = some u := by
  rw [upd_ne n]
  exact h
end Kit

end
section
set_option Elab.async false
set_option linter.all false
set_option maxRecDepth 100000
set_option maxHeartbeats 4000000
namespace K32
open PySem L2 Kit KR
/-- all but what stands at b is kept -/
def Kp (b : Addr) (H H' : Hp) : Prop := ∀ a o, a ≠ b → H a = some o → H' a = some o
theorem Kp.refl {b : Addr} {H : Hp} : Kp b H H := fun _ _ _ h => h
theorem Kp.trans {b : Addr} {H H1 H2 : Hp} (x : Kp b H H1) (y : Kp b H1 H2) : Kp b H H2 := fun a o n h => y a o n (x a o n h)
theorem Kp.tr {b : Addr} {H H1 H2 : Hp} (y : Kp b H1 H2) (x : Kp b H H1) : Kp b H H2 := x.trans y
theorem Kp.of {b : Addr} {H H1 : Hp} (x : Same H H1) : Kp b H H1 := fun a o _ h => x a o h
theorem Kp.new {b p : Addr} {H H1 : Hp} {o : HO} (x : Kp b H H1) (n : H1 p = none) : Kp b H (upd H1 p o) := fun a u m h => by
  have e := x a u m h
  rw [upd_ne (ne_of_none e n)]
  exact e
theorem Kp.at {b : Addr} {H H1 : Hp} {o : HO} (x : Kp b H H1) : Kp b H (upd H1 b o) := fun a u m h => by
  rw [upd_ne m]
  exact x a u m h
theorem Kp.mut {b p : Addr} {H H1 : Hp} {o : HO} (x : Kp b H H1) (n : H p = none) : Kp b H (upd H1 p o) := fun a u m h => by
  rw [upd_ne (ne_of_none h n)]
  exact x a u m h
theorem Kp.fr0 {b p : Addr} {H H1 : Hp} {u : HO} (x : Kp b H H1) (n : H1 p = none) (hb : H1 b = some u) : H p = none := by
  cases e : H p with
  | none => rfl
  | some o =>
    have nb : p ≠ b := fun z => by
      rw [z, hb] at n
      cases n
    rw [x p o nb e] at n
    cases n
def boxL (c : Addr) (x1 x2 x3 x4 x5 : Int) : List V := [.ref c, .int x1, .int x2, .int x3, .int x4, .int x5]
/-- the box at b, its cells at c -/
structure BoxOk (H : Hp) (b c : Addr) : Prop where
  ex : ∃ ns x1 x2 x3 x4 x5, H b = some (.lst (boxL c x1 x2 x3 x4 x5)) ∧ H c = some (.lst (List.map V.int ns)) ∧ 0 ≤ x1
/-- what cannot be the box -/
def NB (o : HO) : Prop := ∀ c x1 x2 x3 x4 x5, o ≠ .lst (boxL c x1 x2 x3 x4 x5)
theorem nb_tup {xs : List V} : NB (.tup xs) := fun _ _ _ _ _ _ q => by cases q
theorem nb_nil : NB (.lst []) := fun _ _ _ _ _ _ q => by cases q
theorem nb_ints {ns : List Int} : NB (.lst (ns.map V.int)) := fun _ _ _ _ _ _ q => by
  cases ns with
  | nil => cases q
  | cons n r => cases q
theorem nb_refs {as : List Addr} : NB (.lst (as.map V.ref)) := fun _ _ _ _ _ _ q => by
  match as with
  | [] => cases q
  | [_] => cases q
  | _ :: _ :: _ => cases q
theorem box_c {H : Hp} {b c d : Addr} {ns : List Int} {x1 x2 x3 x4 x5 : Int} (hb : H b = some (.lst (boxL d x1 x2 x3 x4 x5))) (hc : H c = some (.lst (ns.map V.int))) : c ≠ b := fun z => by
  rw [z, hb] at hc
  exact nb_ints d x1 x2 x3 x4 x5 (Option.some.inj hc).symm
theorem nb_ins {C dx : Addr} {fs : List (Str × V)} : NB (.ins C dx fs) := fun _ _ _ _ _ _ q => by cases q
theorem nb_dT {kvs : List (List Key × V)} : NB (.dT kvs) := fun _ _ _ _ _ _ q => by cases q
theorem nb_frz {o : Obj} {u : HO} : NB (.frz o u) := fun _ _ _ _ _ _ q => by cases q
theorem BoxOk.ne {H : Hp} {a b c : Addr} {o : HO} (x : BoxOk H b c) (h : H a = some o) (d : NB o) : a ≠ b := fun z => by
  obtain ⟨ns, x1, x2, x3, x4, x5, hb, _⟩ := x
  rw [z, hb] at h
  exact d c x1 x2 x3 x4 x5 (Option.some.inj h).symm
theorem BoxOk.new {H : Hp} {b c p : Addr} {o : HO} (x : BoxOk H b c) (n : H p = none) : BoxOk (upd H p o) b c := by
  obtain ⟨ns, x1, x2, x3, x4, x5, hb, hc, r⟩ := x
  exact ⟨ns, x1, x2, x3, x4, x5, by rw [upd_ne (ne_of_none hb n)]; exact hb, by rw [upd_ne (ne_of_none hc n)]; exact hc, r⟩
theorem BoxOk.same {H H' : Hp} {b c : Addr} (s : Same H H') (x : BoxOk H b c) : BoxOk H' b c := by
  obtain ⟨ns, x1, x2, x3, x4, x5, hb, hc, r⟩ := x
  exact ⟨ns, x1, x2, x3, x4, x5, s _ _ hb, s _ _ hc, r⟩
/-- a list is changed that stood not at H0 -/
theorem BoxOk.mut {H0 H : Hp} {b c p : Addr} {o : HO} (x : BoxOk H b c) (x0 : BoxOk H0 b c) (n : H0 p = none) : BoxOk (upd H p o) b c := by
  obtain ⟨ns, x1, x2, x3, x4, x5, hb, hc, r⟩ := x
  obtain ⟨ms, y1, y2, y3, y4, y5, kb, kc, _⟩ := x0
  exact ⟨ns, x1, x2, x3, x4, x5, by rw [upd_ne (ne_of_none kb n)]; exact hb, by rw [upd_ne (ne_of_none kc n)]; exact hc, r⟩
theorem BoxOk.there {H : Hp} {b c : Addr} (x : BoxOk H b c) : ∃ u, H b = some u := by
  obtain ⟨ns, x1, x2, x3, x4, x5, hb, _⟩ := x
  exact ⟨_, hb⟩
theorem Kp.get {b c a : Addr} {H H' : Hp} {o : HO} (k : Kp b H H') (x : BoxOk H b c) (h : H a = some o) (d : NB o) : H' a = some o := k a o (x.ne h d) h
theorem Kp.free {b c p : Addr} {H H' : Hp} (k : Kp b H H') (x : BoxOk H' b c) (n : H' p = none) : H p = none := by
  obtain ⟨u, hu⟩ := x.there
  exact k.fr0 n hu
theorem Kp.tk {b c : Addr} {H H1 : Hp} (x : Kp b H H1) (bx : BoxOk H b c) : Tk H H1 := fun a xs h => x.get bx h nb_tup
end K32

end
section
set_option Elab.async false
set_option linter.all false
set_option maxRecDepth 100000
set_option maxHeartbeats 4000000
namespace K32
open PySem L2 Kit KR
theorem cut_to {ns : List Int} {n : Int} (h : 0 ≤ n) : cutV (ns.map V.int) none (some n) = (ns.take n.toNat).map V.int := by
  have e : HT.sIx (ns.map V.int).length (ns.map V.int).length (some n) = min n.toNat ns.length := by
    show (if n < 0 then _ else _) = _
    rw [if_neg (by omega), List.length_map]
  unfold cutV
  rw [e]
  show ((ns.map V.int).drop 0).take (min n.toNat ns.length - 0) = _
  have e2 : ns.take (min n.toNat ns.length) = ns.take n.toNat := List.take_eq_take_iff.mpr (by omega)
  rw [List.drop_zero, Nat.sub_zero, ← List.map_take, e2]
theorem cut_from {ns : List Int} {n : Int} (h : 0 ≤ n) : cutV (ns.map V.int) (some n) none = (ns.drop n.toNat).map V.int := by
  have e : HT.sIx (ns.map V.int).length 0 (some n) = min n.toNat ns.length := by
    show (if n < 0 then _ else _) = _
    rw [if_neg (by omega), List.length_map]
  unfold cutV
  rw [e]
  show ((ns.map V.int).drop (min n.toNat ns.length)).take ((ns.map V.int).length - min n.toNat ns.length) = _
  rw [← List.map_drop, ← List.map_take]
  congr 1
  by_cases q : n.toNat ≤ ns.length
  · rw [Nat.min_eq_left q, List.take_of_length_le (by rw [List.length_map, List.length_drop]; omega)]
  · rw [Nat.min_eq_right (by omega), List.drop_of_length_le (Nat.le_refl _), List.drop_of_length_le (by omega), List.take_nil]
theorem cut_mid {ns : List Int} {m n : Int} (h : 0 ≤ m) (h2 : m ≤ n) : cutV (ns.map V.int) (some m) (some n) = ((ns.drop m.toNat).take (n.toNat - m.toNat)).map V.int := by
  have e : ∀ z : Int, 0 ≤ z → ∀ d, HT.sIx (ns.map V.int).length d (some z) = min z.toNat ns.length := fun z hz d => by
    show (if z < 0 then _ else _) = _
    rw [if_neg (by omega), List.length_map]
  unfold cutV
  rw [e m h, e n (by omega)]
  rw [← List.map_drop, ← List.map_take]
  congr 1
  by_cases q : m.toNat ≤ ns.length
  · rw [Nat.min_eq_left q, List.take_eq_take_iff.mpr]
    rw [List.length_drop]
    omega
  · have e1 : ns.drop (min m.toNat ns.length) = [] := List.drop_of_length_le (by omega)
    have e2 : ns.drop m.toNat = [] := List.drop_of_length_le (by omega)
    rw [e1, e2, List.take_nil, List.take_nil]
def rTo (K : PySem.W.Frag) : V → Option Int → Option Int → Hp → VK → Prop := fun x lo hi H Q => ∃ (a : Addr) (ns : List Int) (n : Int), x = .ref a ∧ lo = none ∧ hi = some n ∧ 0 ≤ n ∧ SqL K H a (ns.map V.int) ∧ ∀ p, H p = none → Q (.ref p) (upd H p (.lst ((ns.take n.toNat).map V.int)))
def rFrom (K : PySem.W.Frag) : V → Option Int → Option Int → Hp → VK → Prop := fun x lo hi H Q => ∃ (a : Addr) (ns : List Int) (n : Int), x = .ref a ∧ lo = some n ∧ hi = none ∧ 0 ≤ n ∧ SqL K H a (ns.map V.int) ∧ ∀ p, H p = none → Q (.ref p) (upd H p (.lst ((ns.drop n.toNat).map V.int)))
def rMid (K : PySem.W.Frag) : V → Option Int → Option Int → Hp → VK → Prop := fun x lo hi H Q => ∃ (a : Addr) (ns : List Int) (m n : Int), x = .ref a ∧ lo = some m ∧ hi = some n ∧ 0 ≤ m ∧ m ≤ n ∧ SqL K H a (ns.map V.int) ∧ ∀ p, H p = none → Q (.ref p) (upd H p (.lst (((ns.drop m.toNat).take (n.toNat - m.toNat)).map V.int)))
theorem sl_to {X : Cx} : SlR X (rTo X.K) := by
  intro pins s σ H x v vl vu lo hi sl Q I rv hs pl pu h
  obtain ⟨a, ns, n, rfl, rfl, rfl, hn, hq, k⟩ := h
  refine sl_list pins s σ H _ v vl vu none (some n) sl Q I rv hs pl pu ⟨a, _, rfl, hq, ?_⟩
  rw [cut_to hn]
  exact k
theorem sl_from {X : Cx} : SlR X (rFrom X.K) := by
  intro pins s σ H x v vl vu lo hi sl Q I rv hs pl pu h
  obtain ⟨a, ns, n, rfl, rfl, rfl, hn, hq, k⟩ := h
  refine sl_list pins s σ H _ v vl vu (some n) none sl Q I rv hs pl pu ⟨a, _, rfl, hq, ?_⟩
  rw [cut_from hn]
  exact k
theorem sl_mid {X : Cx} : SlR X (rMid X.K) := by
  intro pins s σ H x v vl vu lo hi sl Q I rv hs pl pu h
  obtain ⟨a, ns, m, n, rfl, rfl, rfl, hm, hn, hq, k⟩ := h
  refine sl_list pins s σ H _ v vl vu (some m) (some n) sl Q I rv hs pl pu ⟨a, _, rfl, hq, ?_⟩
  rw [cut_mid hm hn]
  exact k
theorem eqv_cons (a b : Int) (as bs : List Int) : PyData.eqv (.list ((a :: as).map PyData.int)) (.list ((b :: bs).map PyData.int)) = (decide (a = b) && PyData.eqv (.list (as.map PyData.int)) (.list (bs.map PyData.int))) := by
  have e : PyData.eqv (.list ((a :: as).map PyData.int)) (.list ((b :: bs).map PyData.int)) = ((a == b) && PyData.eqv (.list (as.map PyData.int)) (.list (bs.map PyData.int))) := rfl
  rw [e]
  congr 1
theorem eqv_ii : ∀ (as bs : List Int), PyData.eqv (.list (as.map PyData.int)) (.list (bs.map PyData.int)) = decide (as = bs)
  | [], [] => rfl
  | [], b :: bs => rfl
  | a :: as, [] => rfl
  | a :: as, b :: bs => by
    rw [eqv_cons, eqv_ii as bs]
    by_cases h : a = b <;> by_cases g : as = bs <;> simp [h, g]
/-- an item of a written list of ints -/
theorem at_lit {ns : List Int} {d : Int} (h0 : 0 ≤ d) (h1 : d < ((ns.length : Nat) : Int)) : atI (ns.map V.int) d = some (V.int (ns.getD d.toNat 0)) := by
  have h : d.toNat < ns.length := by omega
  refine at_int (i := d.toNat) ?_ (by omega)
  rw [List.getD_eq_getElem?_getD, List.getElem?_eq_getElem h]
  rfl
theorem getD_some {ns : List Int} {d : Int} (h0 : 0 ≤ d) (h1 : d < ((ns.length : Nat) : Int)) : ns[d.toNat]? = some (ns.getD d.toNat 0) := by
  have h : d.toNat < ns.length := by omega
  rw [List.getD_eq_getElem?_getD, List.getElem?_eq_getElem h]
  rfl
theorem op_catI {X : Cx} : OpR X (binaryOp .Add) (fun x y H Q => ∃ (a b : Addr) (as bs : List Int), x = V.ref a ∧ y = V.ref b ∧ H a = some (.lst (as.map V.int)) ∧ H b = some (.lst (bs.map V.int)) ∧ as.length + bs.length ≤ sizeLine ∧ ∀ p, H p = none → Q (.ref p) (upd H p (.lst ((as ++ bs).map V.int)))) := by
  intro pins s σ H x y v u Q I rx ry h
  obtain ⟨a, b, as, bs, rfl, rfl, ha, hb, hs, k⟩ := h
  refine op_cat pins s σ H _ _ v u Q I rx ry ⟨a, b, _, _, rfl, rfl, ha, hb, by rw [List.length_map, List.length_map]; exact hs, ?_⟩
  rw [← List.map_append]
  exact k
theorem call_lenI {X : Cx} : CallR X (.builtin "len") (fun vs H Q => ∃ (a : Addr) (ns : List Int), vs = [V.ref a] ∧ H a = some (.lst (ns.map V.int)) ∧ Q (.int ((ns.length : Nat) : Int)) H) := by
  intro pins s σ H vs us Q I r h
  obtain ⟨a, ns, rfl, ha, k⟩ := h
  refine call_len_seq pins s σ H _ us Q I r ⟨a, _, rfl, .inl (SqL.of ha), ?_⟩
  rw [List.length_map]
  exact k
theorem ix_I {X : Cx} : IxR X (fun x y H Q => ∃ (a : Addr) (ns : List Int) (i : Int) (v : V), x = V.ref a ∧ y = V.int i ∧ H a = some (.lst (ns.map V.int)) ∧ atI (ns.map V.int) i = some v ∧ Q v H) := by
  intro ev es pins s σ H x y v u Q I rx ry h
  obtain ⟨a, ns, i, z, rfl, rfl, ha, hx, k⟩ := h
  exact ix_list ev es pins s σ H _ _ v u Q I rx ry ⟨a, _, i, z, rfl, rfl, SqL.of ha, hx, k⟩
theorem eq_nil {es : List Int} (h : PyData.eqv (.list (es.map PyData.int)) (.list []) = false) : 1 ≤ es.length := by
  cases es with
  | nil => cases h
  | cons a r => exact Nat.le_add_left 1 _
theorem rdT {es : List Int} {n : Int} (h : ∀ e ∈ es, 0 ≤ e) (hn : 0 ≤ n) : rd 0 ((frs 0 es).take n.toNat) = es.take (n / 3).toNat := by
  rw [rd_take 0 es _ h]
  congr 1
  omega
theorem rdS {es : List Int} {n v : Int} (h : ∀ e ∈ es, 0 ≤ e) (hn : 0 ≤ n) (hl : n < (((frs 0 es).length : Nat) : Int)) (ne : v ≠ (frs 0 es).getD n.toNat 0) : rd 0 ((frs 0 es).take n.toNat ++ [v] ++ (frs 0 es).drop (n.toNat + 1)) = es.take (n / 3).toNat := by
  rw [rd_set 0 es n.toNat v _ h (getD_some hn hl) ne]
  congr 1
  omega
theorem lit0 {H : Hp} {p : Addr} : upd H p (.lst []) p = some (.lst (([] : List Int).map V.int)) := upd_same
theorem lit1 {H : Hp} {p : Addr} {a : Int} : upd H p (.lst [V.int a]) p = some (.lst ([a].map V.int)) := upd_same
theorem lit3 {H : Hp} {p : Addr} {a b c : Int} : upd H p (.lst [V.int a, V.int b, V.int c]) p = some (.lst ([a, b, c].map V.int)) := upd_same
theorem lit2 {H : Hp} {p : Addr} {a b : Int} : upd H p (.lst [V.int a, V.int b]) p = some (.lst ([a, b].map V.int)) := upd_same
theorem lit7 {H : Hp} {p : Addr} {a b c d e f g : Int} : upd H p (.lst [V.int a, V.int b, V.int c, V.int d, V.int e, V.int f, V.int g]) p = some (.lst ([a, b, c, d, e, f, g].map V.int)) := upd_same
theorem lit9 {H : Hp} {p : Addr} {a b c d e f g h i : Int} : upd H p (.lst [V.int a, V.int b, V.int c, V.int d, V.int e, V.int f, V.int g, V.int h, V.int i]) p = some (.lst ([a, b, c, d, e, f, g, h, i].map V.int)) := upd_same
theorem drop3 {cs : List Int} {n : Nat} (h : n + 3 ≤ cs.length) : ∃ a b c r, cs.drop n = a :: b :: c :: r := by
  have hl : (cs.drop n).length = cs.length - n := List.length_drop
  match e : cs.drop n, hl with
  | a :: b :: c :: r, _ => exact ⟨a, b, c, r, rfl⟩
  | [], hl => simp at hl; omega
  | [_], hl => simp at hl; omega
  | [_, _], hl => simp at hl; omega
theorem three {ns : List Int} (h : (((ns.map V.int).length : Nat) : Int) = 3) : ∃ a b c, ns = [a, b, c] := by
  rw [List.length_map] at h
  match ns, h with
  | [a, b, c], _ => exact ⟨a, b, c, rfl⟩
  | [], h => simp at h
  | [_], h => simp at h
  | [_, _], h => simp at h
  | _ :: _ :: _ :: _ :: _, h => simp at h; omega
theorem bg_eq {k x y z : Int} (h : y ≥ 0) : decide ([x, y, z] = [k, y, -1 - y]) = bg k [x, y, z] := by
  show _ = (decide (x = k) && (decide (0 ≤ y) && decide (z = -1 - y)))
  by_cases a : x = k <;> by_cases b : z = -1 - y <;> simp [a, b, h]
theorem bg_neg {k x y z : Int} (h : ¬ y ≥ 0) : bg k [x, y, z] = false := by
  show (decide (x = k) && (decide (0 ≤ y) && decide (z = -1 - y))) = false
  simp [show ¬ 0 ≤ y from h]
theorem bg_len {k : Int} {ns : List Int} (h : (((ns.map V.int).length : Nat) : Int) ≠ 3) : bg k ns = false := by
  match ns, h with
  | [a, b, c], h => exact absurd rfl h
  | [], _ => rfl
  | [_], _ => rfl
  | [_, _], _ => rfl
  | _ :: _ :: _ :: _ :: _, _ => rfl
theorem upd_none {H : Hp} {a p : Addr} {o : HO} (n : H p = none) (h : upd H p o a = none) : H a = none := by
  by_cases e : a = p
  · rw [e]; exact n
  · rw [upd_ne e] at h; exact h
end K32

end
section
set_option Elab.async false
set_option linter.all false
set_option maxRecDepth 100000
set_option maxHeartbeats 4000000
namespace K32
open PySem L2 Kit KR
def top (i : Nat) : Stmt := PySem.Challenge.pw_pullstore_k32_disks_cut_anywhere.main.body.getD i (.Pass ⟨0, 0, 0, 0⟩)
local macro_rules | `(tactic| fail "om") => `(tactic| first | omega | (simp only [List.length_map, List.length_append, List.length_cons, List.length_nil]; omega) | (simp only [List.length_map, List.length_append, List.length_cons, List.length_nil] at *; omega) | assumption | decide | (simp only [List.length_append, List.length_map, List.length_cons, List.length_nil, List.length_take, List.length_drop, frs_len]; omega) | fail "no om")
local macro_rules | `(tactic| fail "nz") => `(tactic| first | decide | omega | fail "no nz")
local macro_rules | `(tactic| fail "dv") => `(tactic| exact ⟨by first | decide | omega, by first | decide | omega⟩)
local macro_rules | `(tactic| fail "mul") => `(tactic| first | exact .inr ⟨by decide, by decide⟩ | exact .inl ⟨by decide, by decide⟩ | exact mulF (by decide) (by decide) | exact .inl ⟨by omega, by omega⟩ | exact .inr ⟨by omega, by omega⟩ | fail "no mul")
local macro_rules | `(tactic| fail "sz") => `(tactic| first | assumption | exact Nat.zero_le _ | (show 1 ≤ sizeLine; decide) | (show 2 ≤ sizeLine; decide) | (show 3 ≤ sizeLine; decide) | (show 4 ≤ sizeLine; decide) | (show 5 ≤ sizeLine; decide) | exact Evl.sz_of (by omega) | (refine Evl.sz_of ?_; simp only [List.length_append, List.length_map, List.length_cons, List.length_nil]; omega) | (refine Evl.sz_of ?_; simp only [List.length_append, List.length_map, List.length_cons, List.length_nil, List.length_take, List.length_drop, frs_len]; omega) | (show 7 ≤ sizeLine; decide) | (show 9 ≤ sizeLine; decide) | fail "no sz")
local macro_rules | `(tactic| fail "szl") => `(tactic| first | exact Evl.sz_lt (by omega) | (refine Evl.sz_lt ?_; simp only [List.length_append, List.length_map, List.length_cons, List.length_nil]; omega) | fail "no szl")
local macro_rules | `(tactic| fail "ix") => `(tactic| first | assumption | exact ix0 | exact ix1 | exact ix2 | exact at_ref (by assumption) (by omega) | exact at_int (by assumption) (by omega) | exact at_drawn (by assumption) (by assumption) | exact at_lit (by first | assumption | omega) (by fail "om") | rfl | fail "no ix")
local macro_rules | `(tactic| fail "ixn") => `(tactic| first | rfl | assumption | fail "no ixn")
local macro_rules | `(tactic| fail "nb") => `(tactic| first | assumption | exact nb_tup | exact nb_nil | exact nb_ints | exact nb_refs | exact nb_ins | exact nb_dT | exact nb_frz | fail "no nb")
local macro_rules | `(tactic| fail "ne") => `(tactic| first | assumption | exact Ne.symm (by assumption) | exact ne_of_none (by assumption) (by assumption) | exact (ne_of_none (by assumption) (by assumption)).symm | exact ne_of (by assumption) (by assumption) (by intro q; cases q) | exact ne_of (by assumption) (by assumption) (by simp) | fail "no ne")
local macro_rules | `(tactic| fail "hp") => `(tactic| first | assumption | exact upd_same | exact lit0 | exact lit1 | exact lit3 | exact lit7 | exact lit9 | exact lit2 | (refine' Tk.get (by assumption) ?k1; (case k1 => fail "tk")) | (with_reducible refine' upd_new ?h1 ?n1; (case n1 => assumption); (case h1 => fail "hp")) | (refine' Same.get (by assumption) ?h1; (case h1 => fail "hp")) | (refine' Kp.get (by assumption) (by fail "bx") ?h1 ?d1; (case h1 => fail "hp"); (case d1 => fail "nb")) | (with_reducible refine' upd_oth ?h1 ?n1; (case n1 => fail "ne"); (case h1 => fail "hp")) | (with_reducible refine' upd_oth ?h1 ?n1; (case h1 => fail "hp"); (case n1 => fail "ne")) | fail "no hp")
local macro_rules | `(tactic| fail "bx") => `(tactic| first | assumption | (with_reducible refine' BoxOk.new ?h1 ?n1; (case n1 => assumption); (case h1 => fail "bx")) | (refine' BoxOk.same (by assumption) ?h1; (case h1 => fail "bx")) | (with_reducible refine' BoxOk.mut ?h1 ?h2 ?n1; (case n1 => assumption); (case h2 => assumption); (case h1 => fail "bx")) | fail "no bx")
local macro_rules | `(tactic| fail "kp") => `(tactic| first | assumption | exact Kp.refl | (with_reducible refine' Kp.at ?h1; (case h1 => fail "kp")) | (with_reducible refine' Kp.new ?h1 ?n1; (case n1 => assumption); (case h1 => fail "kp")) | (with_reducible refine' Kp.mut ?h1 ?n1; (case n1 => assumption); (case h1 => fail "kp")) | (refine' Kp.tr (by assumption) ?h1; (case h1 => fail "kp")) | (refine' Kp.tr (Kp.of (by assumption)) ?h1; (case h1 => fail "kp")) | fail "no kp")
local macro_rules | `(tactic| fail "ite") => `(tactic| first | refine iteT ?_ | refine iteF ?_)
local macro_rules | `(tactic| fail "tt") => `(tactic| first | rfl | exact decide_eq_true (by first | rfl | omega | assumption) | exact decide_eq_true (congrArg V.int (by first | rfl | omega)) | fail "no tt")
local macro_rules | `(tactic| fail "cv") => `(tactic| first | exact .ty _ | exact .own _)
local macro_rules | `(tactic| fail "tx") => `(tactic| first | exact .base (.int _) | exact .base (.bl _) | exact .base .non | exact .base (.lst (by fail "hp")) | exact .base (.tup (by fail "hp")) | fail "no tx")
local macro_rules | `(tactic| fail "dead") => `(tactic| (exfalso; first | omega | contradiction | simp_all))
local macro_rules | `(tactic| fail "dp") => `(tactic| first | exact .tup (SqT.of (by fail "hp")) (.cons (.int _) (.cons (.int _) .nil)) | exact .lst (SqL.of (by fail "hp")) (dpPrs (by fail "pr")) | exact .lst (SqL.of (by fail "hp")) (dpInts _) | exact .lst (SqL.of (by fail "hp")) .nil | fail "no dp")
local macro_rules | `(tactic| fail "shp") => `(tactic| first | assumption | exact prD_shaped _ | exact PySem.W.ke_shaped_ints _ | rfl | fail "no shp")
local macro_rules | `(tactic| fail "pr") => `(tactic| first | assumption | exact PrT.mono (by assumption) (by fail "tk") | fail "no pr")
local macro_rules | `(tactic| fail "tk") => `(tactic| first | assumption | exact Tk.refl | (with_reducible refine' Tk.new ?h1 ?n1; (case n1 => assumption); (case h1 => fail "tk")) | (refine' Tk.tr (Kp.tk (by assumption) (by fail "bx")) ?h1; (case h1 => fail "tk")) | (refine' Tk.tr (Same.tk (by assumption)) ?h1; (case h1 => fail "tk")) | (with_reducible refine' Tk.lst ?h1 ?n1; (case n1 => fail "hp"); (case h1 => fail "tk")) | fail "no tk")
local macro_rules | `(tactic| fail "kt") => `(tactic| first | exact upd_same | assumption | fail "hp")
local macro_rules | `(tactic| fail "mono") => `(tactic| first | exact fun _ _ _ _ h q => h _ _ q | exact fun _ _ _ _ h q => (let ⟨v, e, z⟩ := q; ⟨v, e, h _ _ z⟩) | exact fun _ _ _ _ h q => (let ⟨v, e, u, f, z⟩ := q; ⟨v, e, u, f, h _ _ z⟩) | fail "no mono")
local macro_rules | `(tactic| fail "sm") => `(tactic| first | assumption | exact Same.refl _ | (with_reducible refine' Same.new ?h1 ?n1; (case n1 => assumption); (case h1 => fail "sm")) | (refine' Same.tr (by assumption) ?h1; (case h1 => fail "sm")) | fail "no sm")
theorem dvw {i j : Int} (h1 : 1 ≤ j) (h2 : j ≤ 1000000000000000000000000000000) : CDivW i j := wide_div (b := 100) (by omega) (by
  have : (2 : Nat) ^ 100 = 1267650600228229401496703205376 := by decide
  rw [this]; omega) (by decide) (by decide)
local macro_rules | `(tactic| fail "dw") => `(tactic| first | exact dvw (by omega) (by omega) | fail "no dw")
local macro_rules | `(tactic| fail "rdd") => `(tactic| first | assumption | exact rdT (by assumption) (by assumption) | exact rdS (by assumption) (by assumption) (by fail "om") (by assumption) | rfl | fail "no rdd")
theorem fr0 {b bc p : Addr} {H H' : Hp} (n : H' p = none) (k : Kp b H H') (x : BoxOk H' b bc) : H p = none := Kp.free k x n
local macro_rules | `(tactic| fail "fr") => `(tactic| first | assumption | exact fr0 (by assumption) (by fail "kp") (by fail "bx") | fail "no fr")
local macro_rules | `(tactic| fail "ll") => `(tactic| first | omega | (simp only [List.length_append, List.length_map, List.length_cons, List.length_nil, List.length_take, List.length_drop, frs_len] at *; omega) | fail "no ll")

def Df (K : PySem.W.Frag) (mg : Str → Option Value) (x : Str) (st : Stmt) (ps : List Str) : Prop := ∃ (f : Addr) (fd : FuncData), L2.Fun K x x st f fd ∧ mg x = some (.ref f) ∧ Binds K fd ps []
structure Txt (K : PySem.W.Frag) (mg : Str → Option Value) : Prop where
  len : mg "len" = none
  int : mg "int" = none
  bool : mg "bool" = none
  list : mg "list" = none
  tuple : mg "tuple" = none
  range : mg "range" = none
  isinstance : mg "isinstance" = none
  sum : mg "sum" = none
  enumerate : mg "enumerate" = none
  frame : ∃ t, mg "FRAME" = some (.int 3 t)
section
variable {P : Program} {w : World} {K : PySem.W.Frag} {mg : Str → Option Value} {base : Heap}

abbrev sFrameOf : Stmt := top 3
theorem scFrameOf : FnScope ["index", "entry"] ["index", "entry"] (defScope sFrameOf) := ⟨rfl, rfl, rfl, by decide +kernel, rfl, by decide +kernel, by decide +kernel⟩
def spFrameOf : Sp := fun vs H Q _ => ∃ (k e : Int), vs = [.int k, .int e] ∧ ∀ (p : Addr) (H' : Hp), H p = none → Same H H' → H' p = some (.lst (([k, e, -1 - e] : List Int).map V.int)) → Q (.ref p) H'
theorem ok_FrameOf (D : Df K mg "frame_of" sFrameOf ["index", "entry"]) (T : Txt K mg) : C8.Cal P w K mg base 1 "frame_of" spFrameOf [] := by
  obtain ⟨f, fd, F, hm, hb⟩ := D
  refine ⟨f, fd, ["index", "entry"], [], F.ok scFrameOf (fun vs H Q E h => ?_) (fun cdv A outer s H vs Q E hr h => ?_), hm, F.kp, hb, .nil⟩
  · obtain ⟨k, e, rfl, z⟩ := h
    rfl
  · obtain ⟨k, e, rfl, z⟩ := h
    refine ⟨_, (pss_one (ps_ret (pe_lst (pa_cons (pv 0) (pa_cons (pv 1) (pa_cons (pe_op op_sub (pe_un un_neg pe_int) (pv 1)) pa_nil)))))), ?_⟩
    -- return [index, entry, -1 - entry]
    refine ⟨_, rfl, _, rfl, _, rfl, _, rfl, _, _, rfl, rfl, (by fail "sz"), fun p1 np1 => ?_⟩
    exact z _ _ np1 (Same.new (Same.refl _) np1) upd_same
abbrev sBegins : Stmt := top 5
theorem scBegins : FnScope ["cells", "index"] ["cells", "index"] (defScope sBegins) := ⟨rfl, rfl, rfl, by decide +kernel, rfl, by decide +kernel, by decide +kernel⟩
def spBegins : Sp := fun vs H Q _ => ∃ (a : Addr) (ns : List Int) (k : Int), vs = [.ref a, .int k] ∧ H a = some (.lst (ns.map V.int)) ∧ ns.length ≤ 3 ∧ ∀ (H' : Hp), Same H H' → Q (.bl (bg k ns)) H'
theorem ok_Begins (D : Df K mg "begins_frame" sBegins ["cells", "index"]) (T : Txt K mg) (GFrameOf : C8.Cal P w K mg base 1 "frame_of" spFrameOf []) : C8.Cal P w K mg base 2 "begins_frame" spBegins [] := by
  obtain ⟨f, fd, F, hm, hb⟩ := D
  refine ⟨f, fd, ["cells", "index"], [], F.ok scBegins (fun vs H Q E h => ?_) (fun cdv A outer s H vs Q E hr h => ?_), hm, F.kp, hb, .nil⟩
  · obtain ⟨a, ns, k, rfl, ha, hl, z⟩ := h
    rfl
  · obtain ⟨a, ns, k, rfl, ha, hl, z⟩ := h
    obtain ⟨ftk, hFRAME⟩ := T.frame
    refine ⟨_, (pss_one (ps_ret (pe_and (pe_cmpR op_eq (pe_callB call_len_seq (by rfl) T.len (by decide +kernel) (pa_cons (pv 0) pa_nil)) (pe_glob (v := .int 3) rfl hFRAME ⟨_, rfl⟩) (nomark _)) (pe_and (pe_cmpR op_ge (pe_ix ix_list (pv 0) pe_int (fun _ _ => rfl)) pe_int (nomark _)) (pe_one (pe_cmpR (op_eqD hr.units) (pv 0) (C8.pe_c GFrameOf hr (by decide) (by rfl) (pa_cons (pv 1) (pa_cons (pe_ix ix_list (pv 0) pe_int (fun _ _ => rfl)) pa_nil))) (nomark _))))))), ?_⟩
    -- return len(cells) == FRAME and cells[1] >= 0 and (cells == frame_of(index, cells[1]))
    refine ⟨_, rfl, _, _, rfl, .inl (SqL.of (by fail "hp")), rfl, _, rfl, ?_⟩
    refine ifEqI (fun g3 => ?_) (fun g3 => ?_)
    · obtain ⟨x1, x2, x3, rfl⟩ := three g3
      refine ⟨_, rfl, _, _, _, _, rfl, rfl, SqL.of (by fail "hp"), (by fail "ix"), _, _, rfl, rfl, _, rfl, ?_⟩
      refine ifD (fun g2 => ?_) (fun g2 => ?_)
      · refine ⟨_, rfl, _, rfl, _, rfl, _, _, _, _, rfl, rfl, SqL.of (by fail "hp"), (by fail "ix"), _, _, rfl, fun p1 H1 np1 sm1 hp1 => ⟨_, _, (by fail "dp"), (by fail "dp"), (by fail "shp"), (by fail "shp"), ?_⟩⟩
        rw [eqv_ii, bg_eq (of_decide_eq_true (decide_eq_true g2))]
        exact z _ sm1
      · have q := z _ (Same.refl _)
        rw [bg_neg g2] at q
        exact q
    · have q := z _ (Same.refl _)
      rw [bg_len g3] at q
      exact q
abbrev sScan : Stmt := top 4
theorem scScan : FnScope ["cells", "entries", "start"] ["cells"] (defScope sScan) := ⟨rfl, rfl, rfl, by decide +kernel, rfl, by decide +kernel, by decide +kernel⟩
def spScan : Sp := fun vs H Q _ => ∃ (a : Addr) (ns : List Int), vs = [.ref a] ∧ H a = some (.lst (ns.map V.int)) ∧ ns.length ≤ 3000 ∧ ∀ (t p : Addr) (H' : Hp), Same H H' → H t = none → H p = none → H' t = some (.tup [.ref p, .int ((3 * (rd 0 ns).length : Nat) : Int)]) → H' p = some (.lst ((rd 0 ns).map V.int)) → Q (.ref t) H'
theorem ok_Scan (D : Df K mg "scan" sScan ["cells"]) (T : Txt K mg) (GBegins : C8.Cal P w K mg base 2 "begins_frame" spBegins []) : C8.Cal P w K mg base 3 "scan" spScan [] := by
  obtain ⟨f, fd, F, hm, hb⟩ := D
  refine ⟨f, fd, ["cells"], [], F.ok scScan (fun vs H Q E h => ?_) (fun cdv A outer s H vs Q E hr h => ?_), hm, F.kp, hb, .nil⟩
  · obtain ⟨a, ns, rfl, ha, hl, z⟩ := h
    rfl
  · obtain ⟨a, ns, rfl, ha, hl, z⟩ := h
    obtain ⟨ftk, hFRAME⟩ := T.frame
    refine ⟨_, (pss_cons (ps_set (i := 1) scScan.nd rfl (Or.inl rfl) (pe_lst pa_nil))
      (pss_cons (ps_set (i := 2) scScan.nd rfl (Or.inl rfl) pe_int)
      (pss_cons (ps_while PassesOwn.never (pt_val (C8.pe_c GBegins hr (by decide) (by rfl) (pa_cons (pe_slice sl_mid (pv 0) (po_some (pv 2)) (po_some (pe_op op_add (pv 2) (pe_glob (v := .int 3) rfl hFRAME ⟨_, rfl⟩)))) (pa_cons (pe_callB call_len_seq (by rfl) T.len (by decide +kernel) (pa_cons (pv 1) pa_nil)) pa_nil))))
        (pss_cons (ps_expr (pe_bm PySem.F.plainAttrs_list PySem.F.slot_list_append PySem.F.type_list_append mt_append (pv 1) (pa_cons (pe_ix ix_list (pv 0) (pe_op op_add (pv 2) pe_int) (fun _ _ => rfl)) pa_nil)))
        (pss_one (ps_set (i := 2) scScan.nd rfl (Or.inl rfl) (pe_op op_add (pv 2) (pe_glob (v := .int 3) rfl hFRAME ⟨_, rfl⟩))))))
      (pss_one (ps_ret (pe_tup (pa_cons (pv 1) (pa_cons (pv 2) pa_nil)))))))), ?_⟩
    -- entries = []
    refine ⟨(by fail "sz"), fun p1 np1 => ?_⟩
    -- start = 0
    -- while begins_frame(cells[start:start + FRAME], len(entries)):
    refine ⟨fun m σ HL => ∃ es : List Int, Sc ns es ∧ m + es.length = ns.length ∧ σ = [some (.ref a), some (.ref p1), some (.int ((3 * es.length : Nat) : Int))] ∧ Same H HL ∧ HL p1 = some (.lst (es.map V.int)), ⟨ns.length, [], Sc.init ns, rfl, rfl, Same.new (Same.refl H) np1, upd_same⟩, ?_⟩
    rintro m σ HL ⟨es, sc, em, rfl, sm, hp⟩
    have les : 3 * es.length ≤ ns.length := sc.2
    have ltk : ((ns.drop (((3 * es.length : Nat) : Int)).toNat).take ((((3 * es.length : Nat) : Int) + 3).toNat - (((3 * es.length : Nat) : Int)).toNat)) = (ns.drop (3 * es.length)).take 3 := by
      rw [Int.toNat_natCast]
      congr 1
      omega
    have llt : ((ns.drop (((3 * es.length : Nat) : Int)).toNat).take ((((3 * es.length : Nat) : Int) + 3).toNat - (((3 * es.length : Nat) : Int)).toNat)).length ≤ 3 := by
      rw [ltk, List.length_take]
      omega
    refine ⟨_, rfl, _, rfl, _, rfl, _, rfl, _, _, rfl, rfl, _, rfl, _, _, _, _, rfl, rfl, rfl, (by fail "om"), (by fail "om"), SqL.of (by fail "hp"), fun p3 np3 => ⟨_, rfl, _, _, rfl, .inl (SqL.of (by fail "hp")), _, _, _, rfl, (by fail "hp"), (by fail "om"), fun H2 sm2 => ⟨_, rfl, ?_⟩⟩⟩
    refine ifB (fun g4 => ?_) (fun g4 => ?_)
    · refine ⟨fun σ' H' => ∃ m', m' < m ∧ ∃ es : List Int, Sc ns es ∧ m' + es.length = ns.length ∧ σ' = [some (.ref a), some (.ref p1), some (.int ((3 * es.length : Nat) : Int))] ∧ Same H H' ∧ H' p1 = some (.lst (es.map V.int)), fun _ _ h => h, ?_⟩
      rw [ltk, List.length_map] at g4
      obtain ⟨x, y, z1, r, er, ea, eb, ec⟩ := bg_true g4
      obtain ⟨i1, i2, i3⟩ := drop_three er
      have sc2 := sc.step er ⟨ea, eb, ec⟩
      have les2 := sc2.2
      have ixe := at_int (z := ((3 * es.length : Nat) : Int) + 1) i2 (by omega)
      rw [List.length_append] at les2
      -- entries.append(cells[start + 1])
      refine ⟨_, rfl, .inl ⟨rfl, _, SqL.of (by fail "hp")⟩, _, rfl, _, rfl, _, _, rfl, rfl, _, _, _, _, rfl, rfl, SqL.of (by fail "hp"), (by fail "ix"), _, _, _, rfl, rfl, (by fail "hp"), (by fail "szl"), ?_⟩
      -- start = start + FRAME
      refine ⟨_, rfl, _, _, rfl, rfl, ?_⟩
      refine ⟨m - 1, ?_, es ++ [y], sc2, ?_, ?_, ?_, ?_⟩
      · simp at les2; omega
      · simp at les2 ⊢; omega
      · rw [List.length_append]
        congr 4
      · exact Same.mut (Same.tr sm2 (Same.new sm np3)) np1
      · rw [upd_same, List.map_append]
        rfl
    · rw [ltk, List.length_map] at g4
      have done := sc.stop (bg_false g4)
      -- return (entries, start)
      refine ⟨_, rfl, _, rfl, (by fail "sz"), fun p5 np5 => ?_⟩
      exact z _ _ _ (Same.new (Same.tr sm2 (Same.new sm np3)) np5) (sm.free (upd_none np3 (sm2.free np5))) np1 (by rw [upd_same, done]) (by rw [done]; fail "hp")
abbrev sMend : Stmt := top 6
theorem scMend : FnScope ["cells", "_", "many"] ["cells"] (defScope sMend) := ⟨rfl, rfl, rfl, by decide +kernel, rfl, by decide +kernel, by decide +kernel⟩
def spMend : Sp := fun vs H Q _ => ∃ (a : Addr) (ns : List Int), vs = [.ref a] ∧ H a = some (.lst (ns.map V.int)) ∧ ns.length ≤ 3000 ∧ ∀ (p : Addr) (H' : Hp), Same H H' → H p = none → H' p = some (.lst ((ns.take (3 * (rd 0 ns).length)).map V.int)) → Q (.ref p) H'
theorem ok_Mend (D : Df K mg "mend" sMend ["cells"]) (T : Txt K mg) (GScan : C8.Cal P w K mg base 3 "scan" spScan []) : C8.Cal P w K mg base 4 "mend" spMend [] := by
  obtain ⟨f, fd, F, hm, hb⟩ := D
  refine ⟨f, fd, ["cells"], [], F.ok scMend (fun vs H Q E h => ?_) (fun cdv A outer s H vs Q E hr h => ?_), hm, F.kp, hb, .nil⟩
  · obtain ⟨a, ns, rfl, ha, hl, z⟩ := h
    rfl
  · obtain ⟨a, ns, rfl, ha, hl, z⟩ := h
    refine ⟨_, (pss_cons (ps_asg (C8.pe_c GScan hr (by decide) (by rfl) (pa_cons (pv 0) pa_nil)) (pg_tup rfl (pgs_cons (pg_name (i := 1) scMend.nd rfl (Or.inl rfl)) (pgs_cons (pg_name (i := 2) scMend.nd rfl (Or.inl rfl)) pgs_nil))))
      (pss_one (ps_ret (pe_slice sl_to (pv 0) po_none (po_some (pv 2)))))), ?_⟩
    -- _, many = scan(cells)
    refine ⟨_, rfl, _, _, rfl, (by fail "hp"), (by fail "om"), fun t1 p1 H1 sm1 nt1 np1 ht1 hp1 => ⟨_, _, rfl, SqT.of (by fail "hp"), rfl, _, _, rfl, _, _, rfl, rfl, ?_⟩⟩
    -- return cells[:many]
    refine ⟨_, rfl, _, rfl, _, rfl, _, _, _, rfl, rfl, rfl, (by fail "om"), SqL.of (by fail "hp"), fun p2 np2 => ?_⟩
    exact z _ _ (Same.new sm1 np2) (sm1.free np2) upd_same
abbrev sFrames : Stmt := top 2
theorem scFrames : FnScope ["log", "cells", "index", "entry"] ["log"] (defScope sFrames) := ⟨rfl, rfl, rfl, by decide +kernel, rfl, by decide +kernel, by decide +kernel⟩
def spFrames : Sp := fun vs H Q _ => ∃ (a : Addr) (ns : List Int), vs = [.ref a] ∧ H a = some (.lst (ns.map V.int)) ∧ ns.length ≤ 1000 ∧ ∀ (p : Addr) (H' : Hp), Same H H' → H p = none → H' p = some (.lst ((frs 0 ns).map V.int)) → Q (.ref p) H'
theorem ok_Frames (D : Df K mg "frames" sFrames ["log"]) (T : Txt K mg) (GFrameOf : C8.Cal P w K mg base 1 "frame_of" spFrameOf []) : C8.Cal P w K mg base 2 "frames" spFrames [] := by
  obtain ⟨f, fd, F, hm, hb⟩ := D
  refine ⟨f, fd, ["log"], [], F.ok scFrames (fun vs H Q E h => ?_) (fun cdv A outer s H vs Q E hr h => ?_), hm, F.kp, hb, .nil⟩
  · obtain ⟨a, ns, rfl, ha, hl, z⟩ := h
    rfl
  · obtain ⟨a, ns, rfl, ha, hl, z⟩ := h
    refine ⟨_, (pss_cons (ps_set (i := 1) scFrames.nd rfl (Or.inl rfl) (pe_lst pa_nil))
      (pss_cons (ps_for PassesOwn.never rfl (pi_enum (by rfl) T.enumerate (pa_cons (pv 0) pa_nil)) (pg_tup rfl (pgs_cons (pg_name (i := 2) scFrames.nd rfl (Or.inl rfl)) (pgs_cons (pg_name (i := 3) scFrames.nd rfl (Or.inl rfl)) pgs_nil)))
        (pss_one (ps_expr (pe_bm PySem.F.plainAttrs_list PySem.F.slot_list_extend PySem.F.type_list_extend mt_extend (pv 1) (pa_cons (C8.pe_c GFrameOf hr (by decide) (by rfl) (pa_cons (pv 2) (pa_cons (pv 3) pa_nil))) pa_nil)))))
      (pss_one (ps_ret (pv 1))))), ?_⟩
    -- cells = []
    refine ⟨(by fail "sz"), fun p1 np1 => ?_⟩
    -- for index, entry in enumerate(log):
    refine ⟨_, rfl, _, _, rfl, SqL.of (by fail "hp"), for_it (walk_enum (K := K) (a := a) (xs := ns.map V.int)) (fun i σ H' => ∃ v w, σ = [some (.ref a), some (.ref p1), v, w] ∧ Same H H' ∧ H' p1 = some (.lst ((frs 0 (ns.take i)).map V.int))) ⟨none, none, rfl, Same.new (Same.refl H) np1, upd_same⟩ (fun i σ H' _ z => by obtain ⟨v, w, _, sm, _⟩ := z; exact SqL.of (sm _ _ ha)) ?_ ?_⟩
    · rintro i x σ H2 H3 hi ⟨v, w, rfl, sm, ht⟩ ⟨tt, x1, y1, rfl, nt, rfl, e1, e2⟩
      cases e1
      rw [List.length_map] at hi
      have e2 : (ns.map V.int)[i]? = some y1 := e2
      rw [List.getElem?_map, List.getElem?_eq_getElem hi] at e2
      cases e2
      have lfr : (frs 0 (ns.take i)).length ≤ 3 * i := by rw [frs_len, List.length_take]; omega
      refine ⟨_, _, rfl, SqT.of (by fail "hp"), rfl, _, _, rfl, _, _, rfl, rfl, ?_⟩
      -- cells.extend(frame_of(index, entry))
      refine ⟨_, rfl, .inl ⟨rfl, _, SqL.of (by fail "hp")⟩, _, rfl, _, rfl, _, _, rfl, fun p2 H2 np2 sm2 hp2 => ⟨_, _, _, _, rfl, rfl, (by fail "hp"), (by fail "hp"), (by fail "sz"), ?_⟩⟩
      refine ⟨_, _, rfl, ?_, ?_⟩
      · exact Same.mut (Same.tr sm2 (Same.new sm nt)) np1
      · rw [upd_same, List.take_succ_eq_append_getElem hi, frs_snoc, List.length_take, Nat.min_eq_left (Nat.le_of_lt hi), List.map_append]
    · rintro σ H2 ⟨v, w, rfl, sm, ht⟩
      rw [List.length_map, List.take_length] at ht
      -- return cells
      refine ⟨_, rfl, ?_⟩
      exact z _ _ sm np1 ht
end
end K32

end
section
set_option Elab.async false
set_option linter.all false
set_option maxRecDepth 100000
set_option maxHeartbeats 4000000
namespace K32
open PySem L2 Kit KR
local macro_rules | `(tactic| fail "om") => `(tactic| first | omega | (simp only [List.length_map, List.length_append, List.length_cons, List.length_nil]; omega) | (simp only [List.length_map, List.length_append, List.length_cons, List.length_nil] at *; omega) | assumption | decide | (simp only [List.length_append, List.length_map, List.length_cons, List.length_nil, List.length_take, List.length_drop, frs_len]; omega) | fail "no om")
local macro_rules | `(tactic| fail "nz") => `(tactic| first | decide | omega | fail "no nz")
local macro_rules | `(tactic| fail "dv") => `(tactic| exact ⟨by first | decide | omega, by first | decide | omega⟩)
local macro_rules | `(tactic| fail "mul") => `(tactic| first | exact .inr ⟨by decide, by decide⟩ | exact .inl ⟨by decide, by decide⟩ | exact mulF (by decide) (by decide) | exact .inl ⟨by omega, by omega⟩ | exact .inr ⟨by omega, by omega⟩ | fail "no mul")
local macro_rules | `(tactic| fail "sz") => `(tactic| first | assumption | exact Nat.zero_le _ | (show 1 ≤ sizeLine; decide) | (show 2 ≤ sizeLine; decide) | (show 3 ≤ sizeLine; decide) | (show 4 ≤ sizeLine; decide) | (show 5 ≤ sizeLine; decide) | exact Evl.sz_of (by omega) | (refine Evl.sz_of ?_; simp only [List.length_append, List.length_map, List.length_cons, List.length_nil]; omega) | (refine Evl.sz_of ?_; simp only [List.length_append, List.length_map, List.length_cons, List.length_nil, List.length_take, List.length_drop, frs_len]; omega) | (show 7 ≤ sizeLine; decide) | (show 9 ≤ sizeLine; decide) | fail "no sz")
local macro_rules | `(tactic| fail "szl") => `(tactic| first | exact Evl.sz_lt (by omega) | (refine Evl.sz_lt ?_; simp only [List.length_append, List.length_map, List.length_cons, List.length_nil]; omega) | fail "no szl")
local macro_rules | `(tactic| fail "ix") => `(tactic| first | assumption | exact ix0 | exact ix1 | exact ix2 | exact at_ref (by assumption) (by omega) | exact at_int (by assumption) (by omega) | exact at_drawn (by assumption) (by assumption) | exact at_lit (by first | assumption | omega) (by fail "om") | rfl | fail "no ix")
local macro_rules | `(tactic| fail "ixn") => `(tactic| first | rfl | assumption | fail "no ixn")
local macro_rules | `(tactic| fail "nb") => `(tactic| first | assumption | exact nb_tup | exact nb_nil | exact nb_ints | exact nb_refs | exact nb_ins | exact nb_dT | exact nb_frz | fail "no nb")
local macro_rules | `(tactic| fail "ne") => `(tactic| first | assumption | exact Ne.symm (by assumption) | exact ne_of_none (by assumption) (by assumption) | exact (ne_of_none (by assumption) (by assumption)).symm | exact ne_of (by assumption) (by assumption) (by intro q; cases q) | exact ne_of (by assumption) (by assumption) (by simp) | fail "no ne")
local macro_rules | `(tactic| fail "hp") => `(tactic| first | assumption | exact upd_same | exact lit0 | exact lit1 | exact lit3 | exact lit7 | exact lit9 | exact lit2 | (refine' Tk.get (by assumption) ?k1; (case k1 => fail "tk")) | (with_reducible refine' upd_new ?h1 ?n1; (case n1 => assumption); (case h1 => fail "hp")) | (refine' Same.get (by assumption) ?h1; (case h1 => fail "hp")) | (refine' Kp.get (by assumption) (by fail "bx") ?h1 ?d1; (case h1 => fail "hp"); (case d1 => fail "nb")) | (with_reducible refine' upd_oth ?h1 ?n1; (case n1 => fail "ne"); (case h1 => fail "hp")) | (with_reducible refine' upd_oth ?h1 ?n1; (case h1 => fail "hp"); (case n1 => fail "ne")) | fail "no hp")
local macro_rules | `(tactic| fail "bx") => `(tactic| first | assumption | (with_reducible refine' BoxOk.new ?h1 ?n1; (case n1 => assumption); (case h1 => fail "bx")) | (refine' BoxOk.same (by assumption) ?h1; (case h1 => fail "bx")) | (with_reducible refine' BoxOk.mut ?h1 ?h2 ?n1; (case n1 => assumption); (case h2 => assumption); (case h1 => fail "bx")) | fail "no bx")
local macro_rules | `(tactic| fail "kp") => `(tactic| first | assumption | exact Kp.refl | (with_reducible refine' Kp.at ?h1; (case h1 => fail "kp")) | (with_reducible refine' Kp.new ?h1 ?n1; (case n1 => assumption); (case h1 => fail "kp")) | (with_reducible refine' Kp.mut ?h1 ?n1; (case n1 => assumption); (case h1 => fail "kp")) | (refine' Kp.tr (by assumption) ?h1; (case h1 => fail "kp")) | (refine' Kp.tr (Kp.of (by assumption)) ?h1; (case h1 => fail "kp")) | fail "no kp")
local macro_rules | `(tactic| fail "ite") => `(tactic| first | refine iteT ?_ | refine iteF ?_)
local macro_rules | `(tactic| fail "tt") => `(tactic| first | rfl | exact decide_eq_true (by first | rfl | omega | assumption) | exact decide_eq_true (congrArg V.int (by first | rfl | omega)) | fail "no tt")
local macro_rules | `(tactic| fail "cv") => `(tactic| first | exact .ty _ | exact .own _)
local macro_rules | `(tactic| fail "tx") => `(tactic| first | exact .base (.int _) | exact .base (.bl _) | exact .base .non | exact .base (.lst (by fail "hp")) | exact .base (.tup (by fail "hp")) | fail "no tx")
local macro_rules | `(tactic| fail "dead") => `(tactic| (exfalso; first | omega | contradiction | simp_all))
local macro_rules | `(tactic| fail "dp") => `(tactic| first | exact .tup (SqT.of (by fail "hp")) (.cons (.int _) (.cons (.int _) .nil)) | exact .lst (SqL.of (by fail "hp")) (dpPrs (by fail "pr")) | exact .lst (SqL.of (by fail "hp")) (dpInts _) | exact .lst (SqL.of (by fail "hp")) .nil | fail "no dp")
local macro_rules | `(tactic| fail "shp") => `(tactic| first | assumption | exact prD_shaped _ | exact PySem.W.ke_shaped_ints _ | rfl | fail "no shp")
local macro_rules | `(tactic| fail "pr") => `(tactic| first | assumption | exact PrT.mono (by assumption) (by fail "tk") | fail "no pr")
local macro_rules | `(tactic| fail "tk") => `(tactic| first | assumption | exact Tk.refl | (with_reducible refine' Tk.new ?h1 ?n1; (case n1 => assumption); (case h1 => fail "tk")) | (refine' Tk.tr (Kp.tk (by assumption) (by fail "bx")) ?h1; (case h1 => fail "tk")) | (refine' Tk.tr (Same.tk (by assumption)) ?h1; (case h1 => fail "tk")) | (with_reducible refine' Tk.lst ?h1 ?n1; (case n1 => fail "hp"); (case h1 => fail "tk")) | fail "no tk")
local macro_rules | `(tactic| fail "kt") => `(tactic| first | exact upd_same | assumption | fail "hp")
local macro_rules | `(tactic| fail "mono") => `(tactic| first | exact fun _ _ _ _ h q => h _ _ q | exact fun _ _ _ _ h q => (let ⟨v, e, z⟩ := q; ⟨v, e, h _ _ z⟩) | exact fun _ _ _ _ h q => (let ⟨v, e, u, f, z⟩ := q; ⟨v, e, u, f, h _ _ z⟩) | fail "no mono")
local macro_rules | `(tactic| fail "sm") => `(tactic| first | assumption | exact Same.refl _ | (with_reducible refine' Same.new ?h1 ?n1; (case n1 => assumption); (case h1 => fail "sm")) | (refine' Same.tr (by assumption) ?h1; (case h1 => fail "sm")) | fail "no sm")
theorem dvw2 {i j : Int} (h1 : 1 ≤ j) (h2 : j ≤ 1000000000000000000000000000000) : CDivW i j := wide_div (b := 100) (by omega) (by
  have : (2 : Nat) ^ 100 = 1267650600228229401496703205376 := by decide
  rw [this]; omega) (by decide) (by decide)
local macro_rules | `(tactic| fail "dw") => `(tactic| first | exact dvw (by omega) (by omega) | fail "no dw")
local macro_rules | `(tactic| fail "rdd") => `(tactic| first | assumption | exact rdT (by assumption) (by assumption) | exact rdS (by assumption) (by assumption) (by fail "om") (by assumption) | rfl | fail "no rdd")
theorem fr2 {b bc p : Addr} {H H' : Hp} (n : H' p = none) (k : Kp b H H') (x : BoxOk H' b bc) : H p = none := Kp.free k x n
local macro_rules | `(tactic| fail "fr") => `(tactic| first | assumption | exact fr2 (by assumption) (by fail "kp") (by fail "bx") | fail "no fr")
local macro_rules | `(tactic| fail "ll") => `(tactic| first | omega | (simp only [List.length_append, List.length_map, List.length_cons, List.length_nil, List.length_take, List.length_drop, frs_len] at *; omega) | fail "no ll")

section
variable {P : Program} {w : World} {K : PySem.W.Frag} {mg : Str → Option Value} {base : Heap}

abbrev sTape : Stmt := top 8
theorem scTape : FnScope ["script", "cell"] ["script"] (defScope sTape) := ⟨rfl, rfl, rfl, by decide +kernel, rfl, by decide +kernel, by decide +kernel⟩
def spTape (K : PySem.W.Frag) : Sp := fun vs H Q _ => ∃ (a : Addr) (ns : List Int), vs = [.ref a] ∧ SqL K H a (ns.map V.int) ∧ ns.length ≤ 63 ∧
  ∀ (b bc : Addr) (H' : Hp), H b = none → Same H H' → BoxOk H' b bc → Q (.ref b) H'
theorem ok_Tape (D : Df K mg "_law_tape" sTape ["script"]) (T : Txt K mg) : C8.Cal P w K mg base 1 "_law_tape" (spTape K) [] := by
  obtain ⟨f, fd, F, hm, hb⟩ := D
  refine ⟨f, fd, ["script"], [], F.ok scTape (fun vs H Q E h => ?_) (fun cdv A outer s H vs Q E hr h => ?_), hm, F.kp, hb, .nil⟩
  · obtain ⟨a, ns, rfl, ha, hl, k⟩ := h
    rfl
  · obtain ⟨a, ns, rfl, ha, hl, k⟩ := h
    refine ⟨_, (pss_one (ps_ret (pe_lst (pa_cons (pe_lc (own := [("cell", 1)]) (g := gName 1) (tt := tYes) rfl scTape.nd (pi_list (pe_slice sl_to (pv 0) po_none (po_some pe_int))) (blkOk_by (N := ["script", "cell"]) (sc := defScope sTape) (by decide +kernel)) (fun _ _ _ _ _ => (pg_name (i := 1) scTape.nd rfl (Or.inl rfl))) (fun _ _ _ _ _ => pts_nil) (fun _ _ _ _ _ => (pe_callTy call_int1 (by rfl) T.int (by decide +kernel) (pa_cons (pv 1) pa_nil)))) (pa_cons pe_int (pa_cons pe_int (pa_cons pe_int (pa_cons (pe_op op_modN (pe_callTy call_int1 (by rfl) T.int (by decide +kernel) (pa_cons (pe_callB (cr_sum rfl) (by rfl) T.sum (by decide +kernel) (pa_cons (pe_slice sl_to (pv 0) po_none (po_some pe_int)) pa_nil)) pa_nil)) pe_int) (pa_cons pe_int pa_nil))))))))), ?_⟩
    refine ⟨_, rfl, _, rfl, _, _, _, rfl, rfl, rfl, (by decide), ha, fun p3 np3 => ⟨_, rfl, ⟨_, SqL.of upd_same⟩, fun D1 nD1 => lc_list (K := K) (a := p3) (xs := (ns.take (63 : Int).toNat).map V.int) (fun i H' => Same (upd H p3 (.lst ((ns.take (63 : Int).toNat).map V.int))) H' ∧ H' D1 = some (.lst (((ns.take 63).take i).map V.int))) ⟨Same.new (Same.refl _) nD1, upd_same⟩ (fun i H' _ z => SqL.of (z.1 _ _ upd_same)) (fun i x H' hx z => ?_) (fun H2 z => ?_)⟩⟩
    · obtain ⟨sm, hD⟩ := z
      rw [List.getElem?_map] at hx
      cases e : (ns.take (63 : Int).toNat)[i]? with
      | none => rw [e] at hx; cases hx
      | some n =>
        rw [e] at hx
        cases hx
        refine ⟨rfl, ?_⟩
        unfold tYes
        refine iteT ?_
        have li : ((ns.take 63).take i).length ≤ 63 := by rw [List.length_take, List.length_take]; omega
        have hi : i < (ns.take 63).length := (List.getElem?_eq_some_iff.mp e).1
        have ei : (ns.take 63)[i]'hi = n := (List.getElem?_eq_some_iff.mp e).2
        refine ⟨_, rfl, .inl ⟨_, rfl, _, hD, Evl.sz_lt (by rw [List.length_map]; omega), Same.mut sm nD1, ?_⟩⟩
        rw [upd_same, List.take_succ_eq_append_getElem hi, List.map_append]
        rw [ei]
        rfl
    · obtain ⟨sm, hD⟩ := z
      rw [List.length_map] at hD
      have sm0 : Same H H2 := (Same.new (Same.refl H) np3).trans sm
      refine ⟨_, rfl, _, rfl, _, _, _, rfl, rfl, rfl, (by decide), sm0.seq ha, fun p2 np2 => ⟨_, _, rfl, SqL.of upd_same, .inl ⟨_, rfl, _, _, rfl, rfl, (by fail "nz"), (by fail "sz"), fun p1 np1 => ?_⟩⟩⟩
      refine k p1 D1 _ (sm0.free (upd_none np2 np1)) (Same.new (Same.new sm0 np2) np1) ⟨_, 0, 0, 0, _, 0, upd_same, upd_new (upd_new hD np2) np1, Int.le_refl 0⟩
abbrev sMixed : Stmt := top 9
theorem scMixed : FnScope ["seed", "turn", "many", "first", "second", "third"] ["seed", "turn", "many"] (defScope sMixed) := ⟨rfl, rfl, rfl, by decide +kernel, rfl, by decide +kernel, by decide +kernel⟩
def spMixed : Sp := fun vs H Q _ => ∃ (x y m : Int), vs = [.int x, .int y, .int m] ∧ 1 ≤ m ∧ ∀ (d : Int), 0 ≤ d → d < m → Q (.int d) H
theorem ok_Mixed (D : Df K mg "_law_mixed" sMixed ["seed", "turn", "many"]) (T : Txt K mg) : C8.Cal P w K mg base 1 "_law_mixed" spMixed [] := by
  obtain ⟨f, fd, F, hm, hb⟩ := D
  refine ⟨f, fd, ["seed", "turn", "many"], [], F.ok scMixed (fun vs H Q E h => ?_) (fun cdv A outer s H vs Q E hr h => ?_), hm, F.kp, hb, .nil⟩
  · obtain ⟨x, y, m, rfl, hm1, k⟩ := h
    rfl
  · obtain ⟨x, y, m, rfl, hm1, k⟩ := h
    refine ⟨_, (pss_cons (ps_set (i := 3) scMixed.nd rfl (Or.inl rfl) (pe_op op_modN (pe_callTy call_int1 (by rfl) T.int (by decide +kernel) (pa_cons (pe_op op_add (pe_op op_add (pe_op op_mul (pv 0) pe_int) (pe_op op_mul (pv 1) pe_int)) pe_int) pa_nil)) pe_int))
      (pss_cons (ps_set (i := 4) scMixed.nd rfl (Or.inl rfl) (pe_op op_modN (pe_callTy call_int1 (by rfl) T.int (by decide +kernel) (pa_cons (pe_op op_add (pe_op op_add (pe_op op_mul (pv 3) (pv 3)) (pe_op op_mul (pv 3) pe_int)) (pe_op op_mul (pv 1) pe_int)) pa_nil)) pe_int))
      (pss_cons (ps_set (i := 5) scMixed.nd rfl (Or.inl rfl) (pe_op op_modN (pe_callTy call_int1 (by rfl) T.int (by decide +kernel) (pa_cons (pe_op op_add (pe_op op_mul (pv 4) pe_int) (pe_op op_fdiv (pv 3) pe_int)) pa_nil)) pe_int))
      (pss_one (ps_ret (pe_op op_modN (pe_callTy call_int1 (by rfl) T.int (by decide +kernel) (pa_cons (pe_op op_fdiv (pv 5) pe_int) pa_nil)) (pv 2))))))), ?_⟩
    -- first = int(seed * 48271 + turn * 69621 + 653345) % 2147483647
    refine ⟨_, rfl, _, _, rfl, rfl, (by fail "mul"), _, rfl, _, _, rfl, rfl, (by fail "mul"), _, _, rfl, rfl, _, _, rfl, rfl, .inl ⟨_, rfl, _, _, rfl, rfl, (by fail "nz"), ?_⟩⟩
    -- second = int(first * first + first * 40692 + turn * 30011) % 2147483629
    refine ⟨_, rfl, _, rfl, _, _, rfl, rfl, (by fail "mul"), _, rfl, _, _, rfl, rfl, (by fail "mul"), _, _, rfl, rfl, _, rfl, _, _, rfl, rfl, (by fail "mul"), _, _, rfl, rfl, .inl ⟨_, rfl, _, _, rfl, rfl, (by fail "nz"), ?_⟩⟩
    -- third = int(second * 16807 + first // 11) % 998244353
    refine ⟨_, rfl, _, _, rfl, rfl, (by fail "mul"), _, rfl, _, _, rfl, rfl, (by fail "dv"), _, _, rfl, rfl, .inl ⟨_, rfl, _, _, rfl, rfl, (by fail "nz"), ?_⟩⟩
    -- return int(third // 13) % many
    refine ⟨_, rfl, _, _, rfl, rfl, (by fail "dv"), .inl ⟨_, rfl, _, rfl, _, _, rfl, rfl, (by fail "nz"), ?_⟩⟩
    exact k _ (fm0 _ (by omega)) (fm1 _ (by omega))
abbrev sDraw : Stmt := top 10
theorem scDraw : FnScope ["tape", "many", "digit", "numbers", "place"] ["tape", "many"] (defScope sDraw) := ⟨rfl, rfl, rfl, by decide +kernel, rfl, by decide +kernel, by decide +kernel⟩
def spDraw : Sp := fun vs H Q _ => ∃ (b bc : Addr) (m : Int), vs = [.ref b, .int m] ∧ BoxOk H b bc ∧ 1 ≤ m ∧ m ≤ 1000000000000000000000000000000 ∧
  ∀ (d : Int) (H' : Hp), 0 ≤ d → d < m → Kp b H H' → BoxOk H' b bc → Q (.int d) H'
theorem ok_Draw (D : Df K mg "_law_draw" sDraw ["tape", "many"]) (T : Txt K mg) (GMixed : C8.Cal P w K mg base 1 "_law_mixed" spMixed []) : C8.Cal P w K mg base 2 "_law_draw" spDraw [] := by
  obtain ⟨f, fd, F, hm, hb⟩ := D
  refine ⟨f, fd, ["tape", "many"], [], F.ok scDraw (fun vs H Q E h => ?_) (fun cdv A outer s H vs Q E hr h => ?_), hm, F.kp, hb, .nil⟩
  · obtain ⟨b, c, m, rfl, ⟨ns, x1, x2, x3, x4, x5, hb, hc, h1⟩, hm1, hm2, k⟩ := h
    rfl
  · obtain ⟨b, c, m, rfl, ⟨ns, x1, x2, x3, x4, x5, hb, hc, h1⟩, hm1, hm2, k⟩ := h
    have ncb : c ≠ b := box_c hb hc
    refine ⟨_, (pss_cons (ps_asg (pe_op op_add (pe_ix ix_list (pv 0) pe_int (fun _ _ => rfl)) pe_int) (pg_sub (pv 0) pe_int set_list))
      (pss_cons (ps_if (PW.pt (pw_and (pt_cmpR op_gt (pe_ix ix_list (pv 0) pe_int (fun _ _ => rfl)) pe_int (nomark _)) (pw_and1 (pt_cmpR op_lt (pe_ix ix_list (pv 0) pe_int (fun _ _ => rfl)) pe_int (nomark _)))))
        (pss_cons (ps_set (i := 2) scDraw.nd rfl (Or.inl rfl) (pe_op op_modN (pe_callTy call_int1 (by rfl) T.int (by decide +kernel) (pa_cons (pe_ix ix_list (pv 0) pe_int (fun _ _ => rfl)) pa_nil)) (pv 1)))
        (pss_cons (ps_asg (pe_op op_fdivW (pe_callTy call_int1 (by rfl) T.int (by decide +kernel) (pa_cons (pe_ix ix_list (pv 0) pe_int (fun _ _ => rfl)) pa_nil)) (pv 1)) (pg_sub (pv 0) pe_int set_list))
        (pss_cons (ps_asg (pe_op op_add (pe_ix ix_list (pv 0) pe_int (fun _ _ => rfl)) pe_int) (pg_sub (pv 0) pe_int set_list))
        (pss_one (ps_ret (pv 2))))))
        pss_nil)
      (pss_cons (ps_set (i := 3) scDraw.nd rfl (Or.inl rfl) (pe_ix ix_list (pv 0) pe_int (fun _ _ => rfl)))
      (pss_cons (ps_set (i := 4) scDraw.nd rfl (Or.inl rfl) (pe_ix ix_list (pv 0) pe_int (fun _ _ => rfl)))
      (pss_cons (ps_if (pt_cmpR op_ge (pv 4) (pe_callB call_len_seq (by rfl) T.len (by decide +kernel) (pa_cons (pv 3) pa_nil)) (nomark _))
        (pss_one (ps_ret (C8.pe_c GMixed hr (by decide) (by rfl) (pa_cons (pe_ix ix_list (pv 0) pe_int (fun _ _ => rfl)) (pa_cons (pe_ix ix_list (pv 0) pe_int (fun _ _ => rfl)) (pa_cons (pv 1) pa_nil))))))
        pss_nil)
      (pss_cons (ps_asg (pe_op op_add (pv 4) pe_int) (pg_sub (pv 0) pe_int set_list))
      (pss_cons (ps_if (pt_cmpR op_lt (pe_ix ix_list (pv 3) (pv 4) (fun _ _ => rfl)) (pe_op op_pow pe_int pe_int) (nomark _))
        (pss_one (ps_ret (C8.pe_c GMixed hr (by decide) (by rfl) (pa_cons (pe_ix ix_list (pv 3) (pv 4) (fun _ _ => rfl)) (pa_cons (pe_ix ix_list (pv 0) pe_int (fun _ _ => rfl)) (pa_cons (pv 1) pa_nil))))))
        pss_nil)
      (pss_cons (ps_asg (pe_op op_fdivW (pe_callTy call_int1 (by rfl) T.int (by decide +kernel) (pa_cons (pe_ix ix_list (pv 3) (pv 4) (fun _ _ => rfl)) pa_nil)) (pv 1)) (pg_sub (pv 0) pe_int set_list))
      (pss_cons (ps_asg pe_int (pg_sub (pv 0) pe_int set_list))
      (pss_one (ps_ret (pe_op op_modN (pe_callTy call_int1 (by rfl) T.int (by decide +kernel) (pa_cons (pe_ix ix_list (pv 3) (pv 4) (fun _ _ => rfl)) pa_nil)) (pv 1))))))))))))), ?_⟩
    -- tape[5] = tape[5] + 1
    refine ⟨_, rfl, _, _, _, _, rfl, rfl, SqL.of (by fail "hp"), (by fail "ix"), _, _, rfl, rfl, _, rfl, _, _, _, _, rfl, rfl, (by fail "hp"), (by fail "ixn"), ?_⟩
    -- if tape[2] > 0 and tape[3] < 60:
    refine ⟨_, rfl, _, _, _, _, rfl, rfl, SqL.of (by fail "hp"), (by fail "ix"), _, _, rfl, rfl, _, rfl, ?_⟩
    refine ifD (fun g1 => ?_) (fun g1 => ?_)
    · refine ⟨_, rfl, _, _, _, _, rfl, rfl, SqL.of (by fail "hp"), (by fail "ix"), _, _, rfl, rfl, _, rfl, ?_⟩
      refine ifD (fun g2 => ?_) (fun g2 => ?_)
      · -- digit = int(tape[2]) % many
        refine ⟨_, rfl, _, _, _, _, rfl, rfl, SqL.of (by fail "hp"), (by fail "ix"), .inl ⟨_, rfl, _, rfl, _, _, rfl, rfl, (by fail "nz"), ?_⟩⟩
        -- tape[2] = int(tape[2]) // many
        refine ⟨_, rfl, _, _, _, _, rfl, rfl, SqL.of (by fail "hp"), (by fail "ix"), .inl ⟨_, rfl, _, rfl, _, _, rfl, rfl, (by fail "dw"), _, rfl, _, _, _, _, rfl, rfl, (by fail "hp"), (by fail "ixn"), ?_⟩⟩
        -- tape[3] = tape[3] + 1
        refine ⟨_, rfl, _, _, _, _, rfl, rfl, SqL.of (by fail "hp"), (by fail "ix"), _, _, rfl, rfl, _, rfl, _, _, _, _, rfl, rfl, (by fail "hp"), (by fail "ixn"), ?_⟩
        -- return digit
        refine ⟨_, rfl, ?_⟩
        refine k _ _ (fm0 _ (by omega)) (fm1 _ (by omega)) (by fail "kp") ?_
        exact ⟨ns, _, _, _, _, _, upd_same, by fail "hp", h1⟩
      · -- numbers = tape[0]
        refine ⟨_, rfl, _, _, _, _, rfl, rfl, SqL.of (by fail "hp"), (by fail "ix"), ?_⟩
        -- place = tape[1]
        refine ⟨_, rfl, _, _, _, _, rfl, rfl, SqL.of (by fail "hp"), (by fail "ix"), ?_⟩
        -- if place >= len(numbers):
        refine ⟨_, rfl, _, rfl, _, _, rfl, .inl (SqL.of (by fail "hp")), _, _, rfl, rfl, _, rfl, ?_⟩
        refine ifD (fun g3 => ?_) (fun g3 => ?_)
        · -- return _law_mixed(tape[4], tape[5], many)
          refine ⟨_, rfl, _, _, _, _, rfl, rfl, SqL.of (by fail "hp"), (by fail "ix"), _, rfl, _, _, _, _, rfl, rfl, SqL.of (by fail "hp"), (by fail "ix"), _, rfl, _, _, _, rfl, (by fail "om"), fun d4 da4 db4 => ?_⟩
          refine k _ _ (by assumption) (by assumption) (by fail "kp") ?_
          exact ⟨ns, _, _, _, _, _, upd_same, by fail "hp", h1⟩
        · have ixp : atI (ns.map V.int) x1 = some (V.int (ns.getD x1.toNat 0)) := at_lit h1 (by simp only [List.length_map] at *; omega)
          -- tape[1] = place + 1
          refine ⟨_, rfl, _, _, rfl, rfl, _, rfl, _, _, _, _, rfl, rfl, (by fail "hp"), (by fail "ixn"), ?_⟩
          -- if numbers[place] < 10 ** 18:
          refine ⟨_, rfl, _, rfl, _, _, _, _, rfl, rfl, SqL.of (by fail "hp"), (by fail "ix"), _, _, rfl, rfl, ⟨by decide, by decide, by decide⟩, _, _, rfl, rfl, _, rfl, ?_⟩
          refine ifD (fun g5 => ?_) (fun g5 => ?_)
          · -- return _law_mixed(numbers[place], tape[5], many)
            refine ⟨_, rfl, _, rfl, _, _, _, _, rfl, rfl, SqL.of (by fail "hp"), (by fail "ix"), _, rfl, _, _, _, _, rfl, rfl, SqL.of (by fail "hp"), (by fail "ix"), _, rfl, _, _, _, rfl, (by fail "om"), fun d6 da6 db6 => ?_⟩
            refine k _ _ (by assumption) (by assumption) (by fail "kp") ?_
            exact ⟨ns, _, _, _, _, _, upd_same, by fail "hp", (by omega)⟩
          · -- tape[2] = int(numbers[place]) // many
            refine ⟨_, rfl, _, rfl, _, _, _, _, rfl, rfl, SqL.of (by fail "hp"), (by fail "ix"), .inl ⟨_, rfl, _, rfl, _, _, rfl, rfl, (by fail "dw"), _, rfl, _, _, _, _, rfl, rfl, (by fail "hp"), (by fail "ixn"), ?_⟩⟩
            -- tape[3] = 1
            refine ⟨_, rfl, _, _, _, _, rfl, rfl, (by fail "hp"), (by fail "ixn"), ?_⟩
            -- return int(numbers[place]) % many
            refine ⟨_, rfl, _, rfl, _, _, _, _, rfl, rfl, SqL.of (by fail "hp"), (by fail "ix"), .inl ⟨_, rfl, _, rfl, _, _, rfl, rfl, (by fail "nz"), ?_⟩⟩
            refine k _ _ (fm0 _ (by omega)) (fm1 _ (by omega)) (by fail "kp") ?_
            exact ⟨ns, _, _, _, _, _, upd_same, by fail "hp", (by omega)⟩
    · fail "ite"
      -- numbers = tape[0]
      refine ⟨_, rfl, _, _, _, _, rfl, rfl, SqL.of (by fail "hp"), (by fail "ix"), ?_⟩
      -- place = tape[1]
      refine ⟨_, rfl, _, _, _, _, rfl, rfl, SqL.of (by fail "hp"), (by fail "ix"), ?_⟩
      -- if place >= len(numbers):
      refine ⟨_, rfl, _, rfl, _, _, rfl, .inl (SqL.of (by fail "hp")), _, _, rfl, rfl, _, rfl, ?_⟩
      refine ifD (fun g7 => ?_) (fun g7 => ?_)
      · -- return _law_mixed(tape[4], tape[5], many)
        refine ⟨_, rfl, _, _, _, _, rfl, rfl, SqL.of (by fail "hp"), (by fail "ix"), _, rfl, _, _, _, _, rfl, rfl, SqL.of (by fail "hp"), (by fail "ix"), _, rfl, _, _, _, rfl, (by fail "om"), fun d8 da8 db8 => ?_⟩
        refine k _ _ (by assumption) (by assumption) (by fail "kp") ?_
        exact ⟨ns, _, _, _, _, _, upd_same, by fail "hp", h1⟩
      · have ixp : atI (ns.map V.int) x1 = some (V.int (ns.getD x1.toNat 0)) := at_lit h1 (by simp only [List.length_map] at *; omega)
        -- tape[1] = place + 1
        refine ⟨_, rfl, _, _, rfl, rfl, _, rfl, _, _, _, _, rfl, rfl, (by fail "hp"), (by fail "ixn"), ?_⟩
        -- if numbers[place] < 10 ** 18:
        refine ⟨_, rfl, _, rfl, _, _, _, _, rfl, rfl, SqL.of (by fail "hp"), (by fail "ix"), _, _, rfl, rfl, ⟨by decide, by decide, by decide⟩, _, _, rfl, rfl, _, rfl, ?_⟩
        refine ifD (fun g9 => ?_) (fun g9 => ?_)
        · -- return _law_mixed(numbers[place], tape[5], many)
          refine ⟨_, rfl, _, rfl, _, _, _, _, rfl, rfl, SqL.of (by fail "hp"), (by fail "ix"), _, rfl, _, _, _, _, rfl, rfl, SqL.of (by fail "hp"), (by fail "ix"), _, rfl, _, _, _, rfl, (by fail "om"), fun d10 da10 db10 => ?_⟩
          refine k _ _ (by assumption) (by assumption) (by fail "kp") ?_
          exact ⟨ns, _, _, _, _, _, upd_same, by fail "hp", (by omega)⟩
        · -- tape[2] = int(numbers[place]) // many
          refine ⟨_, rfl, _, rfl, _, _, _, _, rfl, rfl, SqL.of (by fail "hp"), (by fail "ix"), .inl ⟨_, rfl, _, rfl, _, _, rfl, rfl, (by fail "dw"), _, rfl, _, _, _, _, rfl, rfl, (by fail "hp"), (by fail "ixn"), ?_⟩⟩
          -- tape[3] = 1
          refine ⟨_, rfl, _, _, _, _, rfl, rfl, (by fail "hp"), (by fail "ixn"), ?_⟩
          -- return int(numbers[place]) % many
          refine ⟨_, rfl, _, rfl, _, _, _, _, rfl, rfl, SqL.of (by fail "hp"), (by fail "ix"), .inl ⟨_, rfl, _, rfl, _, _, rfl, rfl, (by fail "nz"), ?_⟩⟩
          refine k _ _ (fm0 _ (by omega)) (fm1 _ (by omega)) (by fail "kp") ?_
          exact ⟨ns, _, _, _, _, _, upd_same, by fail "hp", (by omega)⟩
abbrev sEntry : Stmt := top 11
theorem scEntry : FnScope ["tape", "way"] ["tape"] (defScope sEntry) := ⟨rfl, rfl, rfl, by decide +kernel, rfl, by decide +kernel, by decide +kernel⟩
def spEntry : Sp := fun vs H Q _ => ∃ (b bc : Addr), vs = [.ref b] ∧ BoxOk H b bc ∧
  ∀ (d : Int) (H' : Hp), 0 ≤ d → Kp b H H' → BoxOk H' b bc → Q (.int d) H'
theorem p30 {d : Int} (h : d < 9) : 0 ≤ (10 : Int) ^ (30 : Int).toNat - 1 - d := by
  have : (10 : Int) ^ (30 : Int).toNat = 1000000000000000000000000000000 := by decide
  rw [this]
  omega
theorem ok_Entry (D : Df K mg "_law_entry" sEntry ["tape"]) (T : Txt K mg) (GDraw : C8.Cal P w K mg base 2 "_law_draw" spDraw []) : C8.Cal P w K mg base 3 "_law_entry" spEntry [] := by
  obtain ⟨f, fd, F, hm, hb⟩ := D
  refine ⟨f, fd, ["tape"], [], F.ok scEntry (fun vs H Q E h => ?_) (fun cdv A outer s H vs Q E hr h => ?_), hm, F.kp, hb, .nil⟩
  · obtain ⟨b, bc, rfl, bx, k⟩ := h
    rfl
  · obtain ⟨b, bc, rfl, bx, k⟩ := h
    refine ⟨_, (pss_cons (ps_set (i := 1) scEntry.nd rfl (Or.inl rfl) (C8.pe_c GDraw hr (by decide) (by rfl) (pa_cons (pv 0) (pa_cons pe_int pa_nil))))
      (pss_cons (ps_if (pt_cmpR op_eq (pv 1) pe_int (nomark _))
        (pss_one (ps_ret (C8.pe_c GDraw hr (by decide) (by rfl) (pa_cons (pv 0) (pa_cons (pe_op op_pow pe_int pe_int) pa_nil)))))
        pss_nil)
      (pss_cons (ps_if (pt_cmpR op_eq (pv 1) pe_int (nomark _))
        (pss_one (ps_ret (pe_op op_sub (pe_op op_sub (pe_op op_pow pe_int pe_int) pe_int) (C8.pe_c GDraw hr (by decide) (by rfl) (pa_cons (pv 0) (pa_cons pe_int pa_nil))))))
        pss_nil)
      (pss_one (ps_ret (C8.pe_c GDraw hr (by decide) (by rfl) (pa_cons (pv 0) (pa_cons pe_int pa_nil)))))))), ?_⟩
    -- way = _law_draw(tape, 6)
    refine ⟨_, rfl, _, _, _, rfl, (by fail "bx"), (by fail "om"), (by fail "om"), fun d1 H1 da1 db1 kp1 bx1 => ?_⟩
    -- if way == 4:
    refine ⟨_, rfl, rfl, _, rfl, ?_⟩
    refine ifEqI (fun g2 => ?_) (fun g2 => ?_)
    · -- return _law_draw(tape, 10 ** 30)
      refine ⟨_, rfl, _, _, rfl, rfl, ⟨by decide, by decide, by decide⟩, _, _, _, rfl, (by fail "bx"), (by fail "om"), (by fail "om"), fun d3 H3 da3 db3 kp3 bx3 => ?_⟩
      exact k _ _ (by assumption) (by fail "kp") (by fail "bx")
    · -- if way == 5:
      refine ⟨_, rfl, rfl, _, rfl, ?_⟩
      refine ifEqI (fun g4 => ?_) (fun g4 => ?_)
      · -- return 10 ** 30 - 1 - _law_draw(tape, 9)
        refine ⟨_, _, rfl, rfl, ⟨by decide, by decide, by decide⟩, _, _, rfl, rfl, _, rfl, _, _, _, rfl, (by fail "bx"), (by fail "om"), (by fail "om"), fun d5 H5 da5 db5 kp5 bx5 => ⟨_, _, rfl, rfl, ?_⟩⟩
        exact k _ _ (p30 db5) (by fail "kp") (by fail "bx")
      · -- return _law_draw(tape, 8)
        refine ⟨_, rfl, _, _, _, rfl, (by fail "bx"), (by fail "om"), (by fail "om"), fun d6 H6 da6 db6 kp6 bx6 => ?_⟩
        exact k _ _ (by assumption) (by fail "kp") (by fail "bx")
abbrev sFrame : Stmt := top 13
theorem scFrame : FnScope ["index", "entry"] ["index", "entry"] (defScope sFrame) := ⟨rfl, rfl, rfl, by decide +kernel, rfl, by decide +kernel, by decide +kernel⟩
def spFrame : Sp := fun vs H Q _ => ∃ (k e : Int), vs = [.int k, .int e] ∧ ∀ (p : Addr) (H' : Hp), H p = none → Same H H' → H' p = some (.lst (([k, e, -1 - e] : List Int).map V.int)) → Q (.ref p) H'
theorem ok_Frame (D : Df K mg "_law_frame" sFrame ["index", "entry"]) (T : Txt K mg) : C8.Cal P w K mg base 1 "_law_frame" spFrame [] := by
  obtain ⟨f, fd, F, hm, hb⟩ := D
  refine ⟨f, fd, ["index", "entry"], [], F.ok scFrame (fun vs H Q E h => ?_) (fun cdv A outer s H vs Q E hr h => ?_), hm, F.kp, hb, .nil⟩
  · obtain ⟨k, e, rfl, z⟩ := h
    rfl
  · obtain ⟨k, e, rfl, z⟩ := h
    refine ⟨_, (pss_one (ps_ret (pe_lst (pa_cons (pv 0) (pa_cons (pv 1) (pa_cons (pe_op op_sub (pe_un un_neg pe_int) (pv 1)) pa_nil)))))), ?_⟩
    -- return [index, entry, -1 - entry]
    refine ⟨_, rfl, _, rfl, _, rfl, _, rfl, _, _, rfl, rfl, (by fail "sz"), fun p1 np1 => ?_⟩
    exact z _ _ np1 (Same.new (Same.refl _) np1) upd_same
abbrev sLFrames : Stmt := top 14
theorem scLFrames : FnScope ["log", "row", "k"] ["log"] (defScope sLFrames) := ⟨rfl, rfl, rfl, by decide +kernel, rfl, by decide +kernel, by decide +kernel⟩
def spLFrames : Sp := fun vs H Q _ => ∃ (a : Addr) (ns : List Int), vs = [.ref a] ∧ H a = some (.lst (ns.map V.int)) ∧ ns.length ≤ 1000 ∧ ∀ (p : Addr) (H' : Hp), Same H H' → H p = none → H' p = some (.lst ((frs 0 ns).map V.int)) → Q (.ref p) H'
theorem ok_LFrames (D : Df K mg "_law_frames" sLFrames ["log"]) (T : Txt K mg) (GFrame : C8.Cal P w K mg base 1 "_law_frame" spFrame []) : C8.Cal P w K mg base 2 "_law_frames" spLFrames [] := by
  obtain ⟨f, fd, F, hm, hb⟩ := D
  refine ⟨f, fd, ["log"], [], F.ok scLFrames (fun vs H Q E h => ?_) (fun cdv A outer s H vs Q E hr h => ?_), hm, F.kp, hb, .nil⟩
  · obtain ⟨a, ns, rfl, ha, hl, z⟩ := h
    rfl
  · obtain ⟨a, ns, rfl, ha, hl, z⟩ := h
    refine ⟨_, (pss_cons (ps_set (i := 1) scLFrames.nd rfl (Or.inl rfl) (pe_lst pa_nil))
      (pss_cons (ps_for PassesOwn.never rfl (pi_range1 rfl T.range (pa_cons (pe_callB call_len_seq (by rfl) T.len (by decide +kernel) (pa_cons (pv 0) pa_nil)) pa_nil)) (pg_name (i := 2) scLFrames.nd rfl (Or.inl rfl))
        (pss_one (ps_set (i := 1) scLFrames.nd rfl (Or.inl rfl) (pe_op op_catI (pv 1) (C8.pe_c GFrame hr (by decide) (by rfl) (pa_cons (pv 2) (pa_cons (pe_ix ix_list (pv 0) (pv 2) (fun _ _ => rfl)) pa_nil)))))))
      (pss_one (ps_ret (pv 1))))), ?_⟩
    -- row = []
    refine ⟨(by fail "sz"), fun p1 np1 => ?_⟩
    -- for k in range(len(log)):
    refine ⟨_, rfl, _, _, rfl, .inl (SqL.of (by fail "hp")), _, rfl, (by fail "om"), (by fail "om"), for_range (fun i σ H' => ∃ q v, σ = [some (.ref a), some (.ref q), v] ∧ Same H H' ∧ H q = none ∧ H' q = some (.lst ((frs 0 (ns.take i)).map V.int))) ⟨p1, none, rfl, Same.new (Same.refl H) np1, np1, upd_same⟩ ?_ ?_⟩
    · rintro i σ H2 hi ⟨q, v, rfl, sm, nq, ht⟩
      have hi : i < ns.length := by simp at hi; omega
      have e1 := List.getElem?_eq_getElem hi
      have lfr : (frs 0 (ns.take i)).length ≤ 3 * i := by rw [frs_len, List.length_take]; omega
      -- row = row + _law_frame(k, log[k])
      refine ⟨_, rfl, _, rfl, _, rfl, _, rfl, _, _, _, _, rfl, rfl, SqL.of (by fail "hp"), (by fail "ix"), _, _, rfl, fun p3 H3 np3 sm3 hp3 => ⟨_, _, _, _, rfl, rfl, (by fail "hp"), (by fail "hp"), (by fail "sz"), fun p2 np2 => ?_⟩⟩
      refine ⟨p2, _, rfl, Same.new (Same.tr sm3 sm) np2, sm.free (sm3.free np2), ?_⟩
      rw [upd_same, List.take_succ_eq_append_getElem hi, frs_snoc, List.length_take, Nat.min_eq_left (Nat.le_of_lt hi), Int.zero_add]
    · rintro σ H2 ⟨q, v, rfl, sm, nq, ht⟩
      have e0 : ((((ns.map V.int).length : Nat) : Int)).toNat = ns.length := by rw [List.length_map]; omega
      rw [e0, List.take_length] at ht
      -- return row
      refine ⟨_, rfl, ?_⟩
      exact z _ _ sm nq ht
end
end K32

end
section
set_option Elab.async false
set_option linter.all false
set_option maxRecDepth 100000
set_option maxHeartbeats 4000000
namespace K32
open PySem L2 Kit KR
local macro_rules | `(tactic| fail "om") => `(tactic| first | omega | (simp only [List.length_map, List.length_append, List.length_cons, List.length_nil]; omega) | (simp only [List.length_map, List.length_append, List.length_cons, List.length_nil] at *; omega) | assumption | decide | (simp only [List.length_append, List.length_map, List.length_cons, List.length_nil, List.length_take, List.length_drop, frs_len]; omega) | fail "no om")
local macro_rules | `(tactic| fail "nz") => `(tactic| first | decide | omega | fail "no nz")
local macro_rules | `(tactic| fail "dv") => `(tactic| exact ⟨by first | decide | omega, by first | decide | omega⟩)
local macro_rules | `(tactic| fail "mul") => `(tactic| first | exact .inr ⟨by decide, by decide⟩ | exact .inl ⟨by decide, by decide⟩ | exact mulF (by decide) (by decide) | exact .inl ⟨by omega, by omega⟩ | exact .inr ⟨by omega, by omega⟩ | fail "no mul")
local macro_rules | `(tactic| fail "sz") => `(tactic| first | assumption | exact Nat.zero_le _ | (show 1 ≤ sizeLine; decide) | (show 2 ≤ sizeLine; decide) | (show 3 ≤ sizeLine; decide) | (show 4 ≤ sizeLine; decide) | (show 5 ≤ sizeLine; decide) | exact Evl.sz_of (by omega) | (refine Evl.sz_of ?_; simp only [List.length_append, List.length_map, List.length_cons, List.length_nil]; omega) | (refine Evl.sz_of ?_; simp only [List.length_append, List.length_map, List.length_cons, List.length_nil, List.length_take, List.length_drop, frs_len]; omega) | (show 7 ≤ sizeLine; decide) | (show 9 ≤ sizeLine; decide) | fail "no sz")
local macro_rules | `(tactic| fail "szl") => `(tactic| first | exact Evl.sz_lt (by omega) | (refine Evl.sz_lt ?_; simp only [List.length_append, List.length_map, List.length_cons, List.length_nil]; omega) | fail "no szl")
local macro_rules | `(tactic| fail "ix") => `(tactic| first | assumption | exact ix0 | exact ix1 | exact ix2 | exact at_ref (by assumption) (by omega) | exact at_int (by assumption) (by omega) | exact at_drawn (by assumption) (by assumption) | exact at_lit (by first | assumption | omega) (by fail "om") | rfl | fail "no ix")
local macro_rules | `(tactic| fail "ixn") => `(tactic| first | rfl | assumption | fail "no ixn")
local macro_rules | `(tactic| fail "nb") => `(tactic| first | assumption | exact nb_tup | exact nb_nil | exact nb_ints | exact nb_refs | exact nb_ins | exact nb_dT | exact nb_frz | fail "no nb")
local macro_rules | `(tactic| fail "ne") => `(tactic| first | assumption | exact Ne.symm (by assumption) | exact ne_of_none (by assumption) (by assumption) | exact (ne_of_none (by assumption) (by assumption)).symm | exact ne_of (by assumption) (by assumption) (by intro q; cases q) | exact ne_of (by assumption) (by assumption) (by simp) | fail "no ne")
local macro_rules | `(tactic| fail "hp") => `(tactic| first | assumption | exact upd_same | exact lit0 | exact lit1 | exact lit3 | exact lit7 | exact lit9 | exact lit2 | (refine' Tk.get (by assumption) ?k1; (case k1 => fail "tk")) | (with_reducible refine' upd_new ?h1 ?n1; (case n1 => assumption); (case h1 => fail "hp")) | (refine' Same.get (by assumption) ?h1; (case h1 => fail "hp")) | (refine' Kp.get (by assumption) (by fail "bx") ?h1 ?d1; (case h1 => fail "hp"); (case d1 => fail "nb")) | (with_reducible refine' upd_oth ?h1 ?n1; (case n1 => fail "ne"); (case h1 => fail "hp")) | (with_reducible refine' upd_oth ?h1 ?n1; (case h1 => fail "hp"); (case n1 => fail "ne")) | fail "no hp")
local macro_rules | `(tactic| fail "bx") => `(tactic| first | assumption | (with_reducible refine' BoxOk.new ?h1 ?n1; (case n1 => assumption); (case h1 => fail "bx")) | (refine' BoxOk.same (by assumption) ?h1; (case h1 => fail "bx")) | (with_reducible refine' BoxOk.mut ?h1 ?h2 ?n1; (case n1 => assumption); (case h2 => assumption); (case h1 => fail "bx")) | fail "no bx")
local macro_rules | `(tactic| fail "kp") => `(tactic| first | assumption | exact Kp.refl | (with_reducible refine' Kp.at ?h1; (case h1 => fail "kp")) | (with_reducible refine' Kp.new ?h1 ?n1; (case n1 => assumption); (case h1 => fail "kp")) | (with_reducible refine' Kp.mut ?h1 ?n1; (case n1 => assumption); (case h1 => fail "kp")) | (refine' Kp.tr (by assumption) ?h1; (case h1 => fail "kp")) | (refine' Kp.tr (Kp.of (by assumption)) ?h1; (case h1 => fail "kp")) | fail "no kp")
local macro_rules | `(tactic| fail "ite") => `(tactic| first | refine iteT ?_ | refine iteF ?_)
local macro_rules | `(tactic| fail "tt") => `(tactic| first | rfl | exact decide_eq_true (by first | rfl | omega | assumption) | exact decide_eq_true (congrArg V.int (by first | rfl | omega)) | fail "no tt")
local macro_rules | `(tactic| fail "cv") => `(tactic| first | exact .ty _ | exact .own _)
local macro_rules | `(tactic| fail "tx") => `(tactic| first | exact .base (.int _) | exact .base (.bl _) | exact .base .non | exact .base (.lst (by fail "hp")) | exact .base (.tup (by fail "hp")) | fail "no tx")
local macro_rules | `(tactic| fail "dead") => `(tactic| (exfalso; first | omega | contradiction | simp_all))
local macro_rules | `(tactic| fail "dp") => `(tactic| first | exact .tup (SqT.of (by fail "hp")) (.cons (.int _) (.cons (.int _) .nil)) | exact .lst (SqL.of (by fail "hp")) (dpPrs (by fail "pr")) | exact .lst (SqL.of (by fail "hp")) (dpInts _) | exact .lst (SqL.of (by fail "hp")) .nil | fail "no dp")
local macro_rules | `(tactic| fail "shp") => `(tactic| first | assumption | exact prD_shaped _ | exact PySem.W.ke_shaped_ints _ | rfl | fail "no shp")
local macro_rules | `(tactic| fail "pr") => `(tactic| first | assumption | exact PrT.mono (by assumption) (by fail "tk") | fail "no pr")
local macro_rules | `(tactic| fail "tk") => `(tactic| first | assumption | exact Tk.refl | (with_reducible refine' Tk.new ?h1 ?n1; (case n1 => assumption); (case h1 => fail "tk")) | (refine' Tk.tr (Kp.tk (by assumption) (by fail "bx")) ?h1; (case h1 => fail "tk")) | (refine' Tk.tr (Same.tk (by assumption)) ?h1; (case h1 => fail "tk")) | (with_reducible refine' Tk.lst ?h1 ?n1; (case n1 => fail "hp"); (case h1 => fail "tk")) | fail "no tk")
local macro_rules | `(tactic| fail "kt") => `(tactic| first | exact upd_same | assumption | fail "hp")
local macro_rules | `(tactic| fail "mono") => `(tactic| first | exact fun _ _ _ _ h q => h _ _ q | exact fun _ _ _ _ h q => (let ⟨v, e, z⟩ := q; ⟨v, e, h _ _ z⟩) | exact fun _ _ _ _ h q => (let ⟨v, e, u, f, z⟩ := q; ⟨v, e, u, f, h _ _ z⟩) | fail "no mono")
local macro_rules | `(tactic| fail "sm") => `(tactic| first | assumption | exact Same.refl _ | (with_reducible refine' Same.new ?h1 ?n1; (case n1 => assumption); (case h1 => fail "sm")) | (refine' Same.tr (by assumption) ?h1; (case h1 => fail "sm")) | fail "no sm")
theorem dvw3 {i j : Int} (h1 : 1 ≤ j) (h2 : j ≤ 1000000000000000000000000000000) : CDivW i j := wide_div (b := 100) (by omega) (by
  have : (2 : Nat) ^ 100 = 1267650600228229401496703205376 := by decide
  rw [this]; omega) (by decide) (by decide)
local macro_rules | `(tactic| fail "dw") => `(tactic| first | exact dvw (by omega) (by omega) | fail "no dw")
local macro_rules | `(tactic| fail "rdd") => `(tactic| first | assumption | exact rdT (by assumption) (by assumption) | exact rdS (by assumption) (by assumption) (by fail "om") (by assumption) | rfl | fail "no rdd")
theorem fr3 {b bc p : Addr} {H H' : Hp} (n : H' p = none) (k : Kp b H H') (x : BoxOk H' b bc) : H p = none := Kp.free k x n
local macro_rules | `(tactic| fail "fr") => `(tactic| first | assumption | exact fr3 (by assumption) (by fail "kp") (by fail "bx") | fail "no fr")
local macro_rules | `(tactic| fail "ll") => `(tactic| first | omega | (simp only [List.length_append, List.length_map, List.length_cons, List.length_nil, List.length_take, List.length_drop, frs_len] at *; omega) | fail "no ll")

section
variable {P : Program} {w : World} {K : PySem.W.Frag} {mg : Str → Option Value} {base : Heap}

abbrev sLog : Stmt := top 12
theorem scLog : FnScope ["tape", "way", "size", "begin", "step", "k"] ["tape"] (defScope sLog) := ⟨rfl, rfl, rfl, by decide +kernel, rfl, by decide +kernel, by decide +kernel⟩
def spLog : Sp := fun vs H Q _ => ∃ (b bc : Addr), vs = [.ref b] ∧ BoxOk H b bc ∧
  ∀ (p : Addr) (es : List Int) (H' : Hp), (∀ e ∈ es, 0 ≤ e) → es.length ≤ 300 → Kp b H H' → BoxOk H' b bc → H p = none → H' p = some (.lst (es.map V.int)) → Q (.ref p) H'
theorem nn_snoc {es : List Int} {e : Int} (h : ∀ x ∈ es, 0 ≤ x) (he : 0 ≤ e) : ∀ x ∈ es ++ [e], 0 ≤ x := fun x hx => by
  cases List.mem_append.mp hx with
  | inl q => exact h x q
  | inr q => rw [List.mem_singleton.mp q]; exact he
theorem ok_Log (D : Df K mg "_law_log" sLog ["tape"]) (T : Txt K mg) (GDraw : C8.Cal P w K mg base 2 "_law_draw" spDraw []) (GEntry : C8.Cal P w K mg base 3 "_law_entry" spEntry []) : C8.Cal P w K mg base 4 "_law_log" spLog [] := by
  obtain ⟨f, fd, F, hm, hb⟩ := D
  refine ⟨f, fd, ["tape"], [], F.ok scLog (fun vs H Q E h => ?_) (fun cdv A outer s H vs Q E hr h => ?_), hm, F.kp, hb, .nil⟩
  · obtain ⟨b, bc, rfl, bx, k⟩ := h
    rfl
  · obtain ⟨b, bc, rfl, bx, k⟩ := h
    refine ⟨_, (pss_cons (ps_set (i := 1) scLog.nd rfl (Or.inl rfl) (C8.pe_c GDraw hr (by decide) (by rfl) (pa_cons (pv 0) (pa_cons pe_int pa_nil))))
      (pss_cons (ps_if (pt_cmpR op_gt (pv 1) pe_int (nomark _))
        (pss_one (ps_ret (pe_lc (own := [("k", 5)]) (g := gName 5) (tt := tYes) rfl scLog.nd (pi_range1 rfl T.range (pa_cons (C8.pe_c GDraw hr (by decide) (by rfl) (pa_cons (pv 0) (pa_cons pe_int pa_nil))) pa_nil)) (blkOk_by (N := ["tape", "way", "size", "begin", "step", "k"]) (sc := defScope sLog) (by decide +kernel)) (fun _ _ _ _ _ => (pg_name (i := 5) scLog.nd rfl (Or.inl rfl))) (fun _ _ _ _ _ => pts_nil) (fun _ _ _ _ _ => (C8.pe_c GEntry hr (by decide) (by rfl) (pa_cons (pv 0) pa_nil))))))
        pss_nil)
      (pss_cons (ps_set (i := 2) scLog.nd rfl (Or.inl rfl) (pe_op op_add pe_int (C8.pe_c GDraw hr (by decide) (by rfl) (pa_cons (pv 0) (pa_cons pe_int pa_nil)))))
      (pss_cons (ps_if (pt_cmpR op_eq (pv 1) pe_int (nomark _))
        (pss_one (ps_set (i := 2) scLog.nd rfl (Or.inl rfl) (pe_op op_add (pv 2) pe_int)))
        pss_nil)
      (pss_cons (ps_set (i := 3) scLog.nd rfl (Or.inr rfl) (C8.pe_c GEntry hr (by decide) (by rfl) (pa_cons (pv 0) pa_nil)))
      (pss_cons (ps_set (i := 4) scLog.nd rfl (Or.inr rfl) (C8.pe_c GDraw hr (by decide) (by rfl) (pa_cons (pv 0) (pa_cons pe_int pa_nil))))
      (pss_one (ps_ret (pe_lc (own := [("k", 5)]) (g := gName 5) (tt := tYes) rfl scLog.nd (pi_range1 rfl T.range (pa_cons (pv 2) pa_nil)) (blkOk_by (N := ["tape", "way", "size", "begin", "step", "k"]) (sc := defScope sLog) (by decide +kernel)) (fun _ _ _ _ _ => (pg_name (i := 5) scLog.nd rfl (Or.inl rfl))) (fun _ _ _ _ _ => pts_nil) (fun _ _ _ _ _ => (pe_op op_modN (pe_callTy call_int1 (by rfl) T.int (by decide +kernel) (pa_cons (pe_op op_add (pv 3) (pe_op op_mul (pv 5) (pv 4))) pa_nil)) (pe_op op_pow pe_int pe_int)))))))))))), ?_⟩
    -- way = _law_draw(tape, 8)
    refine ⟨_, rfl, _, _, _, rfl, (by fail "bx"), (by fail "om"), (by fail "om"), fun d1 H1 da1 db1 kp1 bx1 => ?_⟩
    -- if way > 1:
    refine ⟨_, rfl, _, _, rfl, rfl, _, rfl, ?_⟩
    refine ifD (fun g2 => ?_) (fun g2 => ?_)
    · -- return [_law_entry(tape) for k in range(_law_draw(tape, 7))]
      refine ⟨_, rfl, _, _, _, rfl, (by fail "bx"), (by fail "om"), (by fail "om"), fun d3 H3 da3 db3 kp3 bx3 => ⟨_, rfl, (by fail "om"), (by fail "om"), fun D1 nD1 => lc_range (fun i H' => ∃ es : List Int, Kp b H3 H' ∧ BoxOk H' b bc ∧ H' D1 = some (.lst (es.map V.int)) ∧ (∀ e ∈ es, 0 ≤ e) ∧ es.length = i) ⟨[], Kp.new Kp.refl nD1, BoxOk.new bx3 nD1, upd_same, (fun e h => nomatch h), rfl⟩ (fun i H' hi z => by
      obtain ⟨es, kpi, bxi, hD, nn, ln⟩ := z
      refine ⟨rfl, ?_⟩
      unfold tYes
      refine iteT ?_
      refine ⟨_, rfl, _, _, rfl, bxi, fun d5 H5 da5 kp5 bx5 => ⟨_, kp5.get bxi hD nb_ints, Evl.sz_lt (by rw [List.length_map]; omega), es ++ [_], Kp.mut (Kp.trans kpi kp5) nD1, BoxOk.mut bx5 bx3 nD1, by rw [upd_same, List.map_append]; rfl, nn_snoc nn da5, by rw [List.length_append, ln]; rfl⟩⟩) (fun H' z => ?_)⟩⟩
      obtain ⟨es, kpi, bxi, hD, nn, ln⟩ := z
      exact k _ es _ nn (by omega) (Kp.trans (by fail "kp") kpi) bxi (Kp.free (by fail "kp") bx3 nD1) hD
    · -- size = 9 + _law_draw(tape, 60)
      refine ⟨_, rfl, _, _, _, rfl, (by fail "bx"), (by fail "om"), (by fail "om"), fun d4 H4 da4 db4 kp4 bx4 => ⟨_, _, rfl, rfl, ?_⟩⟩
      -- if way == 1:
      refine ⟨_, rfl, rfl, _, rfl, ?_⟩
      refine ifEqI (fun g5 => ?_) (fun g5 => ?_)
      · -- size = size + 231
        refine ⟨_, rfl, _, _, rfl, rfl, ?_⟩
        -- begin = _law_entry(tape)
        refine ⟨_, rfl, _, _, rfl, (by fail "bx"), fun d6 H6 da6 kp6 bx6 => ?_⟩
        -- step = _law_draw(tape, 9)
        refine ⟨_, rfl, _, _, _, rfl, (by fail "bx"), (by fail "om"), (by fail "om"), fun d7 H7 da7 db7 kp7 bx7 => ?_⟩
        -- return [int(begin + k * step) % 10 ** 30 for k in range(size)]
        refine ⟨_, rfl, _, rfl, (by fail "om"), (by fail "om"), fun D2 nD2 => lc_range (fun i H' => ∃ es : List Int, Kp b H7 H' ∧ BoxOk H' b bc ∧ H' D2 = some (.lst (es.map V.int)) ∧ (∀ e ∈ es, 0 ≤ e) ∧ es.length = i) ⟨[], Kp.new Kp.refl nD2, BoxOk.new bx7 nD2, upd_same, (fun e h => nomatch h), rfl⟩ (fun i H' hi z => by
      obtain ⟨es, kpi, bxi, hD, nn, ln⟩ := z
      refine ⟨rfl, ?_⟩
      unfold tYes
      refine iteT ?_
      refine ⟨_, rfl, _, rfl, _, rfl, _, _, rfl, rfl, (by fail "mul"), _, _, rfl, rfl, .inl ⟨_, rfl, _, _, rfl, rfl, ⟨by decide, by decide, by decide⟩, _, _, rfl, rfl, (by show (10 : Int) ^ (30 : Int).toNat ≠ 0; decide), _, hD, Evl.sz_lt (by rw [List.length_map]; omega), es ++ [_], Kp.mut kpi nD2, BoxOk.mut bxi bx7 nD2, by rw [upd_same, List.map_append]; rfl, nn_snoc nn (fm0 _ (by decide)), by rw [List.length_append, ln]; rfl⟩⟩) (fun H' z => ?_)⟩
        obtain ⟨es, kpi, bxi, hD, nn, ln⟩ := z
        exact k _ es _ nn (by omega) (Kp.trans (by fail "kp") kpi) bxi (Kp.free (by fail "kp") bx7 nD2) hD
      · -- begin = _law_entry(tape)
        refine ⟨_, rfl, _, _, rfl, (by fail "bx"), fun d8 H8 da8 kp8 bx8 => ?_⟩
        -- step = _law_draw(tape, 9)
        refine ⟨_, rfl, _, _, _, rfl, (by fail "bx"), (by fail "om"), (by fail "om"), fun d9 H9 da9 db9 kp9 bx9 => ?_⟩
        -- return [int(begin + k * step) % 10 ** 30 for k in range(size)]
        refine ⟨_, rfl, _, rfl, (by fail "om"), (by fail "om"), fun D3 nD3 => lc_range (fun i H' => ∃ es : List Int, Kp b H9 H' ∧ BoxOk H' b bc ∧ H' D3 = some (.lst (es.map V.int)) ∧ (∀ e ∈ es, 0 ≤ e) ∧ es.length = i) ⟨[], Kp.new Kp.refl nD3, BoxOk.new bx9 nD3, upd_same, (fun e h => nomatch h), rfl⟩ (fun i H' hi z => by
      obtain ⟨es, kpi, bxi, hD, nn, ln⟩ := z
      refine ⟨rfl, ?_⟩
      unfold tYes
      refine iteT ?_
      refine ⟨_, rfl, _, rfl, _, rfl, _, _, rfl, rfl, (by fail "mul"), _, _, rfl, rfl, .inl ⟨_, rfl, _, _, rfl, rfl, ⟨by decide, by decide, by decide⟩, _, _, rfl, rfl, (by show (10 : Int) ^ (30 : Int).toNat ≠ 0; decide), _, hD, Evl.sz_lt (by rw [List.length_map]; omega), es ++ [_], Kp.mut kpi nD3, BoxOk.mut bxi bx9 nD3, by rw [upd_same, List.map_append]; rfl, nn_snoc nn (fm0 _ (by decide)), by rw [List.length_append, ln]; rfl⟩⟩) (fun H' z => ?_)⟩
        obtain ⟨es, kpi, bxi, hD, nn, ln⟩ := z
        exact k _ es _ nn (by omega) (Kp.trans (by fail "kp") kpi) bxi (Kp.free (by fail "kp") bx9 nD3) hD
abbrev sRead : Stmt := top 15
theorem scRead : FnScope ["row", "found", "k", "entry"] ["row"] (defScope sRead) := ⟨rfl, rfl, rfl, by decide +kernel, rfl, by decide +kernel, by decide +kernel⟩
def spRead : Sp := fun vs H Q _ => ∃ (a : Addr) (ns : List Int), vs = [.ref a] ∧ H a = some (.lst (ns.map V.int)) ∧ ns.length ≤ 3000 ∧ ∀ (p : Addr) (H' : Hp), Same H H' → H p = none → H' p = some (.lst ((rd 0 ns).map V.int)) → Q (.ref p) H'
theorem ok_Read (D : Df K mg "_law_read" sRead ["row"]) (T : Txt K mg) : C8.Cal P w K mg base 1 "_law_read" spRead [] := by
  obtain ⟨f, fd, F, hm, hb⟩ := D
  refine ⟨f, fd, ["row"], [], F.ok scRead (fun vs H Q E h => ?_) (fun cdv A outer s H vs Q E hr h => ?_), hm, F.kp, hb, .nil⟩
  · obtain ⟨a, ns, rfl, ha, hl, z⟩ := h
    rfl
  · obtain ⟨a, ns, rfl, ha, hl, z⟩ := h
    refine ⟨_, (pss_cons (ps_set (i := 1) scRead.nd rfl (Or.inl rfl) (pe_lst pa_nil))
      (pss_cons (ps_for PassesOwn.never rfl (pi_range1 rfl T.range (pa_cons (pe_op op_fdiv (pe_callB call_len_seq (by rfl) T.len (by decide +kernel) (pa_cons (pv 0) pa_nil)) pe_int) pa_nil)) (pg_name (i := 2) scRead.nd rfl (Or.inl rfl))
        (pss_cons (ps_set (i := 3) scRead.nd rfl (Or.inl rfl) (pe_ix ix_list (pv 0) (pe_op op_add (pe_op op_mul pe_int (pv 2)) pe_int) (fun _ _ => rfl)))
        (pss_cons (ps_if (PW.pt (pw_or (pt_cmpR op_ne (pe_ix ix_list (pv 0) (pe_op op_mul pe_int (pv 2)) (fun _ _ => rfl)) (pv 2) (nomark _)) (pw_or (pt_cmpR op_lt (pv 3) pe_int (nomark _)) (pw_or1 (pt_cmpR op_ne (pe_ix ix_list (pv 0) (pe_op op_add (pe_op op_mul pe_int (pv 2)) pe_int) (fun _ _ => rfl)) (pe_op op_sub (pe_un un_neg pe_int) (pv 3)) (nomark _))))))
          (pss_one ps_break)
          pss_nil)
        (pss_one (ps_expr (pe_bm PySem.F.plainAttrs_list PySem.F.slot_list_append PySem.F.type_list_append mt_append (pv 1) (pa_cons (pv 3) pa_nil)))))))
      (pss_one (ps_ret (pv 1))))), ?_⟩
    -- found = []
    refine ⟨(by fail "sz"), fun p1 np1 => ?_⟩
    -- for k in range(len(row) // 3):
    refine ⟨_, rfl, _, _, rfl, .inl (SqL.of (by fail "hp")), _, _, rfl, rfl, (by fail "dv"), _, rfl, (by fail "om"), (by fail "om"), for_range (fun i σ H' => ∃ es v w, σ = [some (.ref a), some (.ref p1), v, w] ∧ Same H H' ∧ H' p1 = some (.lst (es.map V.int)) ∧ Sc ns es ∧ es.length = i) ⟨[], none, none, rfl, Same.new (Same.refl H) np1, upd_same, Sc.init ns, rfl⟩ ?_ ?_⟩
    · rintro i σ H2 hi ⟨es, v, w, rfl, sm, ht, sc, ln⟩
      have hi : 3 * i + 3 ≤ ns.length := by simp only [List.length_map] at hi; omega
      obtain ⟨x, y, u, r, er⟩ := drop3 (cs := ns) (n := 3 * es.length) (by omega)
      obtain ⟨i1, i2, i3⟩ := drop_three er
      have j1 := at_int (z := 3 * ((0 : Int) + (i : Int))) i1 (by omega)
      have j2 := at_int (z := 3 * ((0 : Int) + (i : Int)) + 1) i2 (by omega)
      have j3 := at_int (z := 3 * ((0 : Int) + (i : Int)) + 2) i3 (by omega)
      -- entry = row[3 * k + 1]
      refine ⟨_, rfl, _, rfl, _, _, rfl, rfl, (by fail "mul"), _, _, rfl, rfl, _, _, _, _, rfl, rfl, SqL.of (by fail "hp"), (by fail "ix"), ?_⟩
      -- if row[3 * k] != k or entry < 0 or row[3 * k + 2] != -1 - entry:
      refine ⟨_, rfl, _, rfl, _, _, rfl, rfl, (by fail "mul"), _, _, _, _, rfl, rfl, SqL.of (by fail "hp"), (by fail "ix"), _, rfl, rfl, _, rfl, ?_⟩
      refine ifNeI (fun g2 => ?_) (fun g2 => ?_)
      · fail "ite"
        -- break
        have fin : rd 0 ns = es := sc.stop (by rw [er]; exact rd_no (by omega))
        rw [← fin] at ht
        refine ⟨_, rfl, ?_⟩
        exact z _ _ sm np1 ht
      · refine ⟨_, rfl, _, _, rfl, rfl, _, rfl, ?_⟩
        refine ifD (fun g3 => ?_) (fun g3 => ?_)
        · fail "ite"
          -- break
          have fin : rd 0 ns = es := sc.stop (by rw [er]; exact rd_no (by omega))
          rw [← fin] at ht
          refine ⟨_, rfl, ?_⟩
          exact z _ _ sm np1 ht
        · refine ⟨_, rfl, _, rfl, _, _, rfl, rfl, (by fail "mul"), _, _, rfl, rfl, _, _, _, _, rfl, rfl, SqL.of (by fail "hp"), (by fail "ix"), _, rfl, _, rfl, _, _, rfl, rfl, rfl, _, rfl, ?_⟩
          refine ifNeI (fun g4 => ?_) (fun g4 => ?_)
          · -- break
            have fin : rd 0 ns = es := sc.stop (by rw [er]; exact rd_no (by omega))
            rw [← fin] at ht
            refine ⟨_, rfl, ?_⟩
            exact z _ _ sm np1 ht
          · -- found.append(entry)
            refine ⟨_, rfl, .inl ⟨rfl, _, SqL.of (by fail "hp")⟩, _, rfl, _, _, _, rfl, rfl, (by fail "hp"), (by fail "szl"), ?_⟩
            have sc2 := sc.step er ⟨by omega, by omega, by omega⟩
            exact ⟨es ++ [y], _, _, rfl, Same.mut sm np1, by rw [upd_same, List.map_append]; rfl, sc2, by rw [List.length_append, ln]; rfl⟩
    · rintro σ H2 ⟨es, v, w, rfl, sm, ht, sc, ln⟩
      have fin : rd 0 ns = es := sc.stop (rd_short (by rw [List.length_drop]; simp only [List.length_map] at ln; omega))
      rw [← fin] at ht
      -- return found
      refine ⟨_, rfl, ?_⟩
      exact z _ _ sm np1 ht
abbrev sIsRow : Stmt := top 16
theorem scIsRow : FnScope ["told", "due", "k"] ["told", "due"] (defScope sIsRow) := ⟨rfl, rfl, rfl, by decide +kernel, rfl, by decide +kernel, by decide +kernel⟩
def spIsRow : Sp := fun vs H Q _ => ∃ (a c : Addr) (ns : List Int), vs = [.ref a, .ref c] ∧ H a = some (.lst (ns.map V.int)) ∧ H c = some (.lst (ns.map V.int)) ∧ ns.length ≤ 3000 ∧ Q (.bl true) H
theorem ok_IsRow (D : Df K mg "_law_is_row" sIsRow ["told", "due"]) (T : Txt K mg) : C8.Cal P w K mg base 1 "_law_is_row" spIsRow [] := by
  obtain ⟨f, fd, F, hm, hb⟩ := D
  refine ⟨f, fd, ["told", "due"], [], F.ok scIsRow (fun vs H Q E h => ?_) (fun cdv A outer s H vs Q E hr h => ?_), hm, F.kp, hb, .nil⟩
  · obtain ⟨a, c, ns, rfl, ha, hc, hl, k⟩ := h
    rfl
  · obtain ⟨a, c, ns, rfl, ha, hc, hl, k⟩ := h
    refine ⟨_, (pss_cons (ps_if (PW.pt (pw_or (pt_not (pt_val (pe_callB call_isi (by rfl) T.isinstance (by decide +kernel) (pa_cons (pv 0) (pa_cons (pe_bltn (v := .ty "list") (u := .type "list") (by rfl) T.list (by decide +kernel) rfl) pa_nil))))) (pw_or1 (pt_cmpR op_ne (pe_callB call_len_seq (by rfl) T.len (by decide +kernel) (pa_cons (pv 0) pa_nil)) (pe_callB call_len_seq (by rfl) T.len (by decide +kernel) (pa_cons (pv 1) pa_nil)) (nomark _)))))
        (pss_one (ps_ret pe_bl))
        pss_nil)
      (pss_cons (ps_for PassesOwn.never rfl (pi_range1 rfl T.range (pa_cons (pe_callB call_len_seq (by rfl) T.len (by decide +kernel) (pa_cons (pv 1) pa_nil)) pa_nil)) (pg_name (i := 2) scIsRow.nd rfl (Or.inl rfl))
        (pss_one (ps_if (PW.pt (pw_or (pt_not (pt_val (pe_callB call_isi (by rfl) T.isinstance (by decide +kernel) (pa_cons (pe_ix ix_list (pv 0) (pv 2) (fun _ _ => rfl)) (pa_cons (pe_bltn (v := .ty "int") (u := .type "int") (by rfl) T.int (by decide +kernel) rfl) pa_nil))))) (pw_or (pt_val (pe_callB call_isi (by rfl) T.isinstance (by decide +kernel) (pa_cons (pe_ix ix_list (pv 0) (pv 2) (fun _ _ => rfl)) (pa_cons (pe_bltn (v := .ty "bool") (u := .type "bool") (by rfl) T.bool (by decide +kernel) rfl) pa_nil)))) (pw_or1 (pt_cmpR op_ne (pe_ix ix_list (pv 0) (pv 2) (fun _ _ => rfl)) (pe_ix ix_list (pv 1) (pv 2) (fun _ _ => rfl)) (nomark _))))))
          (pss_one (ps_ret pe_bl))
          pss_nil)))
      (pss_one (ps_ret pe_bl)))), ?_⟩
    -- if not isinstance(told, list) or len(told) != len(due):
    refine ⟨_, rfl, _, _, _, _, true, rfl, (by fail "cv"), (by fail "tx"), kit_ty (by decide +kernel), _, rfl, ?_⟩
    fail "ite"
    refine ⟨_, rfl, _, _, rfl, .inl (SqL.of (by fail "hp")), _, rfl, _, _, rfl, .inl (SqL.of (by fail "hp")), rfl, _, rfl, ?_⟩
    refine ifNeI (fun g1 => ?_) (fun g1 => ?_)
    · -- return False
      exact absurd rfl g1
    · -- for k in range(len(due)):
      refine ⟨_, rfl, _, _, rfl, .inl (SqL.of (by fail "hp")), _, rfl, (by fail "om"), (by fail "om"), for_range (lo := 0) (fun i σ H' => H' = H ∧ ∃ v, σ = [some (.ref a), some (.ref c), v]) ⟨rfl, none, rfl⟩ ?_ ?_⟩
      · rintro i σ H' hi ⟨rfl, v, rfl⟩
        have hi' : i < ns.length := by
          simp at hi
          omega
        have e1 := List.getElem?_eq_getElem hi'
        -- if not isinstance(told[k], int) or isinstance(told[k], bool) or told[k] != due[k]:
        refine ⟨_, rfl, _, rfl, _, _, _, _, rfl, rfl, SqL.of (by fail "hp"), (by fail "ix"), _, _, _, _, true, rfl, (by fail "cv"), (by fail "tx"), kit_ty (by decide +kernel), _, rfl, ?_⟩
        fail "ite"
        refine ⟨_, rfl, _, rfl, _, _, _, _, rfl, rfl, SqL.of (by fail "hp"), (by fail "ix"), _, _, _, _, false, rfl, (by fail "cv"), (by fail "tx"), kit_ty (by decide +kernel), _, rfl, ?_⟩
        fail "ite"
        refine ⟨_, rfl, _, rfl, _, _, _, _, rfl, rfl, SqL.of (by fail "hp"), (by fail "ix"), _, rfl, _, rfl, _, _, _, _, rfl, rfl, SqL.of (by fail "hp"), (by fail "ix"), rfl, _, rfl, ?_⟩
        refine ifNeI (fun g2 => ?_) (fun g2 => ?_)
        · -- return False
          contradiction
        · exact ⟨rfl, _, rfl⟩
      · rintro σ H' ⟨rfl, v, rfl⟩
        -- return True
        exact k
abbrev sFramesHold : Stmt := top 17
theorem scFramesHold : FnScope ["log", "row", "handed"] ["log", "row"] (defScope sFramesHold) := ⟨rfl, rfl, rfl, by decide +kernel, rfl, by decide +kernel, by decide +kernel⟩
def spFramesHold : Sp := fun vs H Q _ => ∃ (a c : Addr) (es : List Int), vs = [.ref a, .ref c] ∧ H a = some (.lst (es.map V.int)) ∧ H c = some (.lst ((frs 0 es).map V.int)) ∧ es.length ≤ 1000 ∧ ∀ (H' : Hp), Same H H' → Q (.bl true) H'
theorem ok_FramesHold (D : Df K mg "_law_frames_hold" sFramesHold ["log", "row"]) (T : Txt K mg) (GFrames : C8.Cal P w K mg base 2 "frames" spFrames []) (GIsRow : C8.Cal P w K mg base 1 "_law_is_row" spIsRow []) : C8.Cal P w K mg base 3 "_law_frames_hold" spFramesHold [] := by
  obtain ⟨f, fd, F, hm, hb⟩ := D
  refine ⟨f, fd, ["log", "row"], [], F.ok scFramesHold (fun vs H Q E h => ?_) (fun cdv A outer s H vs Q E hr h => ?_), hm, F.kp, hb, .nil⟩
  · obtain ⟨a, c, es, rfl, ha, hc, hl, z⟩ := h
    rfl
  · obtain ⟨a, c, es, rfl, ha, hc, hl, z⟩ := h
    have lf : (frs 0 es).length ≤ 3000 := by rw [frs_len]; omega
    refine ⟨_, (pss_cons (ps_set (i := 2) scFramesHold.nd rfl (Or.inl rfl) (pe_callTy call_list_of (by rfl) T.list (by decide +kernel) (pa_cons (pv 0) pa_nil)))
      (pss_one (ps_ret (pe_and (C8.pe_c GIsRow hr (by decide) (by rfl) (pa_cons (C8.pe_c GFrames hr (by decide) (by rfl) (pa_cons (pv 2) pa_nil)) (pa_cons (pv 1) pa_nil))) (pe_one (C8.pe_c GIsRow hr (by decide) (by rfl) (pa_cons (pv 2) (pa_cons (pv 0) pa_nil)))))))), ?_⟩
    -- handed = list(log)
    refine ⟨_, rfl, _, _, rfl, .inl (SqL.of (by fail "hp")), fun p1 np1 => ?_⟩
    -- return _law_is_row(frames(handed), row) and _law_is_row(handed, log)
    refine ⟨_, rfl, _, _, rfl, (by fail "hp"), (by fail "om"), fun p4 H4 sm4 np4 hp4 => ⟨_, rfl, _, _, _, rfl, (by fail "hp"), (by fail "hp"), (by fail "om"), ⟨_, rfl, iteK (by fail "tt") ⟨_, rfl, _, rfl, _, _, _, rfl, (by fail "hp"), (by fail "hp"), (by fail "om"), ?_⟩⟩⟩⟩
    exact z _ (by fail "sm")
end
end K32

end
section
set_option Elab.async false
set_option linter.all false
set_option maxRecDepth 100000
set_option maxHeartbeats 4000000
namespace K32
open PySem L2 Kit KR
local macro_rules | `(tactic| fail "om") => `(tactic| first | omega | (simp only [List.length_map, List.length_append, List.length_cons, List.length_nil]; omega) | (simp only [List.length_map, List.length_append, List.length_cons, List.length_nil] at *; omega) | assumption | decide | (simp only [List.length_append, List.length_map, List.length_cons, List.length_nil, List.length_take, List.length_drop, frs_len]; omega) | fail "no om")
local macro_rules | `(tactic| fail "nz") => `(tactic| first | decide | omega | fail "no nz")
local macro_rules | `(tactic| fail "dv") => `(tactic| exact ⟨by first | decide | omega, by first | decide | omega⟩)
local macro_rules | `(tactic| fail "mul") => `(tactic| first | exact .inr ⟨by decide, by decide⟩ | exact .inl ⟨by decide, by decide⟩ | exact mulF (by decide) (by decide) | exact .inl ⟨by omega, by omega⟩ | exact .inr ⟨by omega, by omega⟩ | fail "no mul")
local macro_rules | `(tactic| fail "sz") => `(tactic| first | assumption | exact Nat.zero_le _ | (show 1 ≤ sizeLine; decide) | (show 2 ≤ sizeLine; decide) | (show 3 ≤ sizeLine; decide) | (show 4 ≤ sizeLine; decide) | (show 5 ≤ sizeLine; decide) | exact Evl.sz_of (by omega) | (refine Evl.sz_of ?_; simp only [List.length_append, List.length_map, List.length_cons, List.length_nil]; omega) | (refine Evl.sz_of ?_; simp only [List.length_append, List.length_map, List.length_cons, List.length_nil, List.length_take, List.length_drop, frs_len]; omega) | (show 7 ≤ sizeLine; decide) | (show 9 ≤ sizeLine; decide) | fail "no sz")
local macro_rules | `(tactic| fail "szl") => `(tactic| first | exact Evl.sz_lt (by omega) | (refine Evl.sz_lt ?_; simp only [List.length_append, List.length_map, List.length_cons, List.length_nil]; omega) | fail "no szl")
local macro_rules | `(tactic| fail "ix") => `(tactic| first | assumption | exact ix0 | exact ix1 | exact ix2 | exact at_ref (by assumption) (by omega) | exact at_int (by assumption) (by omega) | exact at_drawn (by assumption) (by assumption) | exact at_lit (by first | assumption | omega) (by fail "om") | rfl | fail "no ix")
local macro_rules | `(tactic| fail "ixn") => `(tactic| first | rfl | assumption | fail "no ixn")
local macro_rules | `(tactic| fail "nb") => `(tactic| first | assumption | exact nb_tup | exact nb_nil | exact nb_ints | exact nb_refs | exact nb_ins | exact nb_dT | exact nb_frz | fail "no nb")
local macro_rules | `(tactic| fail "ne") => `(tactic| first | assumption | exact Ne.symm (by assumption) | exact ne_of_none (by assumption) (by assumption) | exact (ne_of_none (by assumption) (by assumption)).symm | exact ne_of (by assumption) (by assumption) (by intro q; cases q) | exact ne_of (by assumption) (by assumption) (by simp) | fail "no ne")
local macro_rules | `(tactic| fail "hp") => `(tactic| first | assumption | exact upd_same | exact lit0 | exact lit1 | exact lit3 | exact lit7 | exact lit9 | exact lit2 | (refine' Tk.get (by assumption) ?k1; (case k1 => fail "tk")) | (with_reducible refine' upd_new ?h1 ?n1; (case n1 => assumption); (case h1 => fail "hp")) | (refine' Same.get (by assumption) ?h1; (case h1 => fail "hp")) | (refine' Kp.get (by assumption) (by fail "bx") ?h1 ?d1; (case h1 => fail "hp"); (case d1 => fail "nb")) | (with_reducible refine' upd_oth ?h1 ?n1; (case n1 => fail "ne"); (case h1 => fail "hp")) | (with_reducible refine' upd_oth ?h1 ?n1; (case h1 => fail "hp"); (case n1 => fail "ne")) | fail "no hp")
local macro_rules | `(tactic| fail "bx") => `(tactic| first | assumption | (with_reducible refine' BoxOk.new ?h1 ?n1; (case n1 => assumption); (case h1 => fail "bx")) | (refine' BoxOk.same (by assumption) ?h1; (case h1 => fail "bx")) | (with_reducible refine' BoxOk.mut ?h1 ?h2 ?n1; (case n1 => assumption); (case h2 => assumption); (case h1 => fail "bx")) | fail "no bx")
local macro_rules | `(tactic| fail "kp") => `(tactic| first | assumption | exact Kp.refl | (with_reducible refine' Kp.at ?h1; (case h1 => fail "kp")) | (with_reducible refine' Kp.new ?h1 ?n1; (case n1 => assumption); (case h1 => fail "kp")) | (with_reducible refine' Kp.mut ?h1 ?n1; (case n1 => assumption); (case h1 => fail "kp")) | (refine' Kp.tr (by assumption) ?h1; (case h1 => fail "kp")) | (refine' Kp.tr (Kp.of (by assumption)) ?h1; (case h1 => fail "kp")) | fail "no kp")
local macro_rules | `(tactic| fail "ite") => `(tactic| first | refine iteT ?_ | refine iteF ?_)
local macro_rules | `(tactic| fail "tt") => `(tactic| first | rfl | exact decide_eq_true (by first | rfl | omega | assumption) | exact decide_eq_true (congrArg V.int (by first | rfl | omega)) | fail "no tt")
local macro_rules | `(tactic| fail "cv") => `(tactic| first | exact .ty _ | exact .own _)
local macro_rules | `(tactic| fail "tx") => `(tactic| first | exact .base (.int _) | exact .base (.bl _) | exact .base .non | exact .base (.lst (by fail "hp")) | exact .base (.tup (by fail "hp")) | fail "no tx")
local macro_rules | `(tactic| fail "dead") => `(tactic| (exfalso; first | omega | contradiction | simp_all))
local macro_rules | `(tactic| fail "dp") => `(tactic| first | exact .tup (SqT.of (by fail "hp")) (.cons (.int _) (.cons (.int _) .nil)) | exact .lst (SqL.of (by fail "hp")) (dpPrs (by fail "pr")) | exact .lst (SqL.of (by fail "hp")) (dpInts _) | exact .lst (SqL.of (by fail "hp")) .nil | fail "no dp")
local macro_rules | `(tactic| fail "shp") => `(tactic| first | assumption | exact prD_shaped _ | exact PySem.W.ke_shaped_ints _ | rfl | fail "no shp")
local macro_rules | `(tactic| fail "pr") => `(tactic| first | assumption | exact PrT.mono (by assumption) (by fail "tk") | fail "no pr")
local macro_rules | `(tactic| fail "tk") => `(tactic| first | assumption | exact Tk.refl | (with_reducible refine' Tk.new ?h1 ?n1; (case n1 => assumption); (case h1 => fail "tk")) | (refine' Tk.tr (Kp.tk (by assumption) (by fail "bx")) ?h1; (case h1 => fail "tk")) | (refine' Tk.tr (Same.tk (by assumption)) ?h1; (case h1 => fail "tk")) | (with_reducible refine' Tk.lst ?h1 ?n1; (case n1 => fail "hp"); (case h1 => fail "tk")) | fail "no tk")
local macro_rules | `(tactic| fail "kt") => `(tactic| first | exact upd_same | assumption | fail "hp")
local macro_rules | `(tactic| fail "mono") => `(tactic| first | exact fun _ _ _ _ h q => h _ _ q | exact fun _ _ _ _ h q => (let ⟨v, e, z⟩ := q; ⟨v, e, h _ _ z⟩) | exact fun _ _ _ _ h q => (let ⟨v, e, u, f, z⟩ := q; ⟨v, e, u, f, h _ _ z⟩) | fail "no mono")
local macro_rules | `(tactic| fail "sm") => `(tactic| first | assumption | exact Same.refl _ | (with_reducible refine' Same.new ?h1 ?n1; (case n1 => assumption); (case h1 => fail "sm")) | (refine' Same.tr (by assumption) ?h1; (case h1 => fail "sm")) | fail "no sm")
theorem dvw4 {i j : Int} (h1 : 1 ≤ j) (h2 : j ≤ 1000000000000000000000000000000) : CDivW i j := wide_div (b := 100) (by omega) (by
  have : (2 : Nat) ^ 100 = 1267650600228229401496703205376 := by decide
  rw [this]; omega) (by decide) (by decide)
local macro_rules | `(tactic| fail "dw") => `(tactic| first | exact dvw (by omega) (by omega) | fail "no dw")
local macro_rules | `(tactic| fail "rdd") => `(tactic| first | assumption | exact rdT (by assumption) (by assumption) | exact rdS (by assumption) (by assumption) (by fail "om") (by assumption) | rfl | fail "no rdd")
theorem fr4 {b bc p : Addr} {H H' : Hp} (n : H' p = none) (k : Kp b H H') (x : BoxOk H' b bc) : H p = none := Kp.free k x n
local macro_rules | `(tactic| fail "fr") => `(tactic| first | assumption | exact fr4 (by assumption) (by fail "kp") (by fail "bx") | fail "no fr")
local macro_rules | `(tactic| fail "ll") => `(tactic| first | omega | (simp only [List.length_append, List.length_map, List.length_cons, List.length_nil, List.length_take, List.length_drop, frs_len] at *; omega) | fail "no ll")

section
variable {P : Program} {w : World} {K : PySem.W.Frag} {mg : Str → Option Value} {base : Heap}

abbrev sScanHolds : Stmt := top 18
theorem scScanHolds : FnScope ["row", "log", "handed", "told"] ["row", "log"] (defScope sScanHolds) := ⟨rfl, rfl, rfl, by decide +kernel, rfl, by decide +kernel, by decide +kernel⟩
def spScanHolds : Sp := fun vs H Q _ => ∃ (a c : Addr) (ns es : List Int), vs = [.ref a, .ref c] ∧ H a = some (.lst (ns.map V.int)) ∧ H c = some (.lst (es.map V.int)) ∧ ns.length ≤ 3000 ∧ rd 0 ns = es ∧ ∀ (H' : Hp), Same H H' → Q (.bl true) H'
theorem lit1e {H : Hp} {p : Addr} {a b : Int} (h : a = b) : upd H p (.lst [V.int a]) p = some (.lst ([b].map V.int)) := by rw [h]; exact upd_same
theorem ok_ScanHolds (D : Df K mg "_law_scan_holds" sScanHolds ["row", "log"]) (T : Txt K mg) (GScan : C8.Cal P w K mg base 3 "scan" spScan []) (GIsRow : C8.Cal P w K mg base 1 "_law_is_row" spIsRow []) : C8.Cal P w K mg base 4 "_law_scan_holds" spScanHolds [] := by
  obtain ⟨f, fd, F, hm, hb⟩ := D
  refine ⟨f, fd, ["row", "log"], [], F.ok scScanHolds (fun vs H Q E h => ?_) (fun cdv A outer s H vs Q E hr h => ?_), hm, F.kp, hb, .nil⟩
  · obtain ⟨a, c, ns, es, rfl, ha, hc, hl, hrd, z⟩ := h
    rfl
  · obtain ⟨a, c, ns, es, rfl, ha, hc, hl, hrd, z⟩ := h
    have hes : 3 * es.length ≤ ns.length := by rw [← hrd]; exact rd_len 0 ns
    have eL : 3 * (((es.map V.int).length : Nat) : Int) = ((3 * (rd 0 ns).length : Nat) : Int) := by rw [List.length_map, ← hrd]; omega
    refine ⟨_, (pss_cons (ps_set (i := 2) scScanHolds.nd rfl (Or.inl rfl) (pe_callTy call_list_of (by rfl) T.list (by decide +kernel) (pa_cons (pv 0) pa_nil)))
      (pss_cons (ps_set (i := 3) scScanHolds.nd rfl (Or.inl rfl) (C8.pe_c GScan hr (by decide) (by rfl) (pa_cons (pv 2) pa_nil)))
      (pss_cons (ps_if (PW.pt (pw_or (pt_not (pt_val (pe_callB call_isi (by rfl) T.isinstance (by decide +kernel) (pa_cons (pv 3) (pa_cons (pe_bltn (v := .ty "tuple") (u := .type "tuple") (by rfl) T.tuple (by decide +kernel) rfl) pa_nil))))) (pw_or1 (pt_cmpR op_ne (pe_callB call_len_seq (by rfl) T.len (by decide +kernel) (pa_cons (pv 3) pa_nil)) pe_int (nomark _)))))
        (pss_one (ps_ret pe_bl))
        pss_nil)
      (pss_cons (ps_if (PW.pt (pw_or (pt_not (pt_val (C8.pe_c GIsRow hr (by decide) (by rfl) (pa_cons (pe_ix ix_tup (pv 3) pe_int (fun _ _ => rfl)) (pa_cons (pv 1) pa_nil))))) (pw_or1 (pt_not (pt_val (C8.pe_c GIsRow hr (by decide) (by rfl) (pa_cons (pe_lst (pa_cons (pe_ix ix_tup (pv 3) pe_int (fun _ _ => rfl)) pa_nil)) (pa_cons (pe_lst (pa_cons (pe_op op_mul pe_int (pe_callB call_len_seq (by rfl) T.len (by decide +kernel) (pa_cons (pv 1) pa_nil))) pa_nil)) pa_nil))))))))
        (pss_one (ps_ret pe_bl))
        pss_nil)
      (pss_one (ps_ret (C8.pe_c GIsRow hr (by decide) (by rfl) (pa_cons (pv 2) (pa_cons (pv 0) pa_nil))))))))), ?_⟩
    -- handed = list(row)
    refine ⟨_, rfl, _, _, rfl, .inl (SqL.of (by fail "hp")), fun p1 np1 => ?_⟩
    -- told = scan(handed)
    refine ⟨_, rfl, _, _, rfl, (by fail "hp"), (by fail "om"), fun t2 p2 H2 sm2 nt2 np2 ht2 hp2 => ?_⟩
    rw [hrd] at hp2
    -- if not isinstance(told, tuple) or len(told) != 2:
    refine ⟨_, rfl, _, _, _, _, true, rfl, (by fail "cv"), (by fail "tx"), kit_ty (by decide +kernel), _, rfl, ?_⟩
    fail "ite"
    refine ⟨_, rfl, _, _, rfl, .inr (SqT.of (by fail "hp")), rfl, _, rfl, ?_⟩
    refine ifNeI (fun g3 => ?_) (fun g3 => ?_)
    · -- return False
      exact absurd rfl g3
    · -- if not _law_is_row(told[0], log) or not _law_is_row([told[1]], [3 * len(log)]):
      refine ⟨_, rfl, _, _, _, _, rfl, rfl, SqT.of (by fail "hp"), (by fail "ix"), _, rfl, _, _, _, rfl, (by fail "hp"), (by fail "hp"), (by fail "om"), ⟨_, rfl, ?_⟩⟩
      fail "ite"
      refine ⟨_, rfl, _, _, _, _, rfl, rfl, SqT.of (by fail "hp"), (by fail "ix"), (by fail "sz"), fun p7 np7 => ⟨_, rfl, _, _, rfl, .inl (SqL.of (by fail "hp")), _, _, rfl, rfl, (by fail "mul"), (by fail "sz"), fun p6 np6 => ⟨_, _, _, rfl, (by fail "hp"), (lit1e eL), (by show 1 ≤ 3000; decide), ⟨_, rfl, ?_⟩⟩⟩⟩
      fail "ite"
      -- return _law_is_row(handed, row)
      refine ⟨_, rfl, _, rfl, _, _, _, rfl, (by fail "hp"), (by fail "hp"), (by fail "om"), ?_⟩
      exact z _ (by fail "sm")
abbrev sMendHolds : Stmt := top 19
theorem scMendHolds : FnScope ["row", "log", "due", "handed", "told", "second", "entry"] ["row", "log"] (defScope sMendHolds) := ⟨rfl, rfl, rfl, by decide +kernel, rfl, by decide +kernel, by decide +kernel⟩
def spMendHolds : Sp := fun vs H Q _ => ∃ (a c : Addr) (ns es : List Int), vs = [.ref a, .ref c] ∧ H a = some (.lst (ns.map V.int)) ∧ H c = some (.lst (es.map V.int)) ∧ ns.length ≤ 2900 ∧ rd 0 ns = es ∧ ∀ (H' : Hp), Same H H' → Q (.bl true) H'
theorem ok_MendHolds (D : Df K mg "_law_mend_holds" sMendHolds ["row", "log"]) (T : Txt K mg) (GIsRow : C8.Cal P w K mg base 1 "_law_is_row" spIsRow []) (GMend : C8.Cal P w K mg base 4 "mend" spMend []) (GFrame : C8.Cal P w K mg base 1 "_law_frame" spFrame []) (GScanHolds : C8.Cal P w K mg base 4 "_law_scan_holds" spScanHolds []) : C8.Cal P w K mg base 5 "_law_mend_holds" spMendHolds [] := by
  obtain ⟨f, fd, F, hm, hb⟩ := D
  refine ⟨f, fd, ["row", "log"], [], F.ok scMendHolds (fun vs H Q E h => ?_) (fun cdv A outer s H vs Q E hr h => ?_), hm, F.kp, hb, .nil⟩
  · obtain ⟨a, c, ns, es, rfl, ha, hc, hl, hrd, z⟩ := h
    rfl
  · obtain ⟨a, c, ns, es, rfl, ha, hc, hl, hrd, z⟩ := h
    have hes : 3 * es.length ≤ ns.length := by rw [← hrd]; exact rd_len 0 ns
    have epos : ∀ e ∈ es, 0 ≤ e := by rw [← hrd]; exact rd_pos
    have edue : ns.take (3 * (((es.map V.int).length : Nat) : Int)).toNat = frs 0 es := by
      rw [← take_due hrd]
      congr 1
      rw [List.length_map]
      omega
    have lfr : (frs 0 es).length = 3 * es.length := frs_len 0 es
    have edn : rd 0 (frs 0 es ++ [(((es.map V.int).length : Nat) : Int), 4 + (((es.map V.int).length : Nat) : Int), -1 - (4 + (((es.map V.int).length : Nat) : Int))]) = es ++ [4 + (((es.map V.int).length : Nat) : Int)] := by
      rw [List.length_map]
      exact rd_due _ epos (by omega)
    have etwo : (frs 0 es).take (3 * (rd 0 (frs 0 es)).length) = frs 0 es := by rw [take_rd, rd_frs epos]
    refine ⟨_, (pss_cons (ps_set (i := 2) scMendHolds.nd rfl (Or.inl rfl) (pe_slice sl_to (pv 0) po_none (po_some (pe_op op_mul pe_int (pe_callB call_len_seq (by rfl) T.len (by decide +kernel) (pa_cons (pv 1) pa_nil))))))
      (pss_cons (ps_set (i := 3) scMendHolds.nd rfl (Or.inl rfl) (pe_callTy call_list_of (by rfl) T.list (by decide +kernel) (pa_cons (pv 0) pa_nil)))
      (pss_cons (ps_set (i := 4) scMendHolds.nd rfl (Or.inl rfl) (C8.pe_c GMend hr (by decide) (by rfl) (pa_cons (pv 3) pa_nil)))
      (pss_cons (ps_if (PW.pt (pw_or (pt_not (pt_val (C8.pe_c GIsRow hr (by decide) (by rfl) (pa_cons (pv 4) (pa_cons (pv 2) pa_nil))))) (pw_or1 (pt_not (pt_val (C8.pe_c GIsRow hr (by decide) (by rfl) (pa_cons (pv 3) (pa_cons (pv 0) pa_nil))))))))
        (pss_one (ps_ret pe_bl))
        pss_nil)
      (pss_cons (ps_set (i := 5) scMendHolds.nd rfl (Or.inl rfl) (C8.pe_c GMend hr (by decide) (by rfl) (pa_cons (pv 4) pa_nil)))
      (pss_cons (ps_if (PW.pt (pw_or (pt_not (pt_val (C8.pe_c GIsRow hr (by decide) (by rfl) (pa_cons (pv 5) (pa_cons (pv 2) pa_nil))))) (pw_or1 (pt_not (pt_val (C8.pe_c GIsRow hr (by decide) (by rfl) (pa_cons (pv 4) (pa_cons (pv 2) pa_nil))))))))
        (pss_one (ps_ret pe_bl))
        pss_nil)
      (pss_cons (ps_expr (pe_bm PySem.F.plainAttrs_list PySem.F.slot_list_append PySem.F.type_list_append mt_append (pv 5) (pa_cons pe_int pa_nil)))
      (pss_cons (ps_if (pt_not (pt_val (C8.pe_c GIsRow hr (by decide) (by rfl) (pa_cons (pv 4) (pa_cons (pv 2) pa_nil)))))
        (pss_one (ps_ret pe_bl))
        pss_nil)
      (pss_cons (ps_expr (pe_bm PySem.F.plainAttrs_list PySem.F.slot_list_append PySem.F.type_list_append mt_append (pv 4) (pa_cons (pe_un un_neg pe_int) pa_nil)))
      (pss_cons (ps_if (pt_not (pt_val (C8.pe_c GIsRow hr (by decide) (by rfl) (pa_cons (pv 3) (pa_cons (pv 0) pa_nil)))))
        (pss_one (ps_ret pe_bl))
        pss_nil)
      (pss_cons (ps_set (i := 6) scMendHolds.nd rfl (Or.inl rfl) (pe_op op_add pe_int (pe_callB call_len_seq (by rfl) T.len (by decide +kernel) (pa_cons (pv 1) pa_nil))))
      (pss_one (ps_ret (C8.pe_c GScanHolds hr (by decide) (by rfl) (pa_cons (pe_op op_catI (pv 2) (C8.pe_c GFrame hr (by decide) (by rfl) (pa_cons (pe_callB call_len_seq (by rfl) T.len (by decide +kernel) (pa_cons (pv 1) pa_nil)) (pa_cons (pv 6) pa_nil)))) (pa_cons (pe_op op_catI (pv 1) (pe_lst (pa_cons (pv 6) pa_nil))) pa_nil)))))))))))))))), ?_⟩
    -- due = row[:3 * len(log)]
    refine ⟨_, rfl, _, rfl, _, _, rfl, .inl (SqL.of (by fail "hp")), _, _, rfl, rfl, (by fail "mul"), _, rfl, _, _, _, rfl, rfl, rfl, (by fail "om"), SqL.of (by fail "hp"), fun p1 np1 => ?_⟩
    have hdue : upd H p1 (HO.lst (List.map V.int (List.take (3 * (((es.map V.int).length : Nat) : Int)).toNat ns))) p1 = some (.lst ((frs 0 es).map V.int)) := by rw [upd_same, edue]
    have smd : Same H (upd H p1 (HO.lst (List.map V.int (List.take (3 * (((es.map V.int).length : Nat) : Int)).toNat ns)))) := Same.new (Same.refl _) np1
    revert hdue smd
    generalize upd H p1 (HO.lst (List.map V.int (List.take (3 * (((es.map V.int).length : Nat) : Int)).toNat ns))) = HD
    intro hdue smd
    -- handed = list(row)
    refine ⟨_, rfl, _, _, rfl, .inl (SqL.of (by fail "hp")), fun p2 np2 => ?_⟩
    -- told = mend(handed)
    refine ⟨_, rfl, _, _, rfl, (by fail "hp"), (by fail "om"), fun p3 H3 sm3 np3 hp3 => ?_⟩
    rw [hrd, take_due hrd] at hp3
    -- if not _law_is_row(told, due) or not _law_is_row(handed, row):
    refine ⟨_, rfl, _, rfl, _, _, _, rfl, (by fail "hp"), (by fail "hp"), (by fail "om"), ⟨_, rfl, ?_⟩⟩
    fail "ite"
    refine ⟨_, rfl, _, rfl, _, _, _, rfl, (by fail "hp"), (by fail "hp"), (by fail "om"), ⟨_, rfl, ?_⟩⟩
    fail "ite"
    -- second = mend(told)
    refine ⟨_, rfl, _, _, rfl, (by fail "hp"), (by fail "om"), fun p6 H6 sm6 np6 hp6 => ?_⟩
    rw [etwo] at hp6
    -- if not _law_is_row(second, due) or not _law_is_row(told, due):
    refine ⟨_, rfl, _, rfl, _, _, _, rfl, (by fail "hp"), (by fail "hp"), (by fail "om"), ⟨_, rfl, ?_⟩⟩
    fail "ite"
    refine ⟨_, rfl, _, rfl, _, _, _, rfl, (by fail "hp"), (by fail "hp"), (by fail "om"), ⟨_, rfl, ?_⟩⟩
    fail "ite"
    -- second.append(3)
    refine ⟨_, rfl, .inl ⟨rfl, _, SqL.of (by fail "hp")⟩, _, _, _, rfl, rfl, (by fail "hp"), (by fail "szl"), ?_⟩
    have s7 : ∀ o, Same H3 (upd H6 p6 o) := fun o => Same.mut sm6 np6
    generalize hG7 : upd H6 p6 _ = H7
    have s7 : Same H3 H7 := by rw [← hG7]; exact s7 _
    -- if not _law_is_row(told, due):
    refine ⟨_, rfl, _, rfl, _, _, _, rfl, (by fail "hp"), (by fail "hp"), (by fail "om"), ⟨_, rfl, ?_⟩⟩
    fail "ite"
    -- told.append(-1)
    refine ⟨_, rfl, .inl ⟨rfl, _, SqL.of (by fail "hp")⟩, _, rfl, _, _, _, rfl, rfl, (by fail "hp"), (by fail "szl"), ?_⟩
    have s8 : ∀ o, Same (upd HD p2 (HO.lst (List.map V.int ns))) (upd H7 p3 o) := fun o => Same.mut (Same.tr s7 sm3) np3
    generalize hG8 : upd H7 p3 _ = H8
    have s8 : Same (upd HD p2 (HO.lst (List.map V.int ns))) H8 := by rw [← hG8]; exact s8 _
    -- if not _law_is_row(handed, row):
    refine ⟨_, rfl, _, rfl, _, _, _, rfl, (by fail "hp"), (by fail "hp"), (by fail "om"), ⟨_, rfl, ?_⟩⟩
    fail "ite"
    -- entry = 4 + len(log)
    refine ⟨_, rfl, _, _, rfl, .inl (SqL.of (by fail "hp")), _, _, rfl, rfl, ?_⟩
    -- return _law_scan_holds(due + _law_frame(len(log), entry), log + [entry])
    refine ⟨_, rfl, _, rfl, _, _, rfl, .inl (SqL.of (by fail "hp")), _, rfl, _, _, rfl, fun p15 H15 np15 sm15 hp15 => ⟨_, _, _, _, rfl, rfl, (by fail "hp"), (by fail "hp"), (by fail "sz"), fun p14 np14 => ⟨_, rfl, _, rfl, (by fail "sz"), fun p13 np13 => ⟨_, _, _, _, rfl, rfl, (by fail "hp"), (by fail "hp"), (by fail "sz"), fun p12 np12 => ⟨_, _, _, _, rfl, (by fail "hp"), (by fail "hp"), (by fail "om"), (by fail "rdd"), fun H11 sm11 => ?_⟩⟩⟩⟩⟩
    exact z _ (by fail "sm")
abbrev sHolds : Stmt := top 20
theorem scHolds : FnScope ["row", "log"] ["row", "log"] (defScope sHolds) := ⟨rfl, rfl, rfl, by decide +kernel, rfl, by decide +kernel, by decide +kernel⟩
def spHolds : Sp := fun vs H Q _ => ∃ (a c : Addr) (ns es : List Int), vs = [.ref a, .ref c] ∧ H a = some (.lst (ns.map V.int)) ∧ H c = some (.lst (es.map V.int)) ∧ ns.length ≤ 2900 ∧ rd 0 ns = es ∧ ∀ (H' : Hp), Same H H' → Q (.bl true) H'
theorem ok_Holds (D : Df K mg "_law_holds" sHolds ["row", "log"]) (T : Txt K mg) (GScanHolds : C8.Cal P w K mg base 4 "_law_scan_holds" spScanHolds []) (GMendHolds : C8.Cal P w K mg base 5 "_law_mend_holds" spMendHolds []) : C8.Cal P w K mg base 6 "_law_holds" spHolds [] := by
  obtain ⟨f, fd, F, hm, hb⟩ := D
  refine ⟨f, fd, ["row", "log"], [], F.ok scHolds (fun vs H Q E h => ?_) (fun cdv A outer s H vs Q E hr h => ?_), hm, F.kp, hb, .nil⟩
  · obtain ⟨a, c, ns, es, rfl, ha, hc, hl, hrd, z⟩ := h
    rfl
  · obtain ⟨a, c, ns, es, rfl, ha, hc, hl, hrd, z⟩ := h
    have hes : 3 * es.length ≤ ns.length := by rw [← hrd]; exact rd_len 0 ns
    refine ⟨_, (pss_one (ps_ret (pe_and (C8.pe_c GScanHolds hr (by decide) (by rfl) (pa_cons (pv 0) (pa_cons (pv 1) pa_nil))) (pe_one (C8.pe_c GMendHolds hr (by decide) (by rfl) (pa_cons (pv 0) (pa_cons (pv 1) pa_nil))))))), ?_⟩
    -- return _law_scan_holds(row, log) and _law_mend_holds(row, log)
    refine ⟨_, rfl, _, rfl, _, _, _, _, rfl, (by fail "hp"), (by fail "hp"), (by fail "om"), (by fail "rdd"), fun H2 sm2 => ⟨_, rfl, iteK (by fail "tt") ⟨_, rfl, _, rfl, _, _, _, _, rfl, (by fail "hp"), (by fail "hp"), (by fail "om"), (by fail "rdd"), fun H1 sm1 => ?_⟩⟩⟩
    exact z _ (by fail "sm")
end
end K32

end
section
set_option Elab.async false
set_option linter.all false
set_option maxRecDepth 100000
set_option maxHeartbeats 4000000
namespace K32
open PySem L2 Kit KR
local macro_rules | `(tactic| fail "om") => `(tactic| first | omega | (simp only [List.length_map, List.length_append, List.length_cons, List.length_nil]; omega) | (simp only [List.length_map, List.length_append, List.length_cons, List.length_nil] at *; omega) | assumption | decide | (simp only [List.length_append, List.length_map, List.length_cons, List.length_nil, List.length_take, List.length_drop, frs_len]; omega) | fail "no om")
local macro_rules | `(tactic| fail "nz") => `(tactic| first | decide | omega | fail "no nz")
local macro_rules | `(tactic| fail "dv") => `(tactic| exact ⟨by first | decide | omega, by first | decide | omega⟩)
local macro_rules | `(tactic| fail "mul") => `(tactic| first | exact .inr ⟨by decide, by decide⟩ | exact .inl ⟨by decide, by decide⟩ | exact mulF (by decide) (by decide) | exact .inl ⟨by omega, by omega⟩ | exact .inr ⟨by omega, by omega⟩ | fail "no mul")
local macro_rules | `(tactic| fail "sz") => `(tactic| first | assumption | exact Nat.zero_le _ | (show 1 ≤ sizeLine; decide) | (show 2 ≤ sizeLine; decide) | (show 3 ≤ sizeLine; decide) | (show 4 ≤ sizeLine; decide) | (show 5 ≤ sizeLine; decide) | exact Evl.sz_of (by omega) | (refine Evl.sz_of ?_; simp only [List.length_append, List.length_map, List.length_cons, List.length_nil]; omega) | (refine Evl.sz_of ?_; simp only [List.length_append, List.length_map, List.length_cons, List.length_nil, List.length_take, List.length_drop, frs_len]; omega) | (show 7 ≤ sizeLine; decide) | (show 9 ≤ sizeLine; decide) | fail "no sz")
local macro_rules | `(tactic| fail "szl") => `(tactic| first | exact Evl.sz_lt (by omega) | (refine Evl.sz_lt ?_; simp only [List.length_append, List.length_map, List.length_cons, List.length_nil]; omega) | fail "no szl")
local macro_rules | `(tactic| fail "ix") => `(tactic| first | assumption | exact ix0 | exact ix1 | exact ix2 | exact at_ref (by assumption) (by omega) | exact at_int (by assumption) (by omega) | exact at_drawn (by assumption) (by assumption) | exact at_lit (by first | assumption | omega) (by fail "om") | rfl | fail "no ix")
local macro_rules | `(tactic| fail "ixn") => `(tactic| first | rfl | assumption | fail "no ixn")
local macro_rules | `(tactic| fail "nb") => `(tactic| first | assumption | exact nb_tup | exact nb_nil | exact nb_ints | exact nb_refs | exact nb_ins | exact nb_dT | exact nb_frz | fail "no nb")
local macro_rules | `(tactic| fail "ne") => `(tactic| first | assumption | exact Ne.symm (by assumption) | exact ne_of_none (by assumption) (by assumption) | exact (ne_of_none (by assumption) (by assumption)).symm | exact ne_of (by assumption) (by assumption) (by intro q; cases q) | exact ne_of (by assumption) (by assumption) (by simp) | fail "no ne")
local macro_rules | `(tactic| fail "hp") => `(tactic| first | assumption | exact upd_same | exact lit0 | exact lit1 | exact lit3 | exact lit7 | exact lit9 | exact lit2 | (refine' Tk.get (by assumption) ?k1; (case k1 => fail "tk")) | (with_reducible refine' upd_new ?h1 ?n1; (case n1 => assumption); (case h1 => fail "hp")) | (refine' Same.get (by assumption) ?h1; (case h1 => fail "hp")) | (refine' Kp.get (by assumption) (by fail "bx") ?h1 ?d1; (case h1 => fail "hp"); (case d1 => fail "nb")) | (with_reducible refine' upd_oth ?h1 ?n1; (case n1 => fail "ne"); (case h1 => fail "hp")) | (with_reducible refine' upd_oth ?h1 ?n1; (case h1 => fail "hp"); (case n1 => fail "ne")) | fail "no hp")
local macro_rules | `(tactic| fail "bx") => `(tactic| first | assumption | (with_reducible refine' BoxOk.new ?h1 ?n1; (case n1 => assumption); (case h1 => fail "bx")) | (refine' BoxOk.same (by assumption) ?h1; (case h1 => fail "bx")) | (with_reducible refine' BoxOk.mut ?h1 ?h2 ?n1; (case n1 => assumption); (case h2 => assumption); (case h1 => fail "bx")) | fail "no bx")
local macro_rules | `(tactic| fail "kp") => `(tactic| first | assumption | exact Kp.refl | (with_reducible refine' Kp.at ?h1; (case h1 => fail "kp")) | (with_reducible refine' Kp.new ?h1 ?n1; (case n1 => assumption); (case h1 => fail "kp")) | (with_reducible refine' Kp.mut ?h1 ?n1; (case n1 => assumption); (case h1 => fail "kp")) | (refine' Kp.tr (by assumption) ?h1; (case h1 => fail "kp")) | (refine' Kp.tr (Kp.of (by assumption)) ?h1; (case h1 => fail "kp")) | fail "no kp")
local macro_rules | `(tactic| fail "ite") => `(tactic| first | refine iteT ?_ | refine iteF ?_)
local macro_rules | `(tactic| fail "tt") => `(tactic| first | rfl | exact decide_eq_true (by first | rfl | omega | assumption) | exact decide_eq_true (congrArg V.int (by first | rfl | omega)) | fail "no tt")
local macro_rules | `(tactic| fail "cv") => `(tactic| first | exact .ty _ | exact .own _)
local macro_rules | `(tactic| fail "tx") => `(tactic| first | exact .base (.int _) | exact .base (.bl _) | exact .base .non | exact .base (.lst (by fail "hp")) | exact .base (.tup (by fail "hp")) | fail "no tx")
local macro_rules | `(tactic| fail "dead") => `(tactic| (exfalso; first | omega | contradiction | simp_all))
local macro_rules | `(tactic| fail "dp") => `(tactic| first | exact .tup (SqT.of (by fail "hp")) (.cons (.int _) (.cons (.int _) .nil)) | exact .lst (SqL.of (by fail "hp")) (dpPrs (by fail "pr")) | exact .lst (SqL.of (by fail "hp")) (dpInts _) | exact .lst (SqL.of (by fail "hp")) .nil | fail "no dp")
local macro_rules | `(tactic| fail "shp") => `(tactic| first | assumption | exact prD_shaped _ | exact PySem.W.ke_shaped_ints _ | rfl | fail "no shp")
local macro_rules | `(tactic| fail "pr") => `(tactic| first | assumption | exact PrT.mono (by assumption) (by fail "tk") | fail "no pr")
local macro_rules | `(tactic| fail "tk") => `(tactic| first | assumption | exact Tk.refl | (with_reducible refine' Tk.new ?h1 ?n1; (case n1 => assumption); (case h1 => fail "tk")) | (refine' Tk.tr (Kp.tk (by assumption) (by fail "bx")) ?h1; (case h1 => fail "tk")) | (refine' Tk.tr (Same.tk (by assumption)) ?h1; (case h1 => fail "tk")) | (with_reducible refine' Tk.lst ?h1 ?n1; (case n1 => fail "hp"); (case h1 => fail "tk")) | fail "no tk")
local macro_rules | `(tactic| fail "kt") => `(tactic| first | exact upd_same | assumption | fail "hp")
local macro_rules | `(tactic| fail "mono") => `(tactic| first | exact fun _ _ _ _ h q => h _ _ q | exact fun _ _ _ _ h q => (let ⟨v, e, z⟩ := q; ⟨v, e, h _ _ z⟩) | exact fun _ _ _ _ h q => (let ⟨v, e, u, f, z⟩ := q; ⟨v, e, u, f, h _ _ z⟩) | fail "no mono")
local macro_rules | `(tactic| fail "sm") => `(tactic| first | assumption | exact Same.refl _ | (with_reducible refine' Same.new ?h1 ?n1; (case n1 => assumption); (case h1 => fail "sm")) | (refine' Same.tr (by assumption) ?h1; (case h1 => fail "sm")) | fail "no sm")
theorem dvw5 {i j : Int} (h1 : 1 ≤ j) (h2 : j ≤ 1000000000000000000000000000000) : CDivW i j := wide_div (b := 100) (by omega) (by
  have : (2 : Nat) ^ 100 = 1267650600228229401496703205376 := by decide
  rw [this]; omega) (by decide) (by decide)
local macro_rules | `(tactic| fail "dw") => `(tactic| first | exact dvw (by omega) (by omega) | fail "no dw")
local macro_rules | `(tactic| fail "rdd") => `(tactic| first | assumption | exact rdT (by assumption) (by assumption) | exact rdS (by assumption) (by assumption) (by fail "om") (by assumption) | rfl | fail "no rdd")
theorem fr5 {b bc p : Addr} {H H' : Hp} (n : H' p = none) (k : Kp b H H') (x : BoxOk H' b bc) : H p = none := Kp.free k x n
local macro_rules | `(tactic| fail "fr") => `(tactic| first | assumption | exact fr5 (by assumption) (by fail "kp") (by fail "bx") | fail "no fr")
local macro_rules | `(tactic| fail "ll") => `(tactic| first | omega | (simp only [List.length_append, List.length_map, List.length_cons, List.length_nil, List.length_take, List.length_drop, frs_len] at *; omega) | fail "no ll")

section
variable {P : Program} {w : World} {K : PySem.W.Frag} {mg : Str → Option Value} {base : Heap}

abbrev sChanged : Stmt := top 21
theorem scChanged : FnScope ["tape", "row", "place", "old", "other", "value"] ["tape", "row", "place"] (defScope sChanged) := ⟨rfl, rfl, rfl, by decide +kernel, rfl, by decide +kernel, by decide +kernel⟩
def spChanged : Sp := fun vs H Q _ => ∃ (b bc a : Addr) (ns : List Int) (pl : Int), vs = [.ref b, .ref a, .int pl] ∧ BoxOk H b bc ∧ H a = some (.lst (ns.map V.int)) ∧ ns.length ≤ 900 ∧ 0 ≤ pl ∧ pl < ((ns.length : Nat) : Int) ∧
  ∀ (p : Addr) (v : Int) (H' : Hp), v ≠ ns.getD pl.toNat 0 → Kp b H H' → BoxOk H' b bc → H p = none → H' p = some (.lst ((ns.take pl.toNat ++ [v] ++ ns.drop (pl.toNat + 1)).map V.int)) → Q (.ref p) H'
theorem ok_Changed (D : Df K mg "_law_changed" sChanged ["tape", "row", "place"]) (T : Txt K mg) (GDraw : C8.Cal P w K mg base 2 "_law_draw" spDraw []) : C8.Cal P w K mg base 3 "_law_changed" spChanged [] := by
  obtain ⟨f, fd, F, hm, hb⟩ := D
  refine ⟨f, fd, ["tape", "row", "place"], [], F.ok scChanged (fun vs H Q E h => ?_) (fun cdv A outer s H vs Q E hr h => ?_), hm, F.kp, hb, .nil⟩
  · obtain ⟨b, bc, a, ns, pl, rfl, bx, ha, hl, hp0, hp1, k⟩ := h
    rfl
  · obtain ⟨b, bc, a, ns, pl, rfl, bx, ha, hl, hp0, hp1, k⟩ := h
    have epl : (pl + 1).toNat = pl.toNat + 1 := by omega
    refine ⟨_, (pss_cons (ps_set (i := 3) scChanged.nd rfl (Or.inl rfl) (pe_ix ix_list (pv 1) (pv 2) (fun _ _ => rfl)))
      (pss_cons (ps_set (i := 4) scChanged.nd rfl (Or.inl rfl) (pe_ix ix_list (pv 1) (C8.pe_c GDraw hr (by decide) (by rfl) (pa_cons (pv 0) (pa_cons (pe_callB call_len_seq (by rfl) T.len (by decide +kernel) (pa_cons (pv 1) pa_nil)) pa_nil))) (fun _ _ => rfl)))
      (pss_cons (ps_set (i := 5) scChanged.nd rfl (Or.inl rfl) (pe_ix ix_I (pe_lst (pa_cons (pe_op op_add (pv 3) pe_int) (pa_cons (pe_op op_sub (pv 3) pe_int) (pa_cons (pe_op op_sub (pe_un un_neg pe_int) (pv 3)) (pa_cons (pe_op op_add (pv 3) pe_int) (pa_cons (pe_op op_add (pv 3) (pe_op op_pow pe_int pe_int)) (pa_cons pe_int (pa_cons (pv 4) pa_nil)))))))) (C8.pe_c GDraw hr (by decide) (by rfl) (pa_cons (pv 0) (pa_cons pe_int pa_nil))) (fun _ _ => rfl)))
      (pss_cons (ps_if (pt_cmpR op_eq (pv 5) (pv 3) (nomark _))
        (pss_one (ps_set (i := 5) scChanged.nd rfl (Or.inl rfl) (pe_op op_add (pv 3) pe_int)))
        pss_nil)
      (pss_one (ps_ret (pe_op op_catI (pe_op op_catI (pe_slice sl_to (pv 1) po_none (po_some (pv 2))) (pe_lst (pa_cons (pv 5) pa_nil))) (pe_slice sl_from (pv 1) (po_some (pe_op op_add (pv 2) pe_int)) po_none)))))))), ?_⟩
    -- old = row[place]
    refine ⟨_, rfl, _, rfl, _, _, _, _, rfl, rfl, SqL.of (by fail "hp"), (by fail "ix"), ?_⟩
    -- other = row[_law_draw(tape, len(row))]
    refine ⟨_, rfl, _, rfl, _, rfl, _, _, rfl, .inl (SqL.of (by fail "hp")), _, _, _, rfl, (by fail "bx"), (by fail "om"), (by fail "om"), fun d1 H1 da1 db1 kp1 bx1 => ⟨_, _, _, _, rfl, rfl, SqL.of (by fail "hp"), (by fail "ix"), ?_⟩⟩
    -- value = [old + 1, old - 1, -1 - old, old + 256, old + 2 ** 32, 0, other][_law_draw(tape, 7)]
    refine ⟨_, rfl, _, _, rfl, rfl, _, rfl, _, _, rfl, rfl, _, rfl, _, rfl, _, _, rfl, rfl, _, rfl, _, _, rfl, rfl, _, rfl, _, _, rfl, rfl, ⟨by decide, by decide, by decide⟩, _, _, rfl, rfl, _, rfl, (by fail "sz"), fun p3 np3 => ⟨_, rfl, _, _, _, rfl, (by fail "bx"), (by fail "om"), (by fail "om"), fun d2 H2 da2 db2 kp2 bx2 => ⟨_, _, _, _, rfl, rfl, (by fail "hp"), (by fail "ix"), ?_⟩⟩⟩
    -- if value == old:
    refine ⟨_, rfl, _, rfl, rfl, _, rfl, ?_⟩
    refine ifEqI (fun g4 => ?_) (fun g4 => ?_)
    · -- value = old + 1
      refine ⟨_, rfl, _, _, rfl, rfl, ?_⟩
      -- return row[:place] + [value] + row[place + 1:]
      refine ⟨_, rfl, _, rfl, _, rfl, _, _, _, rfl, rfl, rfl, (by fail "om"), SqL.of (by fail "hp"), fun p9 np9 => ⟨_, rfl, (by fail "sz"), fun p8 np8 => ⟨_, _, _, _, rfl, rfl, (by fail "hp"), (by fail "hp"), (by fail "sz"), fun p7 np7 => ⟨_, rfl, _, rfl, _, _, rfl, rfl, _, rfl, _, _, _, rfl, rfl, rfl, (by fail "om"), SqL.of (by fail "hp"), fun p6 np6 => ⟨_, _, _, _, rfl, rfl, (by fail "hp"), (by fail "hp"), (by fail "sz"), fun p5 np5 => ?_⟩⟩⟩⟩⟩
      exact k _ (ns.getD pl.toNat 0 + 1) _ (by omega) (by fail "kp") (by fail "bx") (by fail "fr") (by rw [upd_same, epl])
    · -- return row[:place] + [value] + row[place + 1:]
      refine ⟨_, rfl, _, rfl, _, rfl, _, _, _, rfl, rfl, rfl, (by fail "om"), SqL.of (by fail "hp"), fun p14 np14 => ⟨_, rfl, (by fail "sz"), fun p13 np13 => ⟨_, _, _, _, rfl, rfl, (by fail "hp"), (by fail "hp"), (by fail "sz"), fun p12 np12 => ⟨_, rfl, _, rfl, _, _, rfl, rfl, _, rfl, _, _, _, rfl, rfl, rfl, (by fail "om"), SqL.of (by fail "hp"), fun p11 np11 => ⟨_, _, _, _, rfl, rfl, (by fail "hp"), (by fail "hp"), (by fail "sz"), fun p10 np10 => ?_⟩⟩⟩⟩⟩
      exact k _ _ _ g4 (by fail "kp") (by fail "bx") (by fail "fr") (by rw [upd_same, epl])
abbrev sWrong : Stmt := top 22
theorem scWrong : FnScope ["tape", "row", "k", "entry", "index"] ["tape"] (defScope sWrong) := ⟨rfl, rfl, rfl, by decide +kernel, rfl, by decide +kernel, by decide +kernel⟩
def spWrong : Sp := fun vs H Q _ => ∃ (b bc : Addr), vs = [.ref b] ∧ BoxOk H b bc ∧
  ∀ (p : Addr) (ms : List Int) (H' : Hp), ms.length ≤ 30 → Kp b H H' → BoxOk H' b bc → H p = none → H' p = some (.lst (ms.map V.int)) → Q (.ref p) H'
theorem ok_Wrong (D : Df K mg "_law_wrong_frames" sWrong ["tape"]) (T : Txt K mg) (GDraw : C8.Cal P w K mg base 2 "_law_draw" spDraw []) : C8.Cal P w K mg base 3 "_law_wrong_frames" spWrong [] := by
  obtain ⟨f, fd, F, hm, hb⟩ := D
  refine ⟨f, fd, ["tape"], [], F.ok scWrong (fun vs H Q E h => ?_) (fun cdv A outer s H vs Q E hr h => ?_), hm, F.kp, hb, .nil⟩
  · obtain ⟨b, bc, rfl, bx, k⟩ := h
    rfl
  · obtain ⟨b, bc, rfl, bx, k⟩ := h
    refine ⟨_, (pss_cons (ps_set (i := 1) scWrong.nd rfl (Or.inr rfl) (pe_lst pa_nil))
      (pss_cons (ps_for PassesOwn.never rfl (pi_range1 rfl T.range (pa_cons (C8.pe_c GDraw hr (by decide) (by rfl) (pa_cons (pv 0) (pa_cons pe_int pa_nil))) pa_nil)) (pg_name (i := 2) scWrong.nd rfl (Or.inl rfl))
        (pss_cons (ps_set (i := 3) scWrong.nd rfl (Or.inl rfl) (pe_op op_sub (C8.pe_c GDraw hr (by decide) (by rfl) (pa_cons (pv 0) (pa_cons pe_int pa_nil))) pe_int))
        (pss_cons (ps_set (i := 4) scWrong.nd rfl (Or.inl rfl) (pe_op op_add (pv 2) (pe_ix ix_I (pe_lst (pa_cons pe_int (pa_cons pe_int (pa_cons pe_int (pa_cons pe_int (pa_cons pe_int (pa_cons pe_int (pa_cons pe_int (pa_cons pe_int (pa_cons (pe_un un_neg pe_int) pa_nil)))))))))) (C8.pe_c GDraw hr (by decide) (by rfl) (pa_cons (pv 0) (pa_cons pe_int pa_nil))) (fun _ _ => rfl))))
        (pss_one (ps_set (i := 1) scWrong.nd rfl (Or.inr rfl) (pe_op op_catI (pv 1) (pe_lst (pa_cons (pv 4) (pa_cons (pv 3) (pa_cons (pe_op op_add (pe_op op_sub (pe_un un_neg pe_int) (pv 3)) (pe_ix ix_I (pe_lst (pa_cons pe_int (pa_cons pe_int (pa_cons pe_int (pa_cons pe_int (pa_cons pe_int (pa_cons pe_int (pa_cons pe_int (pa_cons pe_int (pa_cons (pe_un un_neg pe_int) pa_nil)))))))))) (C8.pe_c GDraw hr (by decide) (by rfl) (pa_cons (pv 0) (pa_cons pe_int pa_nil))) (fun _ _ => rfl))) pa_nil))))))))))
      (pss_one (ps_ret (pe_op op_catI (pv 1) (pe_lc (own := [("k", 2)]) (g := gName 2) (tt := tYes) rfl scWrong.nd (pi_range1 rfl T.range (pa_cons (C8.pe_c GDraw hr (by decide) (by rfl) (pa_cons (pv 0) (pa_cons pe_int pa_nil))) pa_nil)) (blkOk_by (N := ["tape", "row", "k", "entry", "index"]) (sc := defScope sWrong) (by decide +kernel)) (fun _ _ _ _ _ => (pg_name (i := 2) scWrong.nd rfl (Or.inl rfl))) (fun _ _ _ _ _ => pts_nil) (fun _ _ _ _ _ => (pe_ix ix_I (pe_lst (pa_cons (pe_op op_fdiv (pe_callB call_lenI (by rfl) T.len (by decide +kernel) (pa_cons (pv 1) pa_nil)) pe_int) (pa_cons pe_int pa_nil))) (pv 2) (fun _ _ => rfl))))))))), ?_⟩
    -- row = []
    refine ⟨(by fail "sz"), fun p1 np1 => ?_⟩
    -- for k in range(_law_draw(tape, 7)):
    refine ⟨_, rfl, _, _, _, rfl, (by fail "bx"), (by fail "om"), (by fail "om"), fun d2 H2 da2 db2 kp2 bx2 => ⟨_, rfl, (by fail "om"), (by fail "om"), for_range (fun i σ H' => ∃ (q : Addr) (ms : List Int) (v w u : Option V), σ = [some (.ref b), some (.ref q), v, w, u] ∧ Kp b H H' ∧ BoxOk H' b bc ∧ H q = none ∧ H' q = some (.lst (ms.map V.int)) ∧ ms.length = 3 * i) ⟨p1, [], none, none, none, rfl, by fail "kp", bx2, np1, by fail "hp", rfl⟩ ?_ ?_⟩⟩
    · rintro i σ Hi hi ⟨q, ms, v, w, u, rfl, kpi, bxi, nq, hq, ln⟩
      have hi7 : i < 7 := by omega
      -- entry = _law_draw(tape, 6) - 1
      refine ⟨_, rfl, _, _, _, rfl, (by fail "bx"), (by fail "om"), (by fail "om"), fun d3 H3 da3 db3 kp3 bx3 => ⟨_, _, rfl, rfl, ?_⟩⟩
      -- index = k + [0, 0, 0, 0, 0, 0, 0, 1, -1][_law_draw(tape, 9)]
      refine ⟨_, rfl, _, rfl, (by fail "sz"), fun p5 np5 => ⟨_, rfl, _, _, _, rfl, (by fail "bx"), (by fail "om"), (by fail "om"), fun d4 H4 da4 db4 kp4 bx4 => ⟨_, _, _, _, rfl, rfl, (by fail "hp"), (by fail "ix"), _, _, rfl, rfl, ?_⟩⟩⟩
      -- row = row + [index, entry, -1 - entry + [0, 0, 0, 0, 0, 0, 0, 1, -1][_law_draw(tape, 9)]]
      refine ⟨_, rfl, _, rfl, _, rfl, _, rfl, _, rfl, _, _, rfl, rfl, _, rfl, (by fail "sz"), fun p9 np9 => ⟨_, rfl, _, _, _, rfl, (by fail "bx"), (by fail "om"), (by fail "om"), fun d8 H8 da8 db8 kp8 bx8 => ⟨_, _, _, _, rfl, rfl, (by fail "hp"), (by fail "ix"), _, _, rfl, rfl, (by fail "sz"), fun p7 np7 => ⟨_, _, _, _, rfl, rfl, (by fail "hp"), (by fail "hp"), (by fail "sz"), fun p6 np6 => ?_⟩⟩⟩⟩
      exact ⟨p6, _, _, _, _, rfl, by fail "kp", by fail "bx", by fail "fr", upd_same, by rw [List.length_append, ln]; rfl⟩
    · rintro σ Hi ⟨q, ms, v, w, u, rfl, kpi, bxi, nq, hq, ln⟩
      have ln7 : ms.length ≤ 21 := by omega
      -- return row + [[len(row) // 3, 2][k] for k in range(_law_draw(tape, 3))]
      refine ⟨_, rfl, _, rfl, _, _, _, rfl, (by fail "bx"), (by fail "om"), (by fail "om"), fun d11 H11 da11 db11 kp11 bx11 => ⟨_, rfl, (by fail "om"), (by fail "om"), fun D1 nD1 => lc_range (fun i H' => ∃ ms : List Int, Kp b H11 H' ∧ BoxOk H' b bc ∧ H' D1 = some (.lst (ms.map V.int)) ∧ ms.length = i) ⟨[], Kp.new Kp.refl nD1, BoxOk.new bx11 nD1, upd_same, rfl⟩ (fun i H' hi z => by
      obtain ⟨xs, kpj, bxj, hD, lx⟩ := z
      have hi2 : i < 2 := by omega
      refine ⟨rfl, ?_⟩
      unfold tYes
      refine iteT ?_
      refine ⟨_, rfl, _, _, rfl, (by fail "hp"), _, _, rfl, rfl, (by fail "dv"), (by fail "sz"), fun p20 np20 => ⟨_, rfl, _, _, _, _, rfl, rfl, lit2, at_lit (by omega) (by show (0 : Int) + (i : Int) < 2; omega), _, upd_new hD np20, Evl.sz_lt (by rw [List.length_map]; omega), xs ++ [_], Kp.mut (Kp.new kpj np20) nD1, BoxOk.mut (BoxOk.new bxj np20) bx11 nD1, by rw [upd_same, List.map_append]; rfl, by rw [List.length_append, lx]; rfl⟩⟩) (fun H' z => ?_)⟩⟩
      obtain ⟨xs, kpj, bxj, hD, lx⟩ := z
      refine ⟨_, _, _, _, rfl, rfl, (by fail "hp"), (by fail "hp"), (by fail "sz"), fun p10 np10 => ?_⟩
      exact k _ _ _ (by fail "ll") (by fail "kp") (by fail "bx") (by fail "fr") upd_same
abbrev sOther : Stmt := top 23
theorem scOther : FnScope ["tape", "way", "log", "row", "entry", "k", "piece", "behind", "place"] ["tape", "way", "log", "row"] (defScope sOther) := ⟨rfl, rfl, rfl, by decide +kernel, rfl, by decide +kernel, by decide +kernel⟩
def spOther : Sp := fun vs H Q _ => ∃ (b bc a c : Addr) (way : Int) (es ns : List Int), vs = [.ref b, .int way, .ref a, .ref c] ∧ BoxOk H b bc ∧ H a = some (.lst (es.map V.int)) ∧ H c = some (.lst (ns.map V.int)) ∧ es.length ≤ 300 ∧ ns.length = 3 * es.length ∧
  ∀ (p : Addr) (ms : List Int) (H' : Hp), ms.length ≤ 2900 → Kp b H H' → BoxOk H' b bc → H p = none → H' p = some (.lst (ms.map V.int)) → Q (.ref p) H'
theorem ok_Other (D : Df K mg "_law_other_row" sOther ["tape", "way", "log", "row"]) (T : Txt K mg) (GDraw : C8.Cal P w K mg base 2 "_law_draw" spDraw []) (GEntry : C8.Cal P w K mg base 3 "_law_entry" spEntry []) (GLog : C8.Cal P w K mg base 4 "_law_log" spLog []) (GFrame : C8.Cal P w K mg base 1 "_law_frame" spFrame []) (GLFrames : C8.Cal P w K mg base 2 "_law_frames" spLFrames []) (GWrong : C8.Cal P w K mg base 3 "_law_wrong_frames" spWrong []) : C8.Cal P w K mg base 5 "_law_other_row" spOther [] := by
  obtain ⟨f, fd, F, hm, hb⟩ := D
  refine ⟨f, fd, ["tape", "way", "log", "row"], [], F.ok scOther (fun vs H Q E h => ?_) (fun cdv A outer s H vs Q E hr h => ?_), hm, F.kp, hb, .nil⟩
  · obtain ⟨b, bc, a, c, way, es, ns, rfl, bx, ha, hc, hl, hn, k⟩ := h
    rfl
  · obtain ⟨b, bc, a, c, way, es, ns, rfl, bx, ha, hc, hl, hn, k⟩ := h
    refine ⟨_, (pss_cons (ps_if (pt_cmpR op_eq (pv 1) pe_int (nomark _))
        (pss_one (ps_ret (pe_op op_catI (pv 3) (C8.pe_c GLFrames hr (by decide) (by rfl) (pa_cons (C8.pe_c GLog hr (by decide) (by rfl) (pa_cons (pv 0) pa_nil)) pa_nil)))))
        pss_nil)
      (pss_cons (ps_if (pt_cmpR op_eq (pv 1) pe_int (nomark _))
        (pss_cons (ps_set (i := 4) scOther.nd rfl (Or.inl rfl) (C8.pe_c GEntry hr (by decide) (by rfl) (pa_cons (pv 0) pa_nil)))
        (pss_one (ps_ret (pe_op op_catI (pe_op op_catI (pv 3) (pe_lst (pa_cons (pe_callB call_len_seq (by rfl) T.len (by decide +kernel) (pa_cons (pv 2) pa_nil)) (pa_cons (pe_op op_sub (pe_un un_neg pe_int) (pv 4)) (pa_cons (pv 4) pa_nil))))) (C8.pe_c GFrame hr (by decide) (by rfl) (pa_cons (pe_op op_add (pe_callB call_len_seq (by rfl) T.len (by decide +kernel) (pa_cons (pv 2) pa_nil)) pe_int) (pa_cons (pv 4) pa_nil)))))))
        pss_nil)
      (pss_cons (ps_if (PW.pt (pw_or (pt_cmpR op_eq (pv 1) pe_int (nomark _)) (pw_or1 (pt_cmpR (op_eqD hr.units) (pv 2) (pe_lst pa_nil) (nomark _)))))
        (pss_one (ps_ret (C8.pe_c GWrong hr (by decide) (by rfl) (pa_cons (pv 0) pa_nil))))
        pss_nil)
      (pss_cons (ps_set (i := 5) scOther.nd rfl (Or.inl rfl) (C8.pe_c GDraw hr (by decide) (by rfl) (pa_cons (pv 0) (pa_cons (pe_callB call_len_seq (by rfl) T.len (by decide +kernel) (pa_cons (pv 2) pa_nil)) pa_nil))))
      (pss_cons (ps_set (i := 6) scOther.nd rfl (Or.inl rfl) (pe_slice sl_mid (pv 3) (po_some (pe_op op_mul pe_int (pv 5))) (po_some (pe_op op_add (pe_op op_mul pe_int (pv 5)) pe_int))))
      (pss_cons (ps_set (i := 7) scOther.nd rfl (Or.inl rfl) (pe_slice sl_from (pv 3) (po_some (pe_op op_add (pe_op op_mul pe_int (pv 5)) pe_int)) po_none))
      (pss_cons (ps_if (pt_cmpR op_eq (pv 1) pe_int (nomark _))
        (pss_one (ps_ret (pe_op op_catI (pe_op op_catI (pe_slice sl_to (pv 3) po_none (po_some (pe_op op_mul pe_int (pv 5)))) (C8.pe_c GFrame hr (by decide) (by rfl) (pa_cons (pv 5) (pa_cons (C8.pe_c GEntry hr (by decide) (by rfl) (pa_cons (pv 0) pa_nil)) pa_nil)))) (pv 7))))
        pss_nil)
      (pss_cons (ps_if (pt_cmpR op_eq (pv 1) pe_int (nomark _))
        (pss_one (ps_ret (pe_op op_catI (pe_op op_catI (pe_op op_catI (pe_slice sl_to (pv 3) po_none (po_some (pe_op op_mul pe_int (pv 5)))) (pe_slice sl_to (pv 7) po_none (po_some pe_int))) (pv 6)) (pe_slice sl_from (pv 7) (po_some pe_int) po_none))))
        pss_nil)
      (pss_cons (ps_if (pt_cmpR op_eq (pv 1) pe_int (nomark _))
        (pss_one (ps_ret (pe_op op_catI (pe_slice sl_to (pv 3) po_none (po_some (pe_op op_mul pe_int (pv 5)))) (pv 7))))
        pss_nil)
      (pss_cons (ps_if (pt_cmpR op_eq (pv 1) pe_int (nomark _))
        (pss_one (ps_ret (pe_op op_catI (pe_op op_catI (pe_op op_catI (pe_slice sl_to (pv 3) po_none (po_some (pe_op op_mul pe_int (pv 5)))) (pv 6)) (pv 6)) (pv 7))))
        pss_nil)
      (pss_cons (ps_set (i := 8) scOther.nd rfl (Or.inl rfl) (pe_op op_add (pe_op op_mul pe_int (pv 5)) (C8.pe_c GDraw hr (by decide) (by rfl) (pa_cons (pv 0) (pa_cons pe_int pa_nil)))))
      (pss_cons (ps_if (pt_cmpR op_eq (pv 1) pe_int (nomark _))
        (pss_one (ps_ret (pe_op op_catI (pe_op op_catI (pe_slice sl_to (pv 3) po_none (po_some (pv 8))) (pe_lst (pa_cons (pe_ix ix_list (pv 3) (C8.pe_c GDraw hr (by decide) (by rfl) (pa_cons (pv 0) (pa_cons (pe_callB call_len_seq (by rfl) T.len (by decide +kernel) (pa_cons (pv 3) pa_nil)) pa_nil))) (fun _ _ => rfl)) pa_nil))) (pe_slice sl_from (pv 3) (po_some (pv 8)) po_none))))
        pss_nil)
      (pss_one (ps_ret (pe_op op_catI (pe_slice sl_to (pv 3) po_none (po_some (pv 8))) (pe_slice sl_from (pv 3) (po_some (pe_op op_add (pv 8) pe_int)) po_none)))))))))))))))), ?_⟩
    -- if way == 0:
    refine ⟨_, rfl, rfl, _, rfl, ?_⟩
    refine ifEqI (fun g1 => ?_) (fun g1 => ?_)
    · -- return row + _law_frames(_law_log(tape))
      refine ⟨_, rfl, _, rfl, _, _, rfl, (by fail "bx"), fun p4 es4 H4 nn4 ln4 kp4 bx4 np4 hp4 => ⟨_, _, rfl, (by fail "hp"), (by fail "om"), fun p3 H3 sm3 np3 hp3 => ⟨_, _, _, _, rfl, rfl, (by fail "hp"), (by fail "hp"), (by fail "sz"), fun p2 np2 => ?_⟩⟩⟩
      exact k _ _ _ (by fail "ll") (by fail "kp") (by fail "bx") (by fail "fr") upd_same
    · -- if way == 1:
      refine ⟨_, rfl, rfl, _, rfl, ?_⟩
      refine ifEqI (fun g5 => ?_) (fun g5 => ?_)
      · -- entry = _law_entry(tape)
        refine ⟨_, rfl, _, _, rfl, (by fail "bx"), fun d6 H6 da6 kp6 bx6 => ?_⟩
        -- return row + [len(log), -1 - entry, entry] + _law_frame(len(log) + 1, entry)
        refine ⟨_, rfl, _, rfl, _, _, rfl, .inl (SqL.of (by fail "hp")), _, rfl, _, rfl, _, _, rfl, rfl, _, rfl, (by fail "sz"), fun p10 np10 => ⟨_, _, _, _, rfl, rfl, (by fail "hp"), (by fail "hp"), (by fail "sz"), fun p9 np9 => ⟨_, rfl, _, _, rfl, .inl (SqL.of (by fail "hp")), _, _, rfl, rfl, _, rfl, _, _, rfl, fun p8 H8 np8 sm8 hp8 => ⟨_, _, _, _, rfl, rfl, (by fail "hp"), (by fail "hp"), (by fail "sz"), fun p7 np7 => ?_⟩⟩⟩⟩
        exact k _ _ _ (by fail "ll") (by fail "kp") (by fail "bx") (by fail "fr") upd_same
      · -- if way == 8 or log == []:
        refine ⟨_, rfl, rfl, _, rfl, ?_⟩
        refine ifEqI (fun g11 => ?_) (fun g11 => ?_)
        · fail "ite"
          -- return _law_wrong_frames(tape)
          refine ⟨_, rfl, _, _, rfl, (by fail "bx"), fun p12 ms12 H12 ln12 kp12 bx12 np12 hp12 => ?_⟩
          exact k _ ms12 H12 (by omega) kp12 bx12 np12 hp12
        · refine ⟨_, rfl, (by fail "sz"), fun p13 np13 => ⟨_, _, (by fail "dp"), (by fail "dp"), (by fail "shp"), (by fail "shp"), _, rfl, ?_⟩⟩
          refine ifB (fun g14 => ?_) (fun g14 => ?_)
          · -- return _law_wrong_frames(tape)
            refine ⟨_, rfl, _, _, rfl, (by fail "bx"), fun p15 ms15 H15 ln15 kp15 bx15 np15 hp15 => ?_⟩
            exact k _ ms15 H15 (by omega) (by fail "kp") bx15 (upd_none np13 np15) hp15
          · have e1 : 1 ≤ es.length := eq_nil g14
            -- k = _law_draw(tape, len(log))
            refine ⟨_, rfl, _, rfl, _, _, rfl, .inl (SqL.of (by fail "hp")), _, _, _, rfl, (by fail "bx"), (by fail "om"), (by fail "om"), fun d16 H16 da16 db16 kp16 bx16 => ?_⟩
            -- piece = row[3 * k:3 * k + 3]
            refine ⟨_, rfl, _, rfl, _, _, rfl, rfl, (by fail "mul"), _, rfl, _, rfl, _, _, rfl, rfl, (by fail "mul"), _, _, rfl, rfl, _, rfl, _, _, _, _, rfl, rfl, rfl, (by fail "om"), (by fail "om"), SqL.of (by fail "hp"), fun p17 np17 => ?_⟩
            -- behind = row[3 * k + 3:]
            refine ⟨_, rfl, _, rfl, _, _, rfl, rfl, (by fail "mul"), _, _, rfl, rfl, _, rfl, _, _, _, rfl, rfl, rfl, (by fail "om"), SqL.of (by fail "hp"), fun p18 np18 => ?_⟩
            -- if way == 2:
            refine ⟨_, rfl, rfl, _, rfl, ?_⟩
            refine ifEqI (fun g19 => ?_) (fun g19 => ?_)
            · -- return row[:3 * k] + _law_frame(k, _law_entry(tape)) + behind
              refine ⟨_, rfl, _, rfl, _, _, rfl, rfl, (by fail "mul"), _, rfl, _, _, _, rfl, rfl, rfl, (by fail "om"), SqL.of (by fail "hp"), fun p24 np24 => ⟨_, rfl, _, rfl, _, _, rfl, (by fail "bx"), fun d23 H23 da23 kp23 bx23 => ⟨_, _, rfl, fun p22 H22 np22 sm22 hp22 => ⟨_, _, _, _, rfl, rfl, (by fail "hp"), (by fail "hp"), (by fail "sz"), fun p21 np21 => ⟨_, rfl, _, _, _, _, rfl, rfl, (by fail "hp"), (by fail "hp"), (by fail "sz"), fun p20 np20 => ?_⟩⟩⟩⟩⟩
              exact k _ _ _ (by fail "ll") (by fail "kp") (by fail "bx") (by fail "fr") upd_same
            · -- if way == 3:
              refine ⟨_, rfl, rfl, _, rfl, ?_⟩
              refine ifEqI (fun g25 => ?_) (fun g25 => ?_)
              · -- return row[:3 * k] + behind[:3] + piece + behind[3:]
                refine ⟨_, rfl, _, rfl, _, _, rfl, rfl, (by fail "mul"), _, rfl, _, _, _, rfl, rfl, rfl, (by fail "om"), SqL.of (by fail "hp"), fun p31 np31 => ⟨_, rfl, _, rfl, _, _, _, rfl, rfl, rfl, (by fail "om"), SqL.of (by fail "hp"), fun p30 np30 => ⟨_, _, _, _, rfl, rfl, (by fail "hp"), (by fail "hp"), (by fail "sz"), fun p29 np29 => ⟨_, rfl, _, _, _, _, rfl, rfl, (by fail "hp"), (by fail "hp"), (by fail "sz"), fun p28 np28 => ⟨_, rfl, _, rfl, _, _, _, rfl, rfl, rfl, (by fail "om"), SqL.of (by fail "hp"), fun p27 np27 => ⟨_, _, _, _, rfl, rfl, (by fail "hp"), (by fail "hp"), (by fail "sz"), fun p26 np26 => ?_⟩⟩⟩⟩⟩⟩
                exact k _ _ _ (by fail "ll") (by fail "kp") (by fail "bx") (by fail "fr") upd_same
              · -- if way == 4:
                refine ⟨_, rfl, rfl, _, rfl, ?_⟩
                refine ifEqI (fun g32 => ?_) (fun g32 => ?_)
                · -- return row[:3 * k] + behind
                  refine ⟨_, rfl, _, rfl, _, _, rfl, rfl, (by fail "mul"), _, rfl, _, _, _, rfl, rfl, rfl, (by fail "om"), SqL.of (by fail "hp"), fun p34 np34 => ⟨_, rfl, _, _, _, _, rfl, rfl, (by fail "hp"), (by fail "hp"), (by fail "sz"), fun p33 np33 => ?_⟩⟩
                  exact k _ _ _ (by fail "ll") (by fail "kp") (by fail "bx") (by fail "fr") upd_same
                · -- if way == 5:
                  refine ⟨_, rfl, rfl, _, rfl, ?_⟩
                  refine ifEqI (fun g35 => ?_) (fun g35 => ?_)
                  · -- return row[:3 * k] + piece + piece + behind
                    refine ⟨_, rfl, _, rfl, _, _, rfl, rfl, (by fail "mul"), _, rfl, _, _, _, rfl, rfl, rfl, (by fail "om"), SqL.of (by fail "hp"), fun p39 np39 => ⟨_, rfl, _, _, _, _, rfl, rfl, (by fail "hp"), (by fail "hp"), (by fail "sz"), fun p38 np38 => ⟨_, rfl, _, _, _, _, rfl, rfl, (by fail "hp"), (by fail "hp"), (by fail "sz"), fun p37 np37 => ⟨_, rfl, _, _, _, _, rfl, rfl, (by fail "hp"), (by fail "hp"), (by fail "sz"), fun p36 np36 => ?_⟩⟩⟩⟩
                    exact k _ _ _ (by fail "ll") (by fail "kp") (by fail "bx") (by fail "fr") upd_same
                  · -- place = 3 * k + _law_draw(tape, 3)
                    refine ⟨_, rfl, _, _, rfl, rfl, (by fail "mul"), _, rfl, _, _, _, rfl, (by fail "bx"), (by fail "om"), (by fail "om"), fun d40 H40 da40 db40 kp40 bx40 => ⟨_, _, rfl, rfl, ?_⟩⟩
                    -- if way == 6:
                    refine ⟨_, rfl, rfl, _, rfl, ?_⟩
                    refine ifEqI (fun g41 => ?_) (fun g41 => ?_)
                    · -- return row[:place] + [row[_law_draw(tape, len(row))]] + row[place:]
                      refine ⟨_, rfl, _, rfl, _, rfl, _, _, _, rfl, rfl, rfl, (by fail "om"), SqL.of (by fail "hp"), fun p47 np47 => ⟨_, rfl, _, rfl, _, rfl, _, _, rfl, .inl (SqL.of (by fail "hp")), _, _, _, rfl, (by fail "bx"), (by fail "om"), (by fail "om"), fun d46 H46 da46 db46 kp46 bx46 => ⟨_, _, _, _, rfl, rfl, SqL.of (by fail "hp"), (by fail "ix"), (by fail "sz"), fun p45 np45 => ⟨_, _, _, _, rfl, rfl, (by fail "hp"), (by fail "hp"), (by fail "sz"), fun p44 np44 => ⟨_, rfl, _, rfl, _, rfl, _, _, _, rfl, rfl, rfl, (by fail "om"), SqL.of (by fail "hp"), fun p43 np43 => ⟨_, _, _, _, rfl, rfl, (by fail "hp"), (by fail "hp"), (by fail "sz"), fun p42 np42 => ?_⟩⟩⟩⟩⟩⟩
                      exact k _ _ _ (by fail "ll") (by fail "kp") (by fail "bx") (by fail "fr") upd_same
                    · -- return row[:place] + row[place + 1:]
                      refine ⟨_, rfl, _, rfl, _, rfl, _, _, _, rfl, rfl, rfl, (by fail "om"), SqL.of (by fail "hp"), fun p50 np50 => ⟨_, rfl, _, rfl, _, _, rfl, rfl, _, rfl, _, _, _, rfl, rfl, rfl, (by fail "om"), SqL.of (by fail "hp"), fun p49 np49 => ⟨_, _, _, _, rfl, rfl, (by fail "hp"), (by fail "hp"), (by fail "sz"), fun p48 np48 => ?_⟩⟩⟩
                      exact k _ _ _ (by fail "ll") (by fail "kp") (by fail "bx") (by fail "fr") upd_same
end
end K32

end
section
set_option Elab.async false
set_option linter.all false
set_option maxRecDepth 100000
set_option maxHeartbeats 4000000
namespace K32
open PySem L2 Kit KR
local macro_rules | `(tactic| fail "om") => `(tactic| first | omega | (simp only [List.length_map, List.length_append, List.length_cons, List.length_nil]; omega) | (simp only [List.length_map, List.length_append, List.length_cons, List.length_nil] at *; omega) | assumption | decide | (simp only [List.length_append, List.length_map, List.length_cons, List.length_nil, List.length_take, List.length_drop, frs_len]; omega) | fail "no om")
local macro_rules | `(tactic| fail "nz") => `(tactic| first | decide | omega | fail "no nz")
local macro_rules | `(tactic| fail "dv") => `(tactic| exact ⟨by first | decide | omega, by first | decide | omega⟩)
local macro_rules | `(tactic| fail "mul") => `(tactic| first | exact .inr ⟨by decide, by decide⟩ | exact .inl ⟨by decide, by decide⟩ | exact mulF (by decide) (by decide) | exact .inl ⟨by omega, by omega⟩ | exact .inr ⟨by omega, by omega⟩ | fail "no mul")
local macro_rules | `(tactic| fail "sz") => `(tactic| first | assumption | exact Nat.zero_le _ | (show 1 ≤ sizeLine; decide) | (show 2 ≤ sizeLine; decide) | (show 3 ≤ sizeLine; decide) | (show 4 ≤ sizeLine; decide) | (show 5 ≤ sizeLine; decide) | exact Evl.sz_of (by omega) | (refine Evl.sz_of ?_; simp only [List.length_append, List.length_map, List.length_cons, List.length_nil]; omega) | (refine Evl.sz_of ?_; simp only [List.length_append, List.length_map, List.length_cons, List.length_nil, List.length_take, List.length_drop, frs_len]; omega) | (show 7 ≤ sizeLine; decide) | (show 9 ≤ sizeLine; decide) | fail "no sz")
local macro_rules | `(tactic| fail "szl") => `(tactic| first | exact Evl.sz_lt (by omega) | (refine Evl.sz_lt ?_; simp only [List.length_append, List.length_map, List.length_cons, List.length_nil]; omega) | fail "no szl")
local macro_rules | `(tactic| fail "ix") => `(tactic| first | assumption | exact ix0 | exact ix1 | exact ix2 | exact at_ref (by assumption) (by omega) | exact at_int (by assumption) (by omega) | exact at_drawn (by assumption) (by assumption) | exact at_lit (by first | assumption | omega) (by fail "om") | rfl | fail "no ix")
local macro_rules | `(tactic| fail "ixn") => `(tactic| first | rfl | assumption | fail "no ixn")
local macro_rules | `(tactic| fail "nb") => `(tactic| first | assumption | exact nb_tup | exact nb_nil | exact nb_ints | exact nb_refs | exact nb_ins | exact nb_dT | exact nb_frz | fail "no nb")
local macro_rules | `(tactic| fail "ne") => `(tactic| first | assumption | exact Ne.symm (by assumption) | exact ne_of_none (by assumption) (by assumption) | exact (ne_of_none (by assumption) (by assumption)).symm | exact ne_of (by assumption) (by assumption) (by intro q; cases q) | exact ne_of (by assumption) (by assumption) (by simp) | fail "no ne")
local macro_rules | `(tactic| fail "hp") => `(tactic| first | assumption | exact upd_same | exact lit0 | exact lit1 | exact lit3 | exact lit7 | exact lit9 | exact lit2 | (refine' Tk.get (by assumption) ?k1; (case k1 => fail "tk")) | (with_reducible refine' upd_new ?h1 ?n1; (case n1 => assumption); (case h1 => fail "hp")) | (refine' Same.get (by assumption) ?h1; (case h1 => fail "hp")) | (refine' Kp.get (by assumption) (by fail "bx") ?h1 ?d1; (case h1 => fail "hp"); (case d1 => fail "nb")) | (with_reducible refine' upd_oth ?h1 ?n1; (case n1 => fail "ne"); (case h1 => fail "hp")) | (with_reducible refine' upd_oth ?h1 ?n1; (case h1 => fail "hp"); (case n1 => fail "ne")) | fail "no hp")
local macro_rules | `(tactic| fail "bx") => `(tactic| first | assumption | (with_reducible refine' BoxOk.new ?h1 ?n1; (case n1 => assumption); (case h1 => fail "bx")) | (refine' BoxOk.same (by assumption) ?h1; (case h1 => fail "bx")) | (with_reducible refine' BoxOk.mut ?h1 ?h2 ?n1; (case n1 => assumption); (case h2 => assumption); (case h1 => fail "bx")) | fail "no bx")
local macro_rules | `(tactic| fail "kp") => `(tactic| first | assumption | exact Kp.refl | (with_reducible refine' Kp.at ?h1; (case h1 => fail "kp")) | (with_reducible refine' Kp.new ?h1 ?n1; (case n1 => assumption); (case h1 => fail "kp")) | (with_reducible refine' Kp.mut ?h1 ?n1; (case n1 => assumption); (case h1 => fail "kp")) | (refine' Kp.tr (by assumption) ?h1; (case h1 => fail "kp")) | (refine' Kp.tr (Kp.of (by assumption)) ?h1; (case h1 => fail "kp")) | fail "no kp")
local macro_rules | `(tactic| fail "ite") => `(tactic| first | refine iteT ?_ | refine iteF ?_)
local macro_rules | `(tactic| fail "tt") => `(tactic| first | rfl | exact decide_eq_true (by first | rfl | omega | assumption) | exact decide_eq_true (congrArg V.int (by first | rfl | omega)) | fail "no tt")
local macro_rules | `(tactic| fail "cv") => `(tactic| first | exact .ty _ | exact .own _)
local macro_rules | `(tactic| fail "tx") => `(tactic| first | exact .base (.int _) | exact .base (.bl _) | exact .base .non | exact .base (.lst (by fail "hp")) | exact .base (.tup (by fail "hp")) | fail "no tx")
local macro_rules | `(tactic| fail "dead") => `(tactic| (exfalso; first | omega | contradiction | simp_all))
local macro_rules | `(tactic| fail "dp") => `(tactic| first | exact .tup (SqT.of (by fail "hp")) (.cons (.int _) (.cons (.int _) .nil)) | exact .lst (SqL.of (by fail "hp")) (dpPrs (by fail "pr")) | exact .lst (SqL.of (by fail "hp")) (dpInts _) | exact .lst (SqL.of (by fail "hp")) .nil | fail "no dp")
local macro_rules | `(tactic| fail "shp") => `(tactic| first | assumption | exact prD_shaped _ | exact PySem.W.ke_shaped_ints _ | rfl | fail "no shp")
local macro_rules | `(tactic| fail "pr") => `(tactic| first | assumption | exact PrT.mono (by assumption) (by fail "tk") | fail "no pr")
local macro_rules | `(tactic| fail "tk") => `(tactic| first | assumption | exact Tk.refl | (with_reducible refine' Tk.new ?h1 ?n1; (case n1 => assumption); (case h1 => fail "tk")) | (refine' Tk.tr (Kp.tk (by assumption) (by fail "bx")) ?h1; (case h1 => fail "tk")) | (refine' Tk.tr (Same.tk (by assumption)) ?h1; (case h1 => fail "tk")) | (with_reducible refine' Tk.lst ?h1 ?n1; (case n1 => fail "hp"); (case h1 => fail "tk")) | fail "no tk")
local macro_rules | `(tactic| fail "kt") => `(tactic| first | exact upd_same | assumption | fail "hp")
local macro_rules | `(tactic| fail "mono") => `(tactic| first | exact fun _ _ _ _ h q => h _ _ q | exact fun _ _ _ _ h q => (let ⟨v, e, z⟩ := q; ⟨v, e, h _ _ z⟩) | exact fun _ _ _ _ h q => (let ⟨v, e, u, f, z⟩ := q; ⟨v, e, u, f, h _ _ z⟩) | fail "no mono")
local macro_rules | `(tactic| fail "sm") => `(tactic| first | assumption | exact Same.refl _ | (with_reducible refine' Same.new ?h1 ?n1; (case n1 => assumption); (case h1 => fail "sm")) | (refine' Same.tr (by assumption) ?h1; (case h1 => fail "sm")) | fail "no sm")
theorem dvw6 {i j : Int} (h1 : 1 ≤ j) (h2 : j ≤ 1000000000000000000000000000000) : CDivW i j := wide_div (b := 100) (by omega) (by
  have : (2 : Nat) ^ 100 = 1267650600228229401496703205376 := by decide
  rw [this]; omega) (by decide) (by decide)
local macro_rules | `(tactic| fail "dw") => `(tactic| first | exact dvw (by omega) (by omega) | fail "no dw")
local macro_rules | `(tactic| fail "rdd") => `(tactic| first | assumption | exact rdT (by assumption) (by assumption) | exact rdS (by assumption) (by assumption) (by fail "om") (by assumption) | rfl | fail "no rdd")
theorem fr6 {b bc p : Addr} {H H' : Hp} (n : H' p = none) (k : Kp b H H') (x : BoxOk H' b bc) : H p = none := Kp.free k x n
local macro_rules | `(tactic| fail "fr") => `(tactic| first | assumption | exact fr6 (by assumption) (by fail "kp") (by fail "bx") | fail "no fr")
local macro_rules | `(tactic| fail "ll") => `(tactic| first | omega | (simp only [List.length_append, List.length_map, List.length_cons, List.length_nil, List.length_take, List.length_drop, frs_len] at *; omega) | fail "no ll")

section
variable {P : Program} {w : World} {K : PySem.W.Frag} {mg : Str → Option Value} {base : Heap}

abbrev sLaw : Stmt := top 24
theorem scLaw : FnScope ["script", "tape", "way", "log", "row", "cut", "place", "other"] ["script"] (defScope sLaw) := ⟨rfl, rfl, rfl, by decide +kernel, rfl, by decide +kernel, by decide +kernel⟩
def spLaw (K : PySem.W.Frag) : Sp := fun vs H Q _ => ∃ (a : Addr) (ns : List Int), vs = [.ref a] ∧ SqL K H a (ns.map V.int) ∧ ns.length ≤ 63 ∧ ∀ H', Q (.bl true) H'
theorem fn_Law {f : Addr} {fd : FuncData} (F : L2.Fun K "law" "law" sLaw f fd) (T : Txt K mg) (GTape : C8.Cal P w K mg base 1 "_law_tape" (spTape K) []) (GDraw : C8.Cal P w K mg base 2 "_law_draw" spDraw []) (GLog : C8.Cal P w K mg base 4 "_law_log" spLog []) (GLFrames : C8.Cal P w K mg base 2 "_law_frames" spLFrames []) (GFramesHold : C8.Cal P w K mg base 3 "_law_frames_hold" spFramesHold []) (GHolds : C8.Cal P w K mg base 6 "_law_holds" spHolds []) (GChanged : C8.Cal P w K mg base 3 "_law_changed" spChanged []) (GOther : C8.Cal P w K mg base 5 "_law_other_row" spOther []) (GRead : C8.Cal P w K mg base 1 "_law_read" spRead []) : FnOk P w K mg base CX0 7 f fd ["script"] (spLaw K) := by
  refine F.ok scLaw (fun vs H Q E h => ?_) (fun cdv A outer s H vs Q E hr h => ?_)
  · obtain ⟨a, ns, rfl, hS, lns, kQ⟩ := h
    rfl
  · obtain ⟨a, ns, rfl, hS, lns, kQ⟩ := h
    refine ⟨_, (pss_cons (ps_set (i := 1) scLaw.nd rfl (Or.inl rfl) (C8.pe_c GTape hr (by decide) (by rfl) (pa_cons (pv 0) pa_nil)))
      (pss_cons (ps_set (i := 2) scLaw.nd rfl (Or.inl rfl) (C8.pe_c GDraw hr (by decide) (by rfl) (pa_cons (pv 1) (pa_cons pe_int pa_nil))))
      (pss_cons (ps_set (i := 3) scLaw.nd rfl (Or.inl rfl) (C8.pe_c GLog hr (by decide) (by rfl) (pa_cons (pv 1) pa_nil)))
      (pss_cons (ps_set (i := 4) scLaw.nd rfl (Or.inl rfl) (C8.pe_c GLFrames hr (by decide) (by rfl) (pa_cons (pv 3) pa_nil)))
      (pss_cons (ps_if (PW.pt (pw_or (pt_not (pt_val (C8.pe_c GFramesHold hr (by decide) (by rfl) (pa_cons (pv 3) (pa_cons (pv 4) pa_nil))))) (pw_or1 (pt_not (pt_val (C8.pe_c GHolds hr (by decide) (by rfl) (pa_cons (pv 4) (pa_cons (pv 3) pa_nil))))))))
        (pss_one (ps_ret pe_bl))
        pss_nil)
      (pss_cons (ps_set (i := 5) scLaw.nd rfl (Or.inl rfl) (C8.pe_c GDraw hr (by decide) (by rfl) (pa_cons (pv 1) (pa_cons (pe_op op_add (pe_callB call_len_seq (by rfl) T.len (by decide +kernel) (pa_cons (pv 4) pa_nil)) pe_int) pa_nil))))
      (pss_cons (ps_if (pt_not (pt_val (C8.pe_c GHolds hr (by decide) (by rfl) (pa_cons (pe_slice sl_to (pv 4) po_none (po_some (pv 5))) (pa_cons (pe_slice sl_to (pv 3) po_none (po_some (pe_op op_fdiv (pv 5) pe_int))) pa_nil)))))
        (pss_one (ps_ret pe_bl))
        pss_nil)
      (pss_cons (ps_if (pt_cmpR (op_neD hr.units) (pv 4) (pe_lst pa_nil) (nomark _))
        (pss_cons (ps_set (i := 6) scLaw.nd rfl (Or.inl rfl) (C8.pe_c GDraw hr (by decide) (by rfl) (pa_cons (pv 1) (pa_cons (pe_callB call_len_seq (by rfl) T.len (by decide +kernel) (pa_cons (pv 4) pa_nil)) pa_nil))))
        (pss_one (ps_if (pt_not (pt_val (C8.pe_c GHolds hr (by decide) (by rfl) (pa_cons (C8.pe_c GChanged hr (by decide) (by rfl) (pa_cons (pv 1) (pa_cons (pv 4) (pa_cons (pv 6) pa_nil)))) (pa_cons (pe_slice sl_to (pv 3) po_none (po_some (pe_op op_fdiv (pv 6) pe_int))) pa_nil)))))
          (pss_one (ps_ret pe_bl))
          pss_nil)))
        pss_nil)
      (pss_cons (ps_set (i := 7) scLaw.nd rfl (Or.inl rfl) (C8.pe_c GOther hr (by decide) (by rfl) (pa_cons (pv 1) (pa_cons (pv 2) (pa_cons (pv 3) (pa_cons (pv 4) pa_nil))))))
      (pss_one (ps_ret (C8.pe_c GHolds hr (by decide) (by rfl) (pa_cons (pv 7) (pa_cons (C8.pe_c GRead hr (by decide) (by rfl) (pa_cons (pv 7) pa_nil)) pa_nil)))))))))))))), ?_⟩
    -- tape = _law_tape(script)
    refine ⟨_, rfl, _, _, rfl, hS, lns, fun b1 bc1 H1 nb1 sm1 bx1 => ?_⟩
    -- way = _law_draw(tape, 9)
    refine ⟨_, rfl, _, _, _, rfl, (by fail "bx"), (by fail "om"), (by fail "om"), fun d2 H2 da2 db2 kp2 bx2 => ?_⟩
    -- log = _law_log(tape)
    refine ⟨_, rfl, _, _, rfl, (by fail "bx"), fun p3 es3 H3 nn3 ln3 kp3 bx3 np3 hp3 => ?_⟩
    -- row = _law_frames(log)
    refine ⟨_, rfl, _, _, rfl, (by fail "hp"), (by fail "om"), fun p4 H4 sm4 np4 hp4 => ?_⟩
    have r0 : rd 0 (frs 0 es3) = es3 := rd_frs nn3
    have lfr : (frs 0 es3).length = 3 * es3.length := frs_len 0 es3
    -- if not _law_frames_hold(log, row) or not _law_holds(row, log):
    refine ⟨_, rfl, _, rfl, _, _, _, rfl, (by fail "hp"), (by fail "hp"), (by fail "om"), fun H5 sm5 => ⟨_, rfl, ?_⟩⟩
    fail "ite"
    refine ⟨_, rfl, _, rfl, _, _, _, _, rfl, (by fail "hp"), (by fail "hp"), (by fail "om"), (by fail "rdd"), fun H6 sm6 => ⟨_, rfl, ?_⟩⟩
    fail "ite"
    -- cut = _law_draw(tape, len(row) + 1)
    refine ⟨_, rfl, _, rfl, _, _, rfl, .inl (SqL.of (by fail "hp")), _, _, rfl, rfl, _, _, _, rfl, (by fail "bx"), (by fail "om"), (by fail "om"), fun d7 H7 da7 db7 kp7 bx7 => ?_⟩
    -- if not _law_holds(row[:cut], log[:cut // 3]):
    refine ⟨_, rfl, _, rfl, _, rfl, _, _, _, rfl, rfl, rfl, (by fail "om"), SqL.of (by fail "hp"), fun p10 np10 => ⟨_, rfl, _, rfl, _, _, rfl, rfl, (by fail "dv"), _, rfl, _, _, _, rfl, rfl, rfl, (by fail "om"), SqL.of (by fail "hp"), fun p9 np9 => ⟨_, _, _, _, rfl, (by fail "hp"), (by fail "hp"), (by fail "om"), (by fail "rdd"), fun H8 sm8 => ⟨_, rfl, ?_⟩⟩⟩⟩
    fail "ite"
    -- if row != []:
    refine ⟨_, rfl, (by fail "sz"), fun p11 np11 => ⟨_, _, (by fail "dp"), (by fail "dp"), (by fail "shp"), (by fail "shp"), _, rfl, ?_⟩⟩
    refine nifB (fun g12 => ?_) (fun g12 => ?_)
    · have e1 : 1 ≤ (frs 0 es3).length := eq_nil g12
      -- place = _law_draw(tape, len(row))
      refine ⟨_, rfl, _, rfl, _, _, rfl, .inl (SqL.of (by fail "hp")), _, _, _, rfl, (by fail "bx"), (by fail "om"), (by fail "om"), fun d13 H13 da13 db13 kp13 bx13 => ?_⟩
      -- if not _law_holds(_law_changed(tape, row, place), log[:place // 3]):
      refine ⟨_, rfl, _, rfl, _, rfl, _, _, _, _, _, rfl, (by fail "bx"), (by fail "hp"), (by fail "om"), (by fail "om"), (by fail "om"), fun p16 v16 H16 ne16 kp16 bx16 np16 hp16 => ⟨_, rfl, _, rfl, _, _, rfl, rfl, (by fail "dv"), _, rfl, _, _, _, rfl, rfl, rfl, (by fail "om"), SqL.of (by fail "hp"), fun p15 np15 => ⟨_, _, _, _, rfl, (by fail "hp"), (by fail "hp"), (by fail "om"), (by fail "rdd"), fun H14 sm14 => ⟨_, rfl, ?_⟩⟩⟩⟩
      fail "ite"
      -- other = _law_other_row(tape, way, log, row)
      refine ⟨_, rfl, _, rfl, _, rfl, _, rfl, _, _, _, _, _, _, _, rfl, (by fail "bx"), (by fail "hp"), (by fail "hp"), (by fail "om"), (frs_len 0 _), fun p17 ms17 H17 ln17 kp17 bx17 np17 hp17 => ?_⟩
      -- return _law_holds(other, _law_read(other))
      refine ⟨_, rfl, _, rfl, _, _, rfl, (by fail "hp"), (by fail "om"), fun p19 H19 sm19 np19 hp19 => ⟨_, _, _, _, rfl, (by fail "hp"), (by fail "hp"), (by fail "om"), (by fail "rdd"), fun H18 sm18 => ?_⟩⟩
      exact kQ _
    · -- other = _law_other_row(tape, way, log, row)
      refine ⟨_, rfl, _, rfl, _, rfl, _, rfl, _, _, _, _, _, _, _, rfl, (by fail "bx"), (by fail "hp"), (by fail "hp"), (by fail "om"), (frs_len 0 _), fun p20 ms20 H20 ln20 kp20 bx20 np20 hp20 => ?_⟩
      -- return _law_holds(other, _law_read(other))
      refine ⟨_, rfl, _, rfl, _, _, rfl, (by fail "hp"), (by fail "om"), fun p22 H22 sm22 np22 hp22 => ⟨_, _, _, _, rfl, (by fail "hp"), (by fail "hp"), (by fail "om"), (by fail "rdd"), fun H21 sm21 => ?_⟩⟩
      exact kQ _
end
end K32

end
section
set_option Elab.async false
set_option linter.all false
set_option maxRecDepth 100000
set_option maxHeartbeats 4000000
namespace K32
open PySem L2 Kit KR
section
variable {K : PySem.W.Frag} {h : Heap} {mg : Str → Option Value} {f g p C : Addr} {oc kV dc pm cd ct mc : Value} {od an : Option Addr} {sl : Array (Option Value)} {rest : List Value}

theorem f_sFrameOf (X : K.In h) (G : h.Ns mainGlobals mg) (a : PySem.W.nsIn K mainGlobals "frame_of" = some (some (.ref f))) (l : K.lookup f = some ⟨oc, od, .func (PySem.W.fnOf "frame_of" "frame_of" (defArgs sFrameOf) (defBody sFrameOf) (defScope sFrameOf) .none kV dc pm an cd ct), sl⟩) (c : PySem.W.codeIn K cd "frame_of" = true) (k : PySem.W.keepIn K (.ref f) = true) : Df K mg "frame_of" sFrameOf ["index", "entry"] :=
  have F := fun_mk (st := sFrameOf) l c k
  ⟨f, _, F, PySem.W.mg_of X G a, F.binds (ps := ["index", "entry"]) fun _ _ _ _ _ _ us hl => match us, hl with | [_, _], _ => rfl⟩
theorem f_sBegins (X : K.In h) (G : h.Ns mainGlobals mg) (a : PySem.W.nsIn K mainGlobals "begins_frame" = some (some (.ref f))) (l : K.lookup f = some ⟨oc, od, .func (PySem.W.fnOf "begins_frame" "begins_frame" (defArgs sBegins) (defBody sBegins) (defScope sBegins) .none kV dc pm an cd ct), sl⟩) (c : PySem.W.codeIn K cd "begins_frame" = true) (k : PySem.W.keepIn K (.ref f) = true) : Df K mg "begins_frame" sBegins ["cells", "index"] :=
  have F := fun_mk (st := sBegins) l c k
  ⟨f, _, F, PySem.W.mg_of X G a, F.binds (ps := ["cells", "index"]) fun _ _ _ _ _ _ us hl => match us, hl with | [_, _], _ => rfl⟩
theorem f_sScan (X : K.In h) (G : h.Ns mainGlobals mg) (a : PySem.W.nsIn K mainGlobals "scan" = some (some (.ref f))) (l : K.lookup f = some ⟨oc, od, .func (PySem.W.fnOf "scan" "scan" (defArgs sScan) (defBody sScan) (defScope sScan) .none kV dc pm an cd ct), sl⟩) (c : PySem.W.codeIn K cd "scan" = true) (k : PySem.W.keepIn K (.ref f) = true) : Df K mg "scan" sScan ["cells"] :=
  have F := fun_mk (st := sScan) l c k
  ⟨f, _, F, PySem.W.mg_of X G a, F.binds (ps := ["cells"]) fun _ _ _ _ _ _ us hl => match us, hl with | [_], _ => rfl⟩
theorem f_sMend (X : K.In h) (G : h.Ns mainGlobals mg) (a : PySem.W.nsIn K mainGlobals "mend" = some (some (.ref f))) (l : K.lookup f = some ⟨oc, od, .func (PySem.W.fnOf "mend" "mend" (defArgs sMend) (defBody sMend) (defScope sMend) .none kV dc pm an cd ct), sl⟩) (c : PySem.W.codeIn K cd "mend" = true) (k : PySem.W.keepIn K (.ref f) = true) : Df K mg "mend" sMend ["cells"] :=
  have F := fun_mk (st := sMend) l c k
  ⟨f, _, F, PySem.W.mg_of X G a, F.binds (ps := ["cells"]) fun _ _ _ _ _ _ us hl => match us, hl with | [_], _ => rfl⟩
theorem f_sFrames (X : K.In h) (G : h.Ns mainGlobals mg) (a : PySem.W.nsIn K mainGlobals "frames" = some (some (.ref f))) (l : K.lookup f = some ⟨oc, od, .func (PySem.W.fnOf "frames" "frames" (defArgs sFrames) (defBody sFrames) (defScope sFrames) .none kV dc pm an cd ct), sl⟩) (c : PySem.W.codeIn K cd "frames" = true) (k : PySem.W.keepIn K (.ref f) = true) : Df K mg "frames" sFrames ["log"] :=
  have F := fun_mk (st := sFrames) l c k
  ⟨f, _, F, PySem.W.mg_of X G a, F.binds (ps := ["log"]) fun _ _ _ _ _ _ us hl => match us, hl with | [_], _ => rfl⟩
theorem f_sTape (X : K.In h) (G : h.Ns mainGlobals mg) (a : PySem.W.nsIn K mainGlobals "_law_tape" = some (some (.ref f))) (l : K.lookup f = some ⟨oc, od, .func (PySem.W.fnOf "_law_tape" "_law_tape" (defArgs sTape) (defBody sTape) (defScope sTape) .none kV dc pm an cd ct), sl⟩) (c : PySem.W.codeIn K cd "_law_tape" = true) (k : PySem.W.keepIn K (.ref f) = true) : Df K mg "_law_tape" sTape ["script"] :=
  have F := fun_mk (st := sTape) l c k
  ⟨f, _, F, PySem.W.mg_of X G a, F.binds (ps := ["script"]) fun _ _ _ _ _ _ us hl => match us, hl with | [_], _ => rfl⟩
theorem f_sMixed (X : K.In h) (G : h.Ns mainGlobals mg) (a : PySem.W.nsIn K mainGlobals "_law_mixed" = some (some (.ref f))) (l : K.lookup f = some ⟨oc, od, .func (PySem.W.fnOf "_law_mixed" "_law_mixed" (defArgs sMixed) (defBody sMixed) (defScope sMixed) .none kV dc pm an cd ct), sl⟩) (c : PySem.W.codeIn K cd "_law_mixed" = true) (k : PySem.W.keepIn K (.ref f) = true) : Df K mg "_law_mixed" sMixed ["seed", "turn", "many"] :=
  have F := fun_mk (st := sMixed) l c k
  ⟨f, _, F, PySem.W.mg_of X G a, F.binds (ps := ["seed", "turn", "many"]) fun _ _ _ _ _ _ us hl => match us, hl with | [_, _, _], _ => rfl⟩
theorem f_sDraw (X : K.In h) (G : h.Ns mainGlobals mg) (a : PySem.W.nsIn K mainGlobals "_law_draw" = some (some (.ref f))) (l : K.lookup f = some ⟨oc, od, .func (PySem.W.fnOf "_law_draw" "_law_draw" (defArgs sDraw) (defBody sDraw) (defScope sDraw) .none kV dc pm an cd ct), sl⟩) (c : PySem.W.codeIn K cd "_law_draw" = true) (k : PySem.W.keepIn K (.ref f) = true) : Df K mg "_law_draw" sDraw ["tape", "many"] :=
  have F := fun_mk (st := sDraw) l c k
  ⟨f, _, F, PySem.W.mg_of X G a, F.binds (ps := ["tape", "many"]) fun _ _ _ _ _ _ us hl => match us, hl with | [_, _], _ => rfl⟩
theorem f_sEntry (X : K.In h) (G : h.Ns mainGlobals mg) (a : PySem.W.nsIn K mainGlobals "_law_entry" = some (some (.ref f))) (l : K.lookup f = some ⟨oc, od, .func (PySem.W.fnOf "_law_entry" "_law_entry" (defArgs sEntry) (defBody sEntry) (defScope sEntry) .none kV dc pm an cd ct), sl⟩) (c : PySem.W.codeIn K cd "_law_entry" = true) (k : PySem.W.keepIn K (.ref f) = true) : Df K mg "_law_entry" sEntry ["tape"] :=
  have F := fun_mk (st := sEntry) l c k
  ⟨f, _, F, PySem.W.mg_of X G a, F.binds (ps := ["tape"]) fun _ _ _ _ _ _ us hl => match us, hl with | [_], _ => rfl⟩
theorem f_sFrame (X : K.In h) (G : h.Ns mainGlobals mg) (a : PySem.W.nsIn K mainGlobals "_law_frame" = some (some (.ref f))) (l : K.lookup f = some ⟨oc, od, .func (PySem.W.fnOf "_law_frame" "_law_frame" (defArgs sFrame) (defBody sFrame) (defScope sFrame) .none kV dc pm an cd ct), sl⟩) (c : PySem.W.codeIn K cd "_law_frame" = true) (k : PySem.W.keepIn K (.ref f) = true) : Df K mg "_law_frame" sFrame ["index", "entry"] :=
  have F := fun_mk (st := sFrame) l c k
  ⟨f, _, F, PySem.W.mg_of X G a, F.binds (ps := ["index", "entry"]) fun _ _ _ _ _ _ us hl => match us, hl with | [_, _], _ => rfl⟩
theorem f_sLFrames (X : K.In h) (G : h.Ns mainGlobals mg) (a : PySem.W.nsIn K mainGlobals "_law_frames" = some (some (.ref f))) (l : K.lookup f = some ⟨oc, od, .func (PySem.W.fnOf "_law_frames" "_law_frames" (defArgs sLFrames) (defBody sLFrames) (defScope sLFrames) .none kV dc pm an cd ct), sl⟩) (c : PySem.W.codeIn K cd "_law_frames" = true) (k : PySem.W.keepIn K (.ref f) = true) : Df K mg "_law_frames" sLFrames ["log"] :=
  have F := fun_mk (st := sLFrames) l c k
  ⟨f, _, F, PySem.W.mg_of X G a, F.binds (ps := ["log"]) fun _ _ _ _ _ _ us hl => match us, hl with | [_], _ => rfl⟩
theorem f_sLog (X : K.In h) (G : h.Ns mainGlobals mg) (a : PySem.W.nsIn K mainGlobals "_law_log" = some (some (.ref f))) (l : K.lookup f = some ⟨oc, od, .func (PySem.W.fnOf "_law_log" "_law_log" (defArgs sLog) (defBody sLog) (defScope sLog) .none kV dc pm an cd ct), sl⟩) (c : PySem.W.codeIn K cd "_law_log" = true) (k : PySem.W.keepIn K (.ref f) = true) : Df K mg "_law_log" sLog ["tape"] :=
  have F := fun_mk (st := sLog) l c k
  ⟨f, _, F, PySem.W.mg_of X G a, F.binds (ps := ["tape"]) fun _ _ _ _ _ _ us hl => match us, hl with | [_], _ => rfl⟩
theorem f_sRead (X : K.In h) (G : h.Ns mainGlobals mg) (a : PySem.W.nsIn K mainGlobals "_law_read" = some (some (.ref f))) (l : K.lookup f = some ⟨oc, od, .func (PySem.W.fnOf "_law_read" "_law_read" (defArgs sRead) (defBody sRead) (defScope sRead) .none kV dc pm an cd ct), sl⟩) (c : PySem.W.codeIn K cd "_law_read" = true) (k : PySem.W.keepIn K (.ref f) = true) : Df K mg "_law_read" sRead ["row"] :=
  have F := fun_mk (st := sRead) l c k
  ⟨f, _, F, PySem.W.mg_of X G a, F.binds (ps := ["row"]) fun _ _ _ _ _ _ us hl => match us, hl with | [_], _ => rfl⟩
theorem f_sIsRow (X : K.In h) (G : h.Ns mainGlobals mg) (a : PySem.W.nsIn K mainGlobals "_law_is_row" = some (some (.ref f))) (l : K.lookup f = some ⟨oc, od, .func (PySem.W.fnOf "_law_is_row" "_law_is_row" (defArgs sIsRow) (defBody sIsRow) (defScope sIsRow) .none kV dc pm an cd ct), sl⟩) (c : PySem.W.codeIn K cd "_law_is_row" = true) (k : PySem.W.keepIn K (.ref f) = true) : Df K mg "_law_is_row" sIsRow ["told", "due"] :=
  have F := fun_mk (st := sIsRow) l c k
  ⟨f, _, F, PySem.W.mg_of X G a, F.binds (ps := ["told", "due"]) fun _ _ _ _ _ _ us hl => match us, hl with | [_, _], _ => rfl⟩
theorem f_sFramesHold (X : K.In h) (G : h.Ns mainGlobals mg) (a : PySem.W.nsIn K mainGlobals "_law_frames_hold" = some (some (.ref f))) (l : K.lookup f = some ⟨oc, od, .func (PySem.W.fnOf "_law_frames_hold" "_law_frames_hold" (defArgs sFramesHold) (defBody sFramesHold) (defScope sFramesHold) .none kV dc pm an cd ct), sl⟩) (c : PySem.W.codeIn K cd "_law_frames_hold" = true) (k : PySem.W.keepIn K (.ref f) = true) : Df K mg "_law_frames_hold" sFramesHold ["log", "row"] :=
  have F := fun_mk (st := sFramesHold) l c k
  ⟨f, _, F, PySem.W.mg_of X G a, F.binds (ps := ["log", "row"]) fun _ _ _ _ _ _ us hl => match us, hl with | [_, _], _ => rfl⟩
theorem f_sScanHolds (X : K.In h) (G : h.Ns mainGlobals mg) (a : PySem.W.nsIn K mainGlobals "_law_scan_holds" = some (some (.ref f))) (l : K.lookup f = some ⟨oc, od, .func (PySem.W.fnOf "_law_scan_holds" "_law_scan_holds" (defArgs sScanHolds) (defBody sScanHolds) (defScope sScanHolds) .none kV dc pm an cd ct), sl⟩) (c : PySem.W.codeIn K cd "_law_scan_holds" = true) (k : PySem.W.keepIn K (.ref f) = true) : Df K mg "_law_scan_holds" sScanHolds ["row", "log"] :=
  have F := fun_mk (st := sScanHolds) l c k
  ⟨f, _, F, PySem.W.mg_of X G a, F.binds (ps := ["row", "log"]) fun _ _ _ _ _ _ us hl => match us, hl with | [_, _], _ => rfl⟩
theorem f_sMendHolds (X : K.In h) (G : h.Ns mainGlobals mg) (a : PySem.W.nsIn K mainGlobals "_law_mend_holds" = some (some (.ref f))) (l : K.lookup f = some ⟨oc, od, .func (PySem.W.fnOf "_law_mend_holds" "_law_mend_holds" (defArgs sMendHolds) (defBody sMendHolds) (defScope sMendHolds) .none kV dc pm an cd ct), sl⟩) (c : PySem.W.codeIn K cd "_law_mend_holds" = true) (k : PySem.W.keepIn K (.ref f) = true) : Df K mg "_law_mend_holds" sMendHolds ["row", "log"] :=
  have F := fun_mk (st := sMendHolds) l c k
  ⟨f, _, F, PySem.W.mg_of X G a, F.binds (ps := ["row", "log"]) fun _ _ _ _ _ _ us hl => match us, hl with | [_, _], _ => rfl⟩
theorem f_sHolds (X : K.In h) (G : h.Ns mainGlobals mg) (a : PySem.W.nsIn K mainGlobals "_law_holds" = some (some (.ref f))) (l : K.lookup f = some ⟨oc, od, .func (PySem.W.fnOf "_law_holds" "_law_holds" (defArgs sHolds) (defBody sHolds) (defScope sHolds) .none kV dc pm an cd ct), sl⟩) (c : PySem.W.codeIn K cd "_law_holds" = true) (k : PySem.W.keepIn K (.ref f) = true) : Df K mg "_law_holds" sHolds ["row", "log"] :=
  have F := fun_mk (st := sHolds) l c k
  ⟨f, _, F, PySem.W.mg_of X G a, F.binds (ps := ["row", "log"]) fun _ _ _ _ _ _ us hl => match us, hl with | [_, _], _ => rfl⟩
theorem f_sChanged (X : K.In h) (G : h.Ns mainGlobals mg) (a : PySem.W.nsIn K mainGlobals "_law_changed" = some (some (.ref f))) (l : K.lookup f = some ⟨oc, od, .func (PySem.W.fnOf "_law_changed" "_law_changed" (defArgs sChanged) (defBody sChanged) (defScope sChanged) .none kV dc pm an cd ct), sl⟩) (c : PySem.W.codeIn K cd "_law_changed" = true) (k : PySem.W.keepIn K (.ref f) = true) : Df K mg "_law_changed" sChanged ["tape", "row", "place"] :=
  have F := fun_mk (st := sChanged) l c k
  ⟨f, _, F, PySem.W.mg_of X G a, F.binds (ps := ["tape", "row", "place"]) fun _ _ _ _ _ _ us hl => match us, hl with | [_, _, _], _ => rfl⟩
theorem f_sWrong (X : K.In h) (G : h.Ns mainGlobals mg) (a : PySem.W.nsIn K mainGlobals "_law_wrong_frames" = some (some (.ref f))) (l : K.lookup f = some ⟨oc, od, .func (PySem.W.fnOf "_law_wrong_frames" "_law_wrong_frames" (defArgs sWrong) (defBody sWrong) (defScope sWrong) .none kV dc pm an cd ct), sl⟩) (c : PySem.W.codeIn K cd "_law_wrong_frames" = true) (k : PySem.W.keepIn K (.ref f) = true) : Df K mg "_law_wrong_frames" sWrong ["tape"] :=
  have F := fun_mk (st := sWrong) l c k
  ⟨f, _, F, PySem.W.mg_of X G a, F.binds (ps := ["tape"]) fun _ _ _ _ _ _ us hl => match us, hl with | [_], _ => rfl⟩
theorem f_sOther (X : K.In h) (G : h.Ns mainGlobals mg) (a : PySem.W.nsIn K mainGlobals "_law_other_row" = some (some (.ref f))) (l : K.lookup f = some ⟨oc, od, .func (PySem.W.fnOf "_law_other_row" "_law_other_row" (defArgs sOther) (defBody sOther) (defScope sOther) .none kV dc pm an cd ct), sl⟩) (c : PySem.W.codeIn K cd "_law_other_row" = true) (k : PySem.W.keepIn K (.ref f) = true) : Df K mg "_law_other_row" sOther ["tape", "way", "log", "row"] :=
  have F := fun_mk (st := sOther) l c k
  ⟨f, _, F, PySem.W.mg_of X G a, F.binds (ps := ["tape", "way", "log", "row"]) fun _ _ _ _ _ _ us hl => match us, hl with | [_, _, _, _], _ => rfl⟩
end
theorem all_ok {P : Program} {w : World} {K : PySem.W.Frag} {mg : Str → Option Value} {base : Heap} (T : Txt K mg)
    (dFrameOf : Df K mg "frame_of" sFrameOf ["index", "entry"])
    (dBegins : Df K mg "begins_frame" sBegins ["cells", "index"])
    (dScan : Df K mg "scan" sScan ["cells"])
    (dMend : Df K mg "mend" sMend ["cells"])
    (dFrames : Df K mg "frames" sFrames ["log"])
    (dTape : Df K mg "_law_tape" sTape ["script"])
    (dMixed : Df K mg "_law_mixed" sMixed ["seed", "turn", "many"])
    (dDraw : Df K mg "_law_draw" sDraw ["tape", "many"])
    (dEntry : Df K mg "_law_entry" sEntry ["tape"])
    (dFrame : Df K mg "_law_frame" sFrame ["index", "entry"])
    (dLFrames : Df K mg "_law_frames" sLFrames ["log"])
    (dLog : Df K mg "_law_log" sLog ["tape"])
    (dRead : Df K mg "_law_read" sRead ["row"])
    (dIsRow : Df K mg "_law_is_row" sIsRow ["told", "due"])
    (dFramesHold : Df K mg "_law_frames_hold" sFramesHold ["log", "row"])
    (dScanHolds : Df K mg "_law_scan_holds" sScanHolds ["row", "log"])
    (dMendHolds : Df K mg "_law_mend_holds" sMendHolds ["row", "log"])
    (dHolds : Df K mg "_law_holds" sHolds ["row", "log"])
    (dChanged : Df K mg "_law_changed" sChanged ["tape", "row", "place"])
    (dWrong : Df K mg "_law_wrong_frames" sWrong ["tape"])
    (dOther : Df K mg "_law_other_row" sOther ["tape", "way", "log", "row"])
    {f : Addr} {fd : FuncData} (F : L2.Fun K "law" "law" sLaw f fd) : FnOk P w K mg base CX0 7 f fd ["script"] (spLaw K) := by
  have GFrameOf : C8.Cal P w K mg base 1 "frame_of" spFrameOf [] := ok_FrameOf dFrameOf T
  have GBegins : C8.Cal P w K mg base 2 "begins_frame" spBegins [] := ok_Begins dBegins T GFrameOf
  have GScan : C8.Cal P w K mg base 3 "scan" spScan [] := ok_Scan dScan T GBegins
  have GMend : C8.Cal P w K mg base 4 "mend" spMend [] := ok_Mend dMend T GScan
  have GFrames : C8.Cal P w K mg base 2 "frames" spFrames [] := ok_Frames dFrames T GFrameOf
  have GTape : C8.Cal P w K mg base 1 "_law_tape" (spTape K) [] := ok_Tape dTape T
  have GMixed : C8.Cal P w K mg base 1 "_law_mixed" spMixed [] := ok_Mixed dMixed T
  have GDraw : C8.Cal P w K mg base 2 "_law_draw" spDraw [] := ok_Draw dDraw T GMixed
  have GEntry : C8.Cal P w K mg base 3 "_law_entry" spEntry [] := ok_Entry dEntry T GDraw
  have GFrame : C8.Cal P w K mg base 1 "_law_frame" spFrame [] := ok_Frame dFrame T
  have GLFrames : C8.Cal P w K mg base 2 "_law_frames" spLFrames [] := ok_LFrames dLFrames T GFrame
  have GLog : C8.Cal P w K mg base 4 "_law_log" spLog [] := ok_Log dLog T GDraw GEntry
  have GRead : C8.Cal P w K mg base 1 "_law_read" spRead [] := ok_Read dRead T
  have GIsRow : C8.Cal P w K mg base 1 "_law_is_row" spIsRow [] := ok_IsRow dIsRow T
  have GFramesHold : C8.Cal P w K mg base 3 "_law_frames_hold" spFramesHold [] := ok_FramesHold dFramesHold T GFrames GIsRow
  have GScanHolds : C8.Cal P w K mg base 4 "_law_scan_holds" spScanHolds [] := ok_ScanHolds dScanHolds T GScan GIsRow
  have GMendHolds : C8.Cal P w K mg base 5 "_law_mend_holds" spMendHolds [] := ok_MendHolds dMendHolds T GIsRow GMend GFrame GScanHolds
  have GHolds : C8.Cal P w K mg base 6 "_law_holds" spHolds [] := ok_Holds dHolds T GScanHolds GMendHolds
  have GChanged : C8.Cal P w K mg base 3 "_law_changed" spChanged [] := ok_Changed dChanged T GDraw
  have GWrong : C8.Cal P w K mg base 3 "_law_wrong_frames" spWrong [] := ok_Wrong dWrong T GDraw
  have GOther : C8.Cal P w K mg base 5 "_law_other_row" spOther [] := ok_Other dOther T GDraw GEntry GLog GFrame GLFrames GWrong
  exact fn_Law F T GTape GDraw GLog GLFrames GFramesHold GHolds GChanged GOther GRead
theorem all_mk {l : PySem.W.OpenLaw} {w : World} {K : PySem.W.Frag} {h : Heap} {mg : Str → Option Value} {fa f : Addr} {oc kV dc pm cd ct : Value} {tk : Tok} {od an : Option Addr} {sl : Array (Option Value)} (X : K.In h) (G : h.Ns mainGlobals mg)
    (fa_ : mg "law" = some (.ref fa))
    (z_len : PySem.W.nsIn K mainGlobals "len" = some none)
    (z_int : PySem.W.nsIn K mainGlobals "int" = some none)
    (z_bool : PySem.W.nsIn K mainGlobals "bool" = some none)
    (z_list : PySem.W.nsIn K mainGlobals "list" = some none)
    (z_tuple : PySem.W.nsIn K mainGlobals "tuple" = some none)
    (z_range : PySem.W.nsIn K mainGlobals "range" = some none)
    (z_isinstance : PySem.W.nsIn K mainGlobals "isinstance" = some none)
    (z_sum : PySem.W.nsIn K mainGlobals "sum" = some none)
    (z_enumerate : PySem.W.nsIn K mainGlobals "enumerate" = some none)
    (aF : PySem.W.nsIn K mainGlobals "FRAME" = some (some (.int 3 tk)))
    (dFrameOf : Df K mg "frame_of" sFrameOf ["index", "entry"])
    (dBegins : Df K mg "begins_frame" sBegins ["cells", "index"])
    (dScan : Df K mg "scan" sScan ["cells"])
    (dMend : Df K mg "mend" sMend ["cells"])
    (dFrames : Df K mg "frames" sFrames ["log"])
    (dTape : Df K mg "_law_tape" sTape ["script"])
    (dMixed : Df K mg "_law_mixed" sMixed ["seed", "turn", "many"])
    (dDraw : Df K mg "_law_draw" sDraw ["tape", "many"])
    (dEntry : Df K mg "_law_entry" sEntry ["tape"])
    (dFrame : Df K mg "_law_frame" sFrame ["index", "entry"])
    (dLFrames : Df K mg "_law_frames" sLFrames ["log"])
    (dLog : Df K mg "_law_log" sLog ["tape"])
    (dRead : Df K mg "_law_read" sRead ["row"])
    (dIsRow : Df K mg "_law_is_row" sIsRow ["told", "due"])
    (dFramesHold : Df K mg "_law_frames_hold" sFramesHold ["log", "row"])
    (dScanHolds : Df K mg "_law_scan_holds" sScanHolds ["row", "log"])
    (dMendHolds : Df K mg "_law_mend_holds" sMendHolds ["row", "log"])
    (dHolds : Df K mg "_law_holds" sHolds ["row", "log"])
    (dChanged : Df K mg "_law_changed" sChanged ["tape", "row", "place"])
    (dWrong : Df K mg "_law_wrong_frames" sWrong ["tape"])
    (dOther : Df K mg "_law_other_row" sOther ["tape", "way", "log", "row"])
    (f_a : PySem.W.nsIn K mainGlobals "law" = some (some (.ref f)))
    (f_l : K.lookup f = some ⟨oc, od, .func (PySem.W.fnOf "law" "law" (defArgs sLaw) (defBody sLaw) (defScope sLaw) .none kV dc pm an cd ct), sl⟩)
    (f_c : PySem.W.codeIn K cd "law" = true)
    (f_k : PySem.W.keepIn K (.ref f) = true) :
    ∃ fd : FuncData, (∀ (s : Shared) (v : Value), BindsTo s fd ⟨[v], []⟩ [("script", v)]) ∧ ∀ base : Heap, K.In base → base.Ns mainGlobals mg → FnOk l.prog w K mg base CX0 7 fa fd ["script"] (spLaw K) := by
  have e := fa_.symm.trans (PySem.W.mg_of X G f_a)
  cases e
  have T : Txt K mg := { len := PySem.W.mg_none_of X G z_len, int := PySem.W.mg_none_of X G z_int, bool := PySem.W.mg_none_of X G z_bool, list := PySem.W.mg_none_of X G z_list, tuple := PySem.W.mg_none_of X G z_tuple, range := PySem.W.mg_none_of X G z_range, isinstance := PySem.W.mg_none_of X G z_isinstance, sum := PySem.W.mg_none_of X G z_sum, enumerate := PySem.W.mg_none_of X G z_enumerate, frame := ⟨tk, PySem.W.mg_of X G aF⟩ }
  exact ⟨PySem.W.fnOf "law" "law" (defArgs sLaw) (defBody sLaw) (defScope sLaw) .none kV dc pm an cd ct, fun s v => .of_eq rfl, fun base _ _ => all_ok T dFrameOf dBegins dScan dMend dFrames dTape dMixed dDraw dEntry dFrame dLFrames dLog dRead dIsRow dFramesHold dScanHolds dMendHolds dHolds dChanged dWrong dOther (fun_mk (st := sLaw) f_l f_c f_k)⟩
theorem walk {l : PySem.W.OpenLaw} {q : Program} {loose : List Str} {XP : (Str → Option Value) → Heap → Prop} {YP : World → Heap → Prop} {d : DefRec} {K : Params → PySem.W.Frag} (hn : l.most = some 63) (hdf : d.params.defaults = [])
    (hY : ∀ (w : World) (h : Heap), YP w h → (K w.params).In h)
    (F : ∀ (w : World) (mg : Str → Option Value) (fa : Addr) (h : Heap), (K w.params).In h → h.Ns mainGlobals mg → mg d.name = some (.ref fa) →
      ∃ fd : FuncData, (∀ (s : Shared) (u : Value), BindsTo s fd ⟨[u], []⟩ [("script", u)]) ∧ ∀ base : Heap, (K w.params).In base → base.Ns mainGlobals mg → FnOk l.prog w (K w.params) mg base CX0 7 fa fd ["script"] (spLaw (K w.params))) :
    PySem.W.WalkO q loose XP YP l.row.toRowW d [] (fun f vs => PySem.call f vs) :=
  L2.walk_of (n := 63) (k := 7) (x := "script") (CX := fun _ => CX0) (sp := fun w => spLaw (K w.params)) hn (by decide) hdf ⟨rfl, by decide, by decide⟩ hY F (fun _ _ a ns hl _ hS => ⟨a, ns, rfl, hS, hl, fun _ => rfl⟩) fun _ _ _ _ _ z => z
end K32

end
set_option Elab.async false
open PySem PySem.W PyProof.Rows in
set_option maxRecDepth 100000 in
set_option maxHeartbeats 0 in
theorem PySem.Challenge.cw_pullstore_k32_disks_cut_anywhere_holds : PySem.Challenge.rw_pullstore_k32_disks_cut_anywhere.Holds := by
  w_on; o_law; k_head; (case hw => w_witness2)
  k_fill
  refine K32.walk (l := PySem.Challenge.rw_pullstore_k32_disks_cut_anywhere) rfl rfl (fun w h Y => PySem.W.kIn_of Y) ?F
  case F =>
    intro w mg fa h KX G hmg
    refine' K32.all_mk KX G hmg ?z_len ?z_int ?z_bool ?z_list ?z_tuple ?z_range ?z_isinstance ?z_sum ?z_enumerate ?aF ?dFrameOf ?dBegins ?dScan ?dMend ?dFrames ?dTape ?dMixed ?dDraw ?dEntry ?dFrame ?dLFrames ?dLog ?dRead ?dIsRow ?dFramesHold ?dScanHolds ?dMendHolds ?dHolds ?dChanged ?dWrong ?dOther ?f_a ?f_l ?f_c ?f_k
    (case z_len => k_is)
    (case z_int => k_is)
    (case z_bool => k_is)
    (case z_list => k_is)
    (case z_tuple => k_is)
    (case z_range => k_is)
    (case z_isinstance => k_is)
    (case z_sum => k_is)
    (case z_enumerate => k_is)
    (case aF => k_is)
    (case dFrameOf => refine' K32.f_sFrameOf KX G ?ya ?yl ?yc ?yk; (case ya => k_is); (case yl => k_is); (case yc => k_is); (case yk => k_is))
    (case dBegins => refine' K32.f_sBegins KX G ?ya ?yl ?yc ?yk; (case ya => k_is); (case yl => k_is); (case yc => k_is); (case yk => k_is))
    (case dScan => refine' K32.f_sScan KX G ?ya ?yl ?yc ?yk; (case ya => k_is); (case yl => k_is); (case yc => k_is); (case yk => k_is))
    (case dMend => refine' K32.f_sMend KX G ?ya ?yl ?yc ?yk; (case ya => k_is); (case yl => k_is); (case yc => k_is); (case yk => k_is))
    (case dFrames => refine' K32.f_sFrames KX G ?ya ?yl ?yc ?yk; (case ya => k_is); (case yl => k_is); (case yc => k_is); (case yk => k_is))
    (case dTape => refine' K32.f_sTape KX G ?ya ?yl ?yc ?yk; (case ya => k_is); (case yl => k_is); (case yc => k_is); (case yk => k_is))
    (case dMixed => refine' K32.f_sMixed KX G ?ya ?yl ?yc ?yk; (case ya => k_is); (case yl => k_is); (case yc => k_is); (case yk => k_is))
    (case dDraw => refine' K32.f_sDraw KX G ?ya ?yl ?yc ?yk; (case ya => k_is); (case yl => k_is); (case yc => k_is); (case yk => k_is))
    (case dEntry => refine' K32.f_sEntry KX G ?ya ?yl ?yc ?yk; (case ya => k_is); (case yl => k_is); (case yc => k_is); (case yk => k_is))
    (case dFrame => refine' K32.f_sFrame KX G ?ya ?yl ?yc ?yk; (case ya => k_is); (case yl => k_is); (case yc => k_is); (case yk => k_is))
    (case dLFrames => refine' K32.f_sLFrames KX G ?ya ?yl ?yc ?yk; (case ya => k_is); (case yl => k_is); (case yc => k_is); (case yk => k_is))
    (case dLog => refine' K32.f_sLog KX G ?ya ?yl ?yc ?yk; (case ya => k_is); (case yl => k_is); (case yc => k_is); (case yk => k_is))
    (case dRead => refine' K32.f_sRead KX G ?ya ?yl ?yc ?yk; (case ya => k_is); (case yl => k_is); (case yc => k_is); (case yk => k_is))
    (case dIsRow => refine' K32.f_sIsRow KX G ?ya ?yl ?yc ?yk; (case ya => k_is); (case yl => k_is); (case yc => k_is); (case yk => k_is))
    (case dFramesHold => refine' K32.f_sFramesHold KX G ?ya ?yl ?yc ?yk; (case ya => k_is); (case yl => k_is); (case yc => k_is); (case yk => k_is))
    (case dScanHolds => refine' K32.f_sScanHolds KX G ?ya ?yl ?yc ?yk; (case ya => k_is); (case yl => k_is); (case yc => k_is); (case yk => k_is))
    (case dMendHolds => refine' K32.f_sMendHolds KX G ?ya ?yl ?yc ?yk; (case ya => k_is); (case yl => k_is); (case yc => k_is); (case yk => k_is))
    (case dHolds => refine' K32.f_sHolds KX G ?ya ?yl ?yc ?yk; (case ya => k_is); (case yl => k_is); (case yc => k_is); (case yk => k_is))
    (case dChanged => refine' K32.f_sChanged KX G ?ya ?yl ?yc ?yk; (case ya => k_is); (case yl => k_is); (case yc => k_is); (case yk => k_is))
    (case dWrong => refine' K32.f_sWrong KX G ?ya ?yl ?yc ?yk; (case ya => k_is); (case yl => k_is); (case yc => k_is); (case yk => k_is))
    (case dOther => refine' K32.f_sOther KX G ?ya ?yl ?yc ?yk; (case ya => k_is); (case yl => k_is); (case yc => k_is); (case yk => k_is))
    (case f_a => k_is)
    (case f_l => k_is)
    (case f_c => k_is)
    (case f_k => k_is)

