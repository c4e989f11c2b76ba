import PyProof.Rows.All
import Wide.All
import OpenK.AllK
import Wide.FinOn
import HandS.ForMost
import HandS.WordsExc
import HandS.Sort
import HandS.SortRule
import HandS.ExcInit
import HandS.ExcIs
import HandS.ExcField
import HandS.IsInst
import HandS.Conv
import HandS.Codes
import HandS.ClsMeth
import HandS.Property
import HandS.TupSets
import HandS.DictComp
import HandS.Evl
import KE.KEqSeq
import KE.KExcIs
import HandS.HotCalls
import HandS.Wide
import HandS.Walk
import HandS.Iter
import HandS.AnyAll
import HandS.EndTab
import PySem.Challenge.RW_pullstore_k01_kinds_of_nets
section
set_option Elab.async false
set_option linter.all false
set_option maxRecDepth 100000
set_option maxHeartbeats 4000000
namespace KR
open PySem PySem.Spec PyProof.Rows L2
/-- x not in range(..) -/
theorem opNotInRng {X : Cx} : OpR X (compareOp .NotIn) (fun x y H Q => ∃ i a lo hi, x = V.int i ∧ y = V.ref a ∧ H a = some (.rng lo hi) ∧ Q (.bl (!decide (lo ≤ i ∧ i < hi))) H) := by
  intro pins s σ H x y v u Q I rx ry h
  obtain ⟨i, a, lo, hi, rfl, rfl, ha, q⟩ := h
  obtain ⟨k, rfl⟩ := rx
  obtain rfl : u = Value.ref a := ry
  obtain ⟨t1, t2, t3, ho⟩ := I.hok a _ ha
  show wpAny _ _ (do return Value.bool (!(← contains (Value.ref a) (Value.int i k)))) _ _ s
  refine wpAny_bind (wpAny_contains_slot (T := "range") ⟨_, ho, rfl⟩ F.slot_range_contains ?_)
  refine call_meets F.slot_range_contains ⟨_, ho, rfl⟩ F.entry_range_contains (F.args_range_contains_2 _ _) (q_contains a lo hi i t1 t2 t3 k) ⟨ho, ?_⟩
  refine wpAny_truthy_bool (wpAny_pure ⟨.bl _, H, I, rfl, ?_⟩)
  rw [place1]
  exact q
/-- range(n) as a value -/
theorem crRange1 {X : Cx} : CallR X (.type "range") (fun vs H Q => ∃ j, vs = [V.int j] ∧ ∀ p, H p = none → Q (.ref p) (upd H p (.rng 0 j))) := by
  intro pins s σ H vs us Q I r h
  obtain ⟨j, rfl, q⟩ := h
  obtain ⟨u1, rfl, rj⟩ := vals1 r
  obtain ⟨u, rfl⟩ := rj
  have fr := I.hok.fresh (Nat.le_refl s.heap.objs.size)
  refine call_range_1 ⟨V.ref s.heap.objs.size, upd H s.heap.objs.size (.rng 0 j), I.laid (t' := s.toks + 1 + 1) (fun b o e => Heap.get?_push_of_some _ e) (Nat.le_refl _) ?_, rfl, q _ fr⟩
  exact ⟨_, u, _, Heap.get?_push_size _ rfl⟩
end KR
namespace Kit
open PySem L2
theorem ifD {p A B : Prop} [Decidable p] (h1 : p → A) (h2 : ¬ p → B) : if decide p = true then A else B := by
  by_cases h : p
  · rw [decide_eq_true h]; exact h1 h
  · rw [decide_eq_false h, if_neg Bool.false_ne_true]; exact h2 h
theorem ifN {p A B : Prop} [Decidable p] (h1 : p → B) (h2 : ¬ p → A) : if (!decide p) = true then A else B := by
  by_cases h : p
  · rw [decide_eq_true h]; exact h1 h
  · rw [decide_eq_false h]; exact h2 h
theorem ifEqI {i j : Int} {A B : Prop} (h1 : i = j → A) (h2 : i ≠ j → B) : if decide (V.int i = V.int j) = true then A else B :=
  ifD (fun h => h1 (V.int.inj h)) fun h => h2 fun e => h (congrArg V.int e)
theorem ifNeI {i j : Int} {A B : Prop} (h1 : i ≠ j → A) (h2 : i = j → B) : if (!decide (V.int i = V.int j)) = true then A else B :=
  ifN (fun h => h2 (V.int.inj h)) fun h => h1 fun e => h (congrArg V.int e)
theorem ifB {c : Bool} {A B : Prop} (h1 : c = true → A) (h2 : c = false → B) : if c = true then A else B := by
  cases c
  · exact iteF (h2 rfl)
  · exact iteT (h1 rfl)
theorem iteK {c : Bool} {A B : Prop} (h : c = true) (a : A) : if c = true then A else B := by
  rw [if_pos h]
  exact a
theorem iteKF {c : Bool} {A B : Prop} (h : c = false) (b : B) : if c = true then A else B := by
  rw [h]
  exact iteF b
theorem nifD {p A B : Prop} [Decidable p] (h1 : ¬ p → A) (h2 : p → B) : if (!decide p) = true then A else B := ifN h2 h1
theorem nifN {p A B : Prop} [Decidable p] (h1 : p → A) (h2 : ¬ p → B) : if (!(!decide p)) = true then A else B := by
  rw [Bool.not_not]
  exact ifD h1 h2
theorem nifEqI {i j : Int} {A B : Prop} (h1 : i ≠ j → A) (h2 : i = j → B) : if (!decide (V.int i = V.int j)) = true then A else B := ifNeI h1 h2
theorem nifNeI {i j : Int} {A B : Prop} (h1 : i = j → A) (h2 : i ≠ j → B) : if (!(!decide (V.int i = V.int j))) = true then A else B := by
  rw [Bool.not_not]
  exact ifEqI h1 h2
theorem nifB {c : Bool} {A B : Prop} (h1 : c = false → A) (h2 : c = true → B) : if (!c) = true then A else B := by
  cases c
  · exact iteT (h1 rfl)
  · exact iteF (h2 rfl)
theorem fm0 (i : Int) {n : Int} (h : 0 < n) : 0 ≤ i.fmod n := by
  rw [Int.fmod_eq_emod_of_nonneg _ (Int.le_of_lt h)]
  exact Int.emod_nonneg _ (Int.ne_of_gt h)
theorem fm1 (i : Int) {n : Int} (h : 0 < n) : i.fmod n < n := Int.fmod_lt_of_pos i h
theorem mulF {i j n : Int} (h : 0 < n) (h2 : n ≤ 2 ^ 64) : CMul (i.fmod n) j := .inl ⟨Int.lt_of_lt_of_le (by decide) (fm0 i h), Int.lt_of_lt_of_le (fm1 i h) h2⟩
/-- all but what stands at b is kept -/
def Kp (b : Addr) (H H' : Hp) : Prop := ∀ a o, a ≠ b → H a = some o → H' a = some o
theorem Kp.refl {b : Addr} {H : Hp} : Kp b H H := fun _ _ _ h => h
theorem Kp.trans {b : Addr} {H H1 H2 : Hp} (x : Kp b H H1) (y : Kp b H1 H2) : Kp b H H2 := fun a o n h => y a o n (x a o n h)
theorem Kp.tr {b : Addr} {H H1 H2 : Hp} (y : Kp b H1 H2) (x : Kp b H H1) : Kp b H H2 := x.trans y
theorem Kp.of {b : Addr} {H H1 : Hp} (x : Same H H1) : Kp b H H1 := fun a o _ h => x a o h
theorem Kp.new {b p : Addr} {H H1 : Hp} {o : HO} (x : Kp b H H1) (n : H1 p = none) : Kp b H (upd H1 p o) := fun a u m h => by
  have e := x a u m h
  rw [upd_ne (ne_of_none e n)]
  exact e
theorem Kp.at {b : Addr} {H H1 : Hp} {o : HO} (x : Kp b H H1) : Kp b H (upd H1 b o) := fun a u m h => by
  rw [upd_ne m]
  exact x a u m h
theorem Kp.mut {b p : Addr} {H H1 : Hp} {o : HO} (x : Kp b H H1) (n : H p = none) : Kp b H (upd H1 p o) := fun a u m h => by
  rw [upd_ne (ne_of_none h n)]
  exact x a u m h
theorem Kp.fr0 {b p : Addr} {H H1 : Hp} {u : HO} (x : Kp b H H1) (n : H1 p = none) (hb : H1 b = some u) : H p = none := by
  cases e : H p with
  | none => rfl
  | some o =>
    have nb : p ≠ b := fun z => by
      rw [z, hb] at n
      cases n
    rw [x p o nb e] at n
    cases n
theorem Same.tr {H H1 H2 : Hp} (y : Same H1 H2) (x : Same H H1) : Same H H2 := x.trans y
theorem Same.get {H H1 : Hp} {a : Addr} {o : HO} (x : Same H H1) (h : H a = some o) : H1 a = some o := x a o h
theorem Same.new {p : Addr} {H H1 : Hp} {o : HO} (x : Same H H1) (n : H1 p = none) : Same H (upd H1 p o) := fun a u h => by
  have e := x a u h
  rw [upd_ne (ne_of_none e n)]
  exact e
theorem Same.mut {p : Addr} {H H1 : Hp} {o : HO} (x : Same H H1) (n : H p = none) : Same H (upd H1 p o) := fun a u h => by
  rw [upd_ne (ne_of_none h n)]
  exact x a u h
def boxL (c : Addr) (x1 x2 x3 x4 : Int) : List V := [.ref c, .int x1, .int x2, .int x3, .int x4]
/-- the box at b, its cells at c -/
structure BoxOk (H : Hp) (b c : Addr) : Prop where
  ex : ∃ ns x1 x2 x3 x4, H b = some (.lst (boxL c x1 x2 x3 x4)) ∧ H c = some (.lst (List.map V.int ns)) ∧ 0 ≤ x1
/-- what cannot be the box -/
def NB (o : HO) : Prop := ∀ c x1 x2 x3 x4, o ≠ .lst (boxL c x1 x2 x3 x4)
theorem nb_tup {xs : List V} : NB (.tup xs) := fun _ _ _ _ _ q => by cases q
theorem nb_nil : NB (.lst []) := fun _ _ _ _ _ q => by cases q
theorem nb_ints {ns : List Int} : NB (.lst (ns.map V.int)) := fun _ _ _ _ _ q => by
  cases ns with
  | nil => cases q
  | cons n r => cases q
theorem nb_refs {as : List Addr} : NB (.lst (as.map V.ref)) := fun _ _ _ _ _ q => by
  match as with
  | [] => cases q
  | [_] => cases q
  | _ :: _ :: _ => cases q
theorem box_c {H : Hp} {b c d : Addr} {ns : List Int} {x1 x2 x3 x4 : Int} (hb : H b = some (.lst (boxL d x1 x2 x3 x4))) (hc : H c = some (.lst (ns.map V.int))) : c ≠ b := fun z => by
  rw [z, hb] at hc
  exact nb_ints d x1 x2 x3 x4 (Option.some.inj hc).symm
theorem nb_ins {C dx : Addr} {fs : List (Str × V)} : NB (.ins C dx fs) := fun _ _ _ _ _ q => by cases q
theorem nb_dT {kvs : List (List Key × V)} : NB (.dT kvs) := fun _ _ _ _ _ q => by cases q
theorem nb_frz {o : Obj} {u : HO} : NB (.frz o u) := fun _ _ _ _ _ q => by cases q
theorem BoxOk.ne {H : Hp} {a b c : Addr} {o : HO} (x : BoxOk H b c) (h : H a = some o) (d : NB o) : a ≠ b := fun z => by
  obtain ⟨ns, x1, x2, x3, x4, hb, _⟩ := x
  rw [z, hb] at h
  exact d c x1 x2 x3 x4 (Option.some.inj h).symm
theorem BoxOk.new {H : Hp} {b c p : Addr} {o : HO} (x : BoxOk H b c) (n : H p = none) : BoxOk (upd H p o) b c := by
  obtain ⟨ns, x1, x2, x3, x4, hb, hc, r⟩ := x
  exact ⟨ns, x1, x2, x3, x4, by rw [upd_ne (ne_of_none hb n)]; exact hb, by rw [upd_ne (ne_of_none hc n)]; exact hc, r⟩
theorem BoxOk.same {H H' : Hp} {b c : Addr} (s : Same H H') (x : BoxOk H b c) : BoxOk H' b c := by
  obtain ⟨ns, x1, x2, x3, x4, hb, hc, r⟩ := x
  exact ⟨ns, x1, x2, x3, x4, s _ _ hb, s _ _ hc, r⟩
/-- a list is changed that stood not at H0 -/
theorem BoxOk.mut {H0 H : Hp} {b c p : Addr} {o : HO} (x : BoxOk H b c) (x0 : BoxOk H0 b c) (n : H0 p = none) : BoxOk (upd H p o) b c := by
  obtain ⟨ns, x1, x2, x3, x4, hb, hc, r⟩ := x
  obtain ⟨ms, y1, y2, y3, y4, kb, kc, _⟩ := x0
  exact ⟨ns, x1, x2, x3, x4, by rw [upd_ne (ne_of_none kb n)]; exact hb, by rw [upd_ne (ne_of_none kc n)]; exact hc, r⟩
theorem BoxOk.there {H : Hp} {b c : Addr} (x : BoxOk H b c) : ∃ u, H b = some u := by
  obtain ⟨ns, x1, x2, x3, x4, hb, _⟩ := x
  exact ⟨_, hb⟩
theorem Kp.get {b c a : Addr} {H H' : Hp} {o : HO} (k : Kp b H H') (x : BoxOk H b c) (h : H a = some o) (d : NB o) : H' a = some o := k a o (x.ne h d) h
theorem Kp.free {b c p : Addr} {H H' : Hp} (k : Kp b H H') (x : BoxOk H' b c) (n : H' p = none) : H p = none := by
  obtain ⟨u, hu⟩ := x.there
  exact k.fr0 n hu
theorem cut_all {ns : List Int} {n : Int} (h : (ns.length : Int) ≤ n) : cutV (ns.map V.int) none (some n) = ns.map V.int := by
  have e : HT.sIx (ns.map V.int).length (ns.map V.int).length (some n) = (ns.map V.int).length := by
    show (HT.sIx _ _ _) = _
    simp only [HT.sIx, List.length_map]
    first
      | omega
      | (split <;> omega)
      | simp; omega
  unfold cutV
  rw [e]
  show ((ns.map V.int).drop 0).take ((ns.map V.int).length - 0) = _
  rw [List.drop_zero, Nat.sub_zero, List.take_length]
theorem dpInts {K : PySem.W.Frag} {H : Hp} : ∀ ns : List Int, DpAll K H (ns.map V.int) (ns.map PyData.int)
  | [] => .nil
  | n :: r => .cons (.int n) (dpInts r)
def prD (p : Int × Int) : PyData := .tuple [.int p.1, .int p.2]
theorem prD_lay : ∀ ps : List (Int × Int), PyData.canLayAll0 (ps.map prD) = true
  | [] => rfl
  | p :: r => by
    show (PyData.canLay0 (prD p) && PyData.canLayAll0 (r.map prD)) = true
    rw [prD_lay r] <;> rfl
theorem prD_deep : ∀ ps : List (Int × Int), PyData.depthAll (ps.map prD) ≤ 1
  | [] => Nat.zero_le _
  | p :: r => by
    show max (PyData.depth (prD p)) (PyData.depthAll (r.map prD)) ≤ 1
    exact Nat.max_le.mpr ⟨Nat.le_refl 1, prD_deep r⟩
theorem prD_shaped (ps : List (Int × Int)) : SeqAt.shaped (.list (ps.map prD)) = true := by
  refine Bool.and_eq_true_iff.mpr ⟨prD_lay ps, decide_eq_true ?_⟩
  show PyData.depthAll (ps.map prD) + 1 ≤ 64
  have := prD_deep ps
  omega
theorem eqv_ints (ns : List Int) : PyData.eqv (.list (ns.map PyData.int)) (.list (ns.map PyData.int)) = true := SeqAt.eqv_refl _ (Bool.and_eq_true_iff.mp (PySem.W.ke_shaped_ints ns)).1
theorem eqv_prs (ps : List (Int × Int)) : PyData.eqv (.list (ps.map prD)) (.list (ps.map prD)) = true := SeqAt.eqv_refl _ (prD_lay ps)
/-- tuples stay -/
def Tk (H H' : Hp) : Prop := ∀ a xs, H a = some (.tup xs) → H' a = some (.tup xs)
theorem Tk.refl {H : Hp} : Tk H H := fun _ _ h => h
theorem Tk.get {H H' : Hp} {t : Addr} {xs : List V} (h : H t = some (.tup xs)) (k : Tk H H') : H' t = some (.tup xs) := k t xs h
theorem Tk.tr {H H1 H2 : Hp} (y : Tk H1 H2) (x : Tk H H1) : Tk H H2 := fun a xs h => y a xs (x a xs h)
theorem Tk.new {H H1 : Hp} {p : Addr} {o : HO} (x : Tk H H1) (n : H1 p = none) : Tk H (upd H1 p o) := fun a xs h => by
  rw [upd_ne (ne_of_none (x a xs h) n)]
  exact x a xs h
theorem Tk.lst {H H1 : Hp} {p : Addr} {ys : List V} {o : HO} (x : Tk H H1) (n : H1 p = some (.lst ys)) : Tk H (upd H1 p o) := fun a xs h => by
  rw [upd_ne (ne_of (x a xs h) n (by intro q; cases q))]
  exact x a xs h
theorem Same.tk {H H1 : Hp} (x : Same H H1) : Tk H H1 := fun a xs h => x a _ h
theorem Kp.tk {b c : Addr} {H H1 : Hp} (x : Kp b H H1) (bx : BoxOk H b c) : Tk H H1 := fun a xs h => x.get bx h nb_tup
/-- at the addresses as: the pairs ps -/
def PrT (H : Hp) (as : List Addr) (ps : List (Int × Int)) : Prop := as.length = ps.length ∧ ∀ (i : Nat) (a : Addr) (p : Int × Int), as[i]? = some a → ps[i]? = some p → H a = some (.tup [.int p.1, .int p.2])
theorem PrT.mono {H H' : Hp} {as : List Addr} {ps : List (Int × Int)} (x : PrT H as ps) (k : Tk H H') : PrT H' as ps := ⟨x.1, fun i a p h1 h2 => k _ _ (x.2 i a p h1 h2)⟩
theorem PrT.nil {H : Hp} : PrT H [] [] := ⟨rfl, fun i a p h => by simp at h⟩
theorem PrT.tail {H : Hp} {a : Addr} {p : Int × Int} {as : List Addr} {ps : List (Int × Int)} (x : PrT H (a :: as) (p :: ps)) : PrT H as ps :=
  ⟨by have := x.1; simp at this; exact this, fun i b q h1 h2 => x.2 (i + 1) b q (by simpa using h1) (by simpa using h2)⟩
theorem dpPrs {K : PySem.W.Frag} {H : Hp} : ∀ {as : List Addr} {ps : List (Int × Int)}, PrT H as ps → DpAll K H (as.map V.ref) (ps.map prD)
  | [], [], _ => .nil
  | a :: as, p :: ps, x => .cons (.tup (SqT.of (x.2 0 a p rfl rfl)) (.cons (.int _) (.cons (.int _) .nil))) (dpPrs x.tail)
  | [], _ :: _, x => by have := x.1; simp at this
  | _ :: _, [], x => by have := x.1; simp at this
theorem PrT.snoc {H : Hp} {as : List Addr} {ps : List (Int × Int)} {t : Addr} {x y : Int} (h : PrT H as ps) (ht : H t = some (.tup [.int x, .int y])) : PrT H (as ++ [t]) (ps ++ [(x, y)]) := by
  refine ⟨by rw [List.length_append, List.length_append, h.1]; rfl, fun i a p h1 h2 => ?_⟩
  by_cases hi : i < as.length
  · rw [List.getElem?_append_left hi] at h1
    rw [List.getElem?_append_left (h.1 ▸ hi)] at h2
    exact h.2 i a p h1 h2
  · rw [List.getElem?_append_right (by omega)] at h1
    rw [List.getElem?_append_right (by have := h.1; omega)] at h2
    have e : i - as.length = 0 := by
      have := (List.getElem?_eq_some_iff.mp h1).1
      simp at this
      omega
    have e2 : i - ps.length = 0 := by rw [← h.1]; exact e
    rw [e] at h1
    rw [e2] at h2
    cases h1
    cases h2
    exact ht
theorem PrT.append {H : Hp} {as bs : List Addr} {ps qs : List (Int × Int)} (x : PrT H as ps) (y : PrT H bs qs) : PrT H (as ++ bs) (ps ++ qs) := by
  refine ⟨by rw [List.length_append, List.length_append, x.1, y.1], fun i a p h1 h2 => ?_⟩
  by_cases hi : i < as.length
  · rw [List.getElem?_append_left hi] at h1
    rw [List.getElem?_append_left (x.1 ▸ hi)] at h2
    exact x.2 i a p h1 h2
  · rw [List.getElem?_append_right (by omega)] at h1
    rw [List.getElem?_append_right (by have := x.1; omega), ← x.1] at h2
    exact y.2 _ a p h1 h2
theorem PrT.one {H : Hp} {t : Addr} {x y : Int} (h : H t = some (.tup [.int x, .int y])) : PrT H [t] [(x, y)] := PrT.snoc (as := []) (ps := []) PrT.nil h
theorem PrT.take {H : Hp} {as : List Addr} {ps : List (Int × Int)} (x : PrT H as ps) (k : Nat) : PrT H (as.take k) (ps.take k) := by
  refine ⟨by rw [List.length_take, List.length_take, x.1], fun i a p h1 h2 => ?_⟩
  rw [List.getElem?_take] at h1 h2
  by_cases h : i < k
  · rw [if_pos h] at h1 h2
    exact x.2 i a p h1 h2
  · rw [if_neg h] at h1
    cases h1
theorem PrT.drop {H : Hp} {as : List Addr} {ps : List (Int × Int)} (x : PrT H as ps) (k : Nat) : PrT H (as.drop k) (ps.drop k) := by
  refine ⟨by rw [List.length_drop, List.length_drop, x.1], fun i a p h1 h2 => ?_⟩
  rw [List.getElem?_drop] at h1 h2
  exact x.2 _ a p h1 h2
theorem PrT.ins {H : Hp} {as : List Addr} {ps : List (Int × Int)} {t : Addr} {x y : Int} (h : PrT H as ps) (ht : H t = some (.tup [.int x, .int y])) (k : Nat) : PrT H (as.take k ++ [t] ++ as.drop k) (ps.take k ++ [(x, y)] ++ ps.drop k) :=
  ((h.take k).append (PrT.one ht)).append (h.drop k)
theorem PrT.at {H : Hp} {as : List Addr} {ps : List (Int × Int)} {i : Nat} (h : PrT H as ps) (hi : i < ps.length) : ∃ a x y, as[i]? = some a ∧ ps[i]? = some (x, y) ∧ H a = some (.tup [.int x, .int y]) := by
  have h1 : i < as.length := by rw [h.1]; exact hi
  exact ⟨as[i], ps[i].1, ps[i].2, List.getElem?_eq_getElem h1, List.getElem?_eq_getElem hi, h.2 i _ _ (List.getElem?_eq_getElem h1) (List.getElem?_eq_getElem hi)⟩
theorem PrT.item {H : Hp} {as : List Addr} {ps : List (Int × Int)} {i : Nat} {v : V} (h : PrT H as ps) (e : (as.map V.ref)[i]? = some v) : ∃ a x y, v = V.ref a ∧ as[i]? = some a ∧ ps[i]? = some (x, y) ∧ H a = some (.tup [.int x, .int y]) := by
  rw [List.getElem?_map] at e
  cases q : as[i]? with
  | none => rw [q] at e; cases e
  | some a =>
    rw [q] at e
    have hi := (List.getElem?_eq_some_iff.mp q).1
    obtain ⟨b, x, y, e1, e2, e3⟩ := h.at (i := i) (by rw [← h.1]; exact hi)
    rw [q] at e1
    cases e1
    exact ⟨a, x, y, (Option.some.inj e).symm, rfl, e2, e3⟩
theorem at_of0 {α : Type} {xs : List α} {j : Nat} {v : α} (h : xs[j]? = some v) : atI xs (j : Int) = some v := atI_nat h
theorem at_ref {as : List Addr} {i : Nat} {a : Addr} {z : Int} (h : as[i]? = some a) (e : z = (i : Int)) : atI (as.map V.ref) z = some (V.ref a) := at_of e (by rw [List.getElem?_map, h]; rfl)
theorem ix0 {α : Type} {a : α} {l : List α} : atI (a :: l) 0 = some a := at_of0 (j := 0) rfl
theorem ix1 {α : Type} {a b : α} {l : List α} : atI (a :: b :: l) 1 = some b := at_of0 (j := 1) rfl
theorem ix2 {α : Type} {a b c : α} {l : List α} : atI (a :: b :: c :: l) 2 = some c := at_of0 (j := 2) rfl
theorem at_drawn {as : List Addr} {d : Int} (h0 : 0 ≤ d) (h1 : d < (((as.map V.ref).length : Nat) : Int)) : atI (as.map V.ref) d = some (V.ref (as.getD d.toNat 0)) := by
  rw [List.length_map] at h1
  have h : d.toNat < as.length := by omega
  refine at_ref (i := d.toNat) ?_ (by omega)
  rw [List.getD_eq_getElem?_getD, List.getElem?_eq_getElem h]
  rfl
theorem getD_at {as : List Addr} {d : Int} (h0 : 0 ≤ d) (h1 : d < (((as.map V.ref).length : Nat) : Int)) : as[d.toNat]? = some (as.getD d.toNat 0) := by
  rw [List.length_map] at h1
  have h : d.toNat < as.length := by omega
  rw [List.getD_eq_getElem?_getD, List.getElem?_eq_getElem h]
  rfl
theorem at_int {ns : List Int} {i : Nat} {n : Int} {z : Int} (h : ns[i]? = some n) (e : z = (i : Int)) : atI (ns.map V.int) z = some (V.int n) := at_of e (by rw [List.getElem?_map, h]; rfl)
theorem upd_new {H : Hp} {a p : Addr} {o u : HO} (h : H a = some u) (n : H p = none) : upd H p o a = some u := by
  rw [upd_ne (ne_of_none h n)]
  exact h
theorem upd_oth {H : Hp} {a p : Addr} {o u : HO} (h : H a = some u) (n : a ≠ p) : upd H p o a = some u := by
  rw [upd_ne n]
  exact h
end Kit

end
section
set_option Elab.async false
set_option linter.all false
set_option maxHeartbeats 4000000
namespace Kit
open PySem L2
/-! tables of links, pairs -/
def Good (n : Nat) (p : Int × Int) : Prop := 0 ≤ p.1 ∧ p.1 < n ∧ 0 ≤ p.2 ∧ p.2 < n ∧ p.1 ≠ p.2
instance (n : Nat) (p : Int × Int) : Decidable (Good n p) := by unfold Good; infer_instance
abbrev Rel := Nat → Nat → Bool
def hitP (p : Int × Int) (x y : Nat) : Bool := decide (p.1 = (x : Int) ∧ p.2 = (y : Int))
def relP (ps : List (Int × Int)) (both : Bool) : Rel := fun x y => ps.any fun p => hitP p x y || (both && hitP p y x)
theorem hit_nat (x0 y0 x y : Nat) : hitP ((x0 : Int), (y0 : Int)) x y = decide (x = x0 ∧ y = y0) := by
  unfold hitP
  exact decide_eq_decide.mpr ⟨fun h => ⟨by omega, by omega⟩, fun h => ⟨by show (x0 : Int) = _; omega, by show (y0 : Int) = _; omega⟩⟩
theorem relP_snoc (ps : List (Int × Int)) (both : Bool) (x0 y0 x y : Nat) : relP (ps ++ [((x0 : Int), (y0 : Int))]) both x y = (relP ps both x y || (decide (x = x0 ∧ y = y0) || (both && decide (y = x0 ∧ x = y0)))) := by
  unfold relP
  rw [List.any_append, List.any_cons, List.any_nil, Bool.or_false, hit_nat, hit_nat]
theorem relP_iff {ps : List (Int × Int)} {both : Bool} {x y : Nat} : relP ps both x y = true ↔ ((x : Int), (y : Int)) ∈ ps ∨ (both = true ∧ ((y : Int), (x : Int)) ∈ ps) := by
  unfold relP hitP
  simp only [List.any_eq_true, Bool.or_eq_true, Bool.and_eq_true, decide_eq_true_eq]
  constructor
  · rintro ⟨p, hp, h | h⟩
    · exact .inl (by rw [← h.1, ← h.2]; exact hp)
    · exact .inr ⟨h.1, by rw [← h.2.1, ← h.2.2]; exact hp⟩
  · rintro (h | ⟨b, h⟩)
    · exact ⟨_, h, .inl ⟨rfl, rfl⟩⟩
    · exact ⟨_, h, .inr ⟨b, rfl, rfl⟩⟩
structure IsTab (n : Nat) (T : List Int) (R : Rel) : Prop where
  len : T.length = n * n
  get : ∀ x y, x < n → y < n → T[x * n + y]? = some (if R x y = true then 1 else 0)
theorem ix_lt {n x y : Nat} (hx : x < n) (hy : y < n) : x * n + y < n * n := by
  have h : (x + 1) * n ≤ n * n := Nat.mul_le_mul_right n hx
  rw [Nat.add_mul, Nat.one_mul] at h
  omega
theorem ix_inj {n x y x' y' : Nat} (hy : y < n) (hy' : y' < n) (e : x * n + y = x' * n + y') : x = x' ∧ y = y' := by
  have h1 : (x * n + y) / n = x := by rw [Nat.mul_comm, Nat.mul_add_div (by omega), Nat.div_eq_of_lt hy, Nat.add_zero]
  have h2 : (x' * n + y') / n = x' := by rw [Nat.mul_comm, Nat.mul_add_div (by omega), Nat.div_eq_of_lt hy', Nat.add_zero]
  have h3 : x = x' := by rw [← h1, ← h2, e]
  subst h3
  exact ⟨rfl, by omega⟩
theorem IsTab.congr {n : Nat} {T : List Int} {R R' : Rel} (t : IsTab n T R) (h : ∀ x y, x < n → y < n → R x y = R' x y) : IsTab n T R' :=
  ⟨t.len, fun x y hx hy => by rw [← h x y hx hy]; exact t.get x y hx hy⟩
theorem IsTab.set {n : Nat} {T : List Int} {R : Rel} (t : IsTab n T R) {x0 y0 : Nat} (hx : x0 < n) (hy : y0 < n) (b : Bool) {v : Int} (hv : v = if b = true then 1 else 0) :
    IsTab n (T.set (x0 * n + y0) v) (fun x y => if x = x0 ∧ y = y0 then b else R x y) := by
  refine ⟨by rw [List.length_set, t.len], fun x y hx' hy' => ?_⟩
  by_cases h : x = x0 ∧ y = y0
  · rw [h.1, h.2, List.getElem?_set_self (by rw [t.len]; exact ix_lt hx hy), hv]
    simp
  · rw [List.getElem?_set_ne (fun e => h (let z := ix_inj hy hy' e; ⟨z.1.symm, z.2.symm⟩)), t.get x y hx' hy']
    simp only [if_neg h]
theorem IsTab.on {n : Nat} {T : List Int} {R : Rel} (t : IsTab n T R) {x0 y0 : Nat} (hx : x0 < n) (hy : y0 < n) : IsTab n (T.set (x0 * n + y0) 1) (fun x y => R x y || decide (x = x0 ∧ y = y0)) :=
  (t.set hx hy true (v := 1) rfl).congr fun x y _ _ => by
    by_cases h : x = x0 ∧ y = y0
    · rw [if_pos h, decide_eq_true h, Bool.or_true]
    · rw [if_neg h, decide_eq_false h, Bool.or_false]
theorem IsTab.zero (n : Nat) : IsTab n (List.replicate (n * n) 0) (fun _ _ => false) :=
  ⟨List.length_replicate, fun x y hx hy => by rw [List.getElem?_replicate, if_pos (ix_lt hx hy)]; rfl⟩
theorem rep_ints (n : Nat) (v : Int) : (List.replicate n [V.int v]).flatten = (List.replicate n v).map V.int := by
  induction n with
  | zero => rfl
  | succ n ih =>
    rw [List.replicate_succ, List.replicate_succ, List.flatten_cons, ih]
    rfl
def rowT (R : Rel) (x j : Nat) : List (Int × Int) := ((List.range j).filter (R x)).map fun (y : Nat) => ((x : Int), (y : Int))
def tiesTo (n : Nat) (R : Rel) (i : Nat) : List (Int × Int) := (List.range i).flatMap fun x => rowT R x n
def ties (n : Nat) (R : Rel) : List (Int × Int) := tiesTo n R n
theorem rowT_yes {R : Rel} {x j : Nat} (h : R x j = true) : rowT R x (j + 1) = rowT R x j ++ [((x : Int), (j : Int))] := by
  unfold rowT
  rw [List.range_succ, List.filter_append, List.map_append]
  simp [List.filter, h]
theorem rowT_no {R : Rel} {x j : Nat} (h : R x j = false) : rowT R x (j + 1) = rowT R x j := by
  unfold rowT
  rw [List.range_succ, List.filter_append, List.map_append]
  simp [List.filter, h]
theorem tiesTo_succ (n : Nat) (R : Rel) (i : Nat) : tiesTo n R (i + 1) = tiesTo n R i ++ rowT R i n := by
  unfold tiesTo
  rw [List.range_succ, List.flatMap_append]
  simp
theorem mem_ties {n : Nat} {R : Rel} {p : Int × Int} : p ∈ ties n R ↔ ∃ x y : Nat, x < n ∧ y < n ∧ R x y = true ∧ p = ((x : Int), (y : Int)) := by
  unfold ties tiesTo rowT
  simp only [List.mem_flatMap, List.mem_map, List.mem_filter, List.mem_range]
  constructor
  · rintro ⟨x, hx, y, ⟨hy, hr⟩, e⟩
    exact ⟨x, y, hx, hy, hr, e.symm⟩
  · rintro ⟨x, y, hx, hy, hr, e⟩
    exact ⟨x, hx, y, ⟨hy, hr⟩, e.symm⟩
theorem rowT_len (R : Rel) (x j : Nat) : (rowT R x j).length ≤ j := by
  unfold rowT
  rw [List.length_map]
  have h := List.length_filter_le (R x) (List.range j)
  rw [List.length_range] at h
  exact h
theorem tiesTo_len (n : Nat) (R : Rel) : ∀ i, (tiesTo n R i).length ≤ i * n
  | 0 => Nat.zero_le _
  | i + 1 => by
    rw [tiesTo_succ, List.length_append, Nat.add_mul, Nat.one_mul]
    exact Nat.add_le_add (tiesTo_len n R i) (rowT_len R i n)
theorem ties_len {n : Nat} (R : Rel) (h : n ≤ 24) : (ties n R).length ≤ 576 := Nat.le_trans (tiesTo_len n R n) (Nat.mul_le_mul h h)
theorem ties_congr {n : Nat} {R R' : Rel} (h : ∀ x y, x < n → y < n → R x y = R' x y) : ties n R = ties n R' := by
  have row : ∀ x, x < n → ∀ j, j ≤ n → rowT R x j = rowT R' x j := by
    intro x hx j
    induction j with
    | zero => intro _; rfl
    | succ j ih =>
      intro hj
      have e := h x j hx hj
      cases q : R x j with
      | true => rw [rowT_yes q, rowT_yes (e ▸ q), ih (by omega)]
      | false => rw [rowT_no q, rowT_no (e ▸ q), ih (by omega)]
  have all : ∀ i, i ≤ n → tiesTo n R i = tiesTo n R' i := by
    intro i
    induction i with
    | zero => intro _; rfl
    | succ i ih => intro hi; rw [tiesTo_succ, tiesTo_succ, ih (by omega), row i hi n (Nat.le_refl n)]
  exact all n (Nat.le_refl n)
def netF (n : Nat) (d : Addr) : List (Str × V) := putF "_links" (.ref d) (putF "count" (.int (n : Int)) [])
theorem netF_links (n : Nat) (d : Addr) : (netF n d).lookup ("_links" : Str) = some (.ref d) := by
  unfold netF
  rw [lookup_putF, if_pos rfl]
theorem netF_count (n : Nat) (d : Addr) : (netF n d).lookup ("count" : Str) = some (.int (n : Int)) := by
  unfold netF
  rw [lookup_putF, if_neg (by decide +kernel), lookup_putF, if_pos rfl]
theorem netF_no (n : Nat) (d : Addr) {m : Str} (h1 : ¬ m = "_links") (h2 : ¬ m = "count") : (netF n d).lookup m = none := by
  unfold netF
  rw [lookup_putF, if_neg h1, lookup_putF, if_neg h2]
  rfl
def linkKV (n : Nat) (R : Rel) : List (List Key × V) := (ties n R).map fun p => ([.inl p.1, .inl p.2], V.bl true)
/-- at a: a net of n replicas with the links R -/
structure NetAt (C : Addr) (H : Hp) (a : Addr) (n : Nat) (R : Rel) : Prop where
  ex : ∃ dx d, H a = some (.ins C dx (netF n d)) ∧ H d = some (.dT (linkKV n R))
  b1 : 1 ≤ n
  b2 : n ≤ 24
  ir : ∀ x y, x < n → y < n → R x y = true → x ≠ y
theorem NetAt.same {C : Addr} {H H' : Hp} {a : Addr} {n : Nat} {R : Rel} (s : Same H H') (x : NetAt C H a n R) : NetAt C H' a n R := by
  obtain ⟨⟨dx, d, h1, h2⟩, r⟩ := x
  exact ⟨⟨dx, d, s _ _ h1, s _ _ h2⟩, by assumption, by assumption, by assumption⟩
theorem NetAt.kp {C : Addr} {H H' : Hp} {a b c : Addr} {n : Nat} {R : Rel} (k : Kp b H H') (bx : BoxOk H b c) (x : NetAt C H a n R) : NetAt C H' a n R := by
  obtain ⟨⟨dx, d, h1, h2⟩, r⟩ := x
  exact ⟨⟨dx, d, k.get bx h1 nb_ins, k.get bx h2 nb_dT⟩, by assumption, by assumption, by assumption⟩
theorem NetAt.new {C : Addr} {H : Hp} {a p : Addr} {o : HO} {n : Nat} {R : Rel} (x : NetAt C H a n R) (np : H p = none) : NetAt C (upd H p o) a n R := NetAt.same (Same.new (Same.refl H) np) x
theorem NetAt.lst {C : Addr} {H : Hp} {a p : Addr} {xs ys : List V} {n : Nat} {R : Rel} (x : NetAt C H a n R) (hp : H p = some (.lst xs)) : NetAt C (upd H p (.lst ys)) a n R := by
  obtain ⟨⟨dx, d, h1, h2⟩, r⟩ := x
  exact ⟨⟨dx, d, by rw [upd_ne (ne_of h1 hp (by intro q; cases q))]; exact h1, by rw [upd_ne (ne_of h2 hp (by intro q; cases q))]; exact h2⟩, by assumption, by assumption, by assumption⟩
theorem find_key (ls : List (Int × Int)) (s r : Int) : (valV (ls.map fun p => (([.inl p.1, .inl p.2] : List Key), V.bl true)) [.inl s, .inl r]).isSome = decide ((s, r) ∈ ls) := by
  rw [← valV_any, List.any_map]
  induction ls with
  | nil => rfl
  | cons p t ih =>
    rw [List.any_cons, ih]
    have e : (([.inl p.1, .inl p.2] : List Key) = [.inl s, .inl r]) ↔ (s, r) = p := by
      obtain ⟨a, b⟩ := p
      constructor
      · intro h
        injection h with h1 h2
        injection h2 with h2 _
        exact Prod.ext (Sum.inl.inj h1).symm (Sum.inl.inj h2).symm
      · intro h
        cases h
        rfl
    show (decide (([.inl p.1, .inl p.2] : List Key) = [.inl s, .inl r]) || _) = _
    by_cases h : (s, r) = p
    · rw [decide_eq_true (e.mpr h), Bool.true_or]
      exact (decide_eq_true (by rw [h]; exact List.mem_cons_self)).symm
    · rw [decide_eq_false (fun z => h (e.mp z)), Bool.false_or]
      exact decide_eq_decide.mpr ⟨fun z => List.mem_cons_of_mem _ z, fun z => (List.mem_cons.mp z).resolve_left h⟩
theorem prT_keys {H : Hp} {ls : List (Int × Int)} {bs : List Addr} (h : IsKeys H (ls.map fun p => (([.inl p.1, .inl p.2] : List Key), V.bl true)) bs) : PrT H bs ls := by
  induction ls generalizing bs with
  | nil =>
    cases h
    exact PrT.nil
  | cons p t ih =>
    cases h with
    | cons h1 h2 =>
      rename_i b bs'
      have r := (PrT.one (x := p.1) (y := p.2) h1).append (ih h2)
      exact r
end Kit

end
section
set_option Elab.async false
set_option linter.all false
set_option maxRecDepth 100000
set_option maxHeartbeats 1000000
namespace KX
open PySem PySem.Spec PyProof.Rows L2
/-- what isinstance wants of the class of a caught error -/
structure IsX (K : PySem.W.Frag) (D : Addr) : Prop where
  cl : (PySem.W.clsIn K D).isSome = true
  ga : PySem.W.findIn K (.ref D) "__getattribute__" = some (some (.builtin "BaseException.__getattribute__"))
  gg : PySem.W.findIn K (.ref D) "__getattr__" = some none
  ex : PySem.W.subIn K (.ref D) (.type "BaseException") = some true
  cc : PySem.W.findIn K (.ref D) "__class__" = some (some (.builtin "object.__class__"))
  cg : PySem.W.specialIn K (.builtin "object.__class__") "__get__" = some (some (.builtin "getset_descriptor.__get__"))
  tk : PySem.W.takesIn K (.builtin "object.__class__") = some true
  mo : PySem.W.mroIn K D (.type "object") = some true
  hd : PySem.W.hasDictIn K D = true
theorem IsX.xf {K : PySem.W.Frag} {D : Addr} (x : IsX K D) : XfC K D := ⟨x.ga, x.gg, x.ex, x.hd⟩
/-- isinstance(e, C): e the error in the suite, of the class at D, its fields at dd -/
def rIsX (K : PySem.W.Frag) (cls : Value) (d : Option Addr) (a : Addr) : List V → Hp → VK → Prop := fun xs H Q => ∃ (D : Addr) (c : V) (cv : Value) (b : Bool) (dd : Addr) (fs : List (Str × V)),
  cls = .ref D ∧ IsX K D ∧ xs = [.ref a, c] ∧ (∀ u, RelV c u → u = cv) ∧ d = some dd ∧ H dd = some (.xd fs) ∧ PySem.W.kitOne K (.ref D) cv = some b ∧ Q (.bl b) H
theorem call_isX {X : Cx} {a : Addr} {cls : Value} {d : Option Addr} {oe : Obj} {pn : List (Addr × Obj)} (hz : Zc cls d oe) (hf : ∃ vs, oe.data = .fields vs) :
    CallR (X.suite a ((a, oe) :: pn)) (.builtin "isinstance") (rIsX X.K cls d a) := by
  intro pins s σ H xs us Q I r h
  obtain ⟨D, c, cv, b, dd, fs, rfl, T, rfl, hcv, rfl, hdd, e, q⟩ := h
  obtain ⟨u1, u2, rfl, r1, r2⟩ := vals2 r
  obtain rfl : u1 = Value.ref a := r1
  obtain rfl := hcv _ r2
  have pin := (I.pin (a, oe) (List.mem_append.mpr (.inl List.mem_cons_self))).1
  have hx : ObjOk X.prog X.w H s.heap dd (.xd fs) := I.hok dd _ hdd
  obtain ⟨mA, ⟨od, es, ep, ho, _⟩, _⟩ := hx
  obtain ⟨vs, hv⟩ := hf
  obtain ⟨z1, z2⟩ := hz
  have J : PySem.W.InstAt s.heap a oe D (some od) := by
    refine ⟨pin, z1, ?_, ?_⟩
    · unfold PySem.W.notCls
      rw [hv] <;> rfl
    · rw [z2]
      exact ho
  have Z := PySem.W.kitx_exc (K := X.K) (x := a) (C := D) (ox := oe) (od := some od) T.cl T.ga T.gg T.ex T.cc T.cg T.tk T.mo
  exact PySem.W.kia_one Z I.kIn J e (fun z => by cases z) fun tk => ⟨.bl b, H, I.tok tk, rfl, q⟩
/-- a weaker making -/
theorem PMk.imp {X : Cx} {e : Expr} {t t' : L2.St → Hp → XK → Prop} (h : PMk X e t) (k : ∀ σ H Q, t' σ H Q → t σ H Q) : PMk X e t' := fun pins s σ H Q I q => h pins s σ H Q I (k σ H Q q)
/-- the class of an own error with an __init__ that stores its arguments -/
structure ErrC (K : PySem.W.Frag) (mg : Str → Option Value) (x : Str) (C : Addr) : Prop where
  oex : OexC K C
  mgC : mg x = some (.ref C)
  is_ : IsX K C
/-- the __init__ of it: it stores at these names, in this order -/
def spErr (C : Addr) (a : Addr) : List (Str × V) → Hp → (Hp → Prop) → Prop := fun fs H k => ∀ dx, H dx = none → dx ≠ a → k (upd (upd H dx (exd dx fs)) a (exo a C (some dx)))
def spErr1 (C : Addr) (f : Str) : Sp := fun vs H Q _ => ∃ (a : Addr) (v : V), vs = [.ref a, v] ∧ H a = some (exo a C none) ∧ spErr C a [(f, v)] H fun H' => Q .non H'
def spErr2 (C : Addr) (f g : Str) : Sp := fun vs H Q _ => ∃ (a : Addr) (v u : V), vs = [.ref a, v, u] ∧ H a = some (exo a C none) ∧ ∀ dx, H dx = none → dx ≠ a → Q .non (upd (upd (upd H dx (exd dx [(f, v)])) a (exo a C (some dx))) dx (exd dx [(g, u), (f, v)]))
theorem del_upd {H : Hp} {a d : Addr} {o1 o2 o3 : HO} {fs : HO} (ha : H a = none) (hd : d ≠ a) : upd (del (upd (upd (upd H a o1) d o2) a o3) a) d fs = upd H d fs := by
  funext b
  by_cases h1 : b = d
  · rw [h1, upd_same, upd_same]
  · rw [upd_ne h1, upd_ne h1]
    by_cases h2 : b = a
    · rw [h2, del_same, ha]
    · rw [del_ne h2, upd_ne h2, upd_ne h1, upd_ne h2]
theorem del_upd2 {H : Hp} {a d : Addr} {o1 o2 o3 o4 : HO} {fs : HO} (ha : H a = none) (hd : d ≠ a) : upd (del (upd (upd (upd (upd H a o1) d o2) a o3) d o4) a) d fs = upd H d fs := by
  funext b
  by_cases h1 : b = d
  · rw [h1, upd_same, upd_same]
  · rw [upd_ne h1, upd_ne h1]
    by_cases h2 : b = a
    · rw [h2, del_same, ha]
    · rw [del_ne h2, upd_ne h1, upd_ne h2, upd_ne h1, upd_ne h2]
/-- the reading of C(e): a new dict with the field -/
def tErr1 (C : Addr) (f : Str) (ta : TA) : L2.St → Hp → XK → Prop := fun σ H Q => ta σ H fun vs H1 => ∃ v, vs = [v] ∧ ∀ d, H1 d = none → Q (.ref C) (some d) (upd H1 d (.xd [(f, v)]))
def tErr2 (C : Addr) (f g : Str) (ta : TA) : L2.St → Hp → XK → Prop := fun σ H Q => ta σ H fun vs H1 => ∃ v u, vs = [v, u] ∧ ∀ d, H1 d = none → Q (.ref C) (some d) (upd H1 d (.xd [(g, u), (f, v)]))
/-- what makes such errors: the class, its __init__'s promise -/
structure Mke (P : Program) (w : World) (K : PySem.W.Frag) (mg : Str → Option Value) (base : Heap) (k : Nat) (x : Str) (C : Addr) (sp : Sp) : Prop where
  err : ErrC K mg x C
  ex : ∃ (f : Addr) (fd : FuncData) (ps : List Str), PySem.W.findIn K (.ref C) "__init__" = some (some (.ref f)) ∧ PySem.W.typeIn K (.ref f) = some (.type "function") ∧ FnOk P w K mg base CX0 k f fd ps sp ∧ Binds K fd ps []
section
variable {X : Cx} {x : Str} {C : Addr} {k j : Nat} {f g : Str} {e : Expr} {es : List Expr} {ta : TA} {p pos : Pos}
theorem ta_mono {X : Cx} {es : List Expr} {ta : TA} (h : PA X es ta) : True := trivial
theorem pmk1 (m : Mke X.prog X.w X.K X.mg X.base k x C (spErr1 C f)) (hr : Room j X.A) (hk : k + 1 ≤ j) (hg : Gl X x) (ha : PA X (e :: es) ta) (mono : ∀ σ H Q Q', (∀ vs H1, Q vs H1 → Q' vs H1) → ta σ H Q → ta σ H Q')
    (hdb : (x == ("__debug__" : Str)) = false := by decide) (he : starEach (e :: es) X.env = (false, eval e X.env) :: starEach es X.env := by rfl) (hpl : (backTo pos (starEach es X.env)).any (·.1) = false := by rfl) :
    PMk X (.Call (.Name x p) (e :: es) [] pos) (tErr1 C f ta) := by
  obtain ⟨fI, fd, ps, iC, tI, F, hb⟩ := m.ex
  refine PMk.imp (pmk_oex m.err.oex iC tI F (hr.mono hk) hb .nil (fun _ _ _ _ _ _ _ h => h.elim) hg m.err.mgC ha hdb he hpl) fun σ H Q q => ?_
  refine mono σ H _ _ ?_ q
  rintro vs H1 ⟨v, rfl, q⟩
  refine ⟨by show 1 ≤ 1000; decide, fun a na => ?_⟩
  refine ⟨a, v, rfl, upd_same, fun dx hx hne => ⟨rfl, dx, [(f, v)], upd_same, ?_, ?_, ?_⟩⟩
  · rw [upd_ne hne, upd_same]
  · rw [upd_ne hne] at hx
    exact hx
  · rw [upd_ne hne] at hx
    rw [del_upd na hne]
    exact q dx hx
theorem pmk2 (m : Mke X.prog X.w X.K X.mg X.base k x C (spErr2 C f g)) (hr : Room j X.A) (hk : k + 1 ≤ j) (hg : Gl X x) (ha : PA X (e :: es) ta) (mono : ∀ σ H Q Q', (∀ vs H1, Q vs H1 → Q' vs H1) → ta σ H Q → ta σ H Q')
    (hdb : (x == ("__debug__" : Str)) = false := by decide) (he : starEach (e :: es) X.env = (false, eval e X.env) :: starEach es X.env := by rfl) (hpl : (backTo pos (starEach es X.env)).any (·.1) = false := by rfl) :
    PMk X (.Call (.Name x p) (e :: es) [] pos) (tErr2 C f g ta) := by
  obtain ⟨fI, fd, ps, iC, tI, F, hb⟩ := m.ex
  refine PMk.imp (pmk_oex m.err.oex iC tI F (hr.mono hk) hb .nil (fun _ _ _ _ _ _ _ h => h.elim) hg m.err.mgC ha hdb he hpl) fun σ H Q q => ?_
  refine mono σ H _ _ ?_ q
  rintro vs H1 ⟨v, u, rfl, q⟩
  refine ⟨by show 2 ≤ 1000; decide, fun a na => ?_⟩
  refine ⟨a, v, u, rfl, upd_same, fun dx hx hne => ⟨rfl, dx, [(g, u), (f, v)], ?_, upd_same, ?_, ?_⟩⟩
  · rw [upd_ne hne.symm, upd_same]
  · rw [upd_ne hne] at hx
    exact hx
  · rw [upd_ne hne] at hx
    rw [del_upd2 na hne]
    exact q dx hx
end
/-- a def that may raise, by its name -/
structure CalX (P : Program) (w : World) (K : PySem.W.Frag) (mg : Str → Option Value) (base : Heap) (k : Nat) (x : Str) (sp : Sp) : Prop where
  ex : ∃ (f : Addr) (fd : FuncData) (ps : List Str), FnOk P w K mg base (L2.CX P w) k f fd ps sp ∧ mg x = some (.ref f) ∧ PySem.W.keepIn K (.ref f) = true ∧ Binds K fd ps []
theorem pe_cX {X : Cx} {k j : Nat} {x : Str} {sp : Sp} {E : XK} {p pos : Pos} {e : Expr} {es : List Expr} {t : TA} (c : CalX X.prog X.w X.K X.mg X.base k x sp) (hr : Room j X.A) (hk : k ≤ j) (hg : Gl X x) (hx : Passes (L2.CX X.prog X.w) X E) (ha : PA X (e :: es) t)
    (hdb : (x == ("__debug__" : Str)) = false := by decide) (he : starEach (e :: es) X.env = (false, eval e X.env) :: starEach es X.env := by rfl) (hpl : (backTo pos (starEach es X.env)).any (·.1) = false := by rfl) :
    PE X (.Call (.Name x p) (e :: es) [] pos) (tCall sp [] E t) := by
  obtain ⟨f, fd, ps, F, hm, kp, b⟩ := c.ex
  exact pe_call F (hr.mono hk) hg hm kp b .nil hx ha hdb he hpl
end KX

end
section
set_option Elab.async false
set_option linter.all false
set_option maxRecDepth 100000
set_option maxHeartbeats 1000000
/-! a dict comprehension whose keys are tuples -/
namespace KX
open PySem PySem.Spec PyProof.Rows L2 Kit
/-- the new dict takes a pair whose key is the tuple at b -/
theorem dsetT {X : Cx} {pins : List (Addr × Obj)} {σ : L2.St} {H : Hp} {s : Shared} {E : Value → Shared → Prop} {D b : Addr} {kvs : List (List Key × V)} {k : List Key} {v : V} {r : Value} {Q : Unit → Shared → Prop}
    (hu : X.A.units < cLine) (I : Inv X pins σ H s) (hD : H D = some (.dT kvs)) (few : kvs.length < sizeLine) (hb : H b = some (.tup (k.map kV))) (rv : RelV v r)
    (h : ∀ s2, Inv X pins σ (upd H D (.dT (putK kvs k v))) s2 → Q () s2) : wpAny (model X.prog X.w) X.A (dictSet D (.ref b) r) Q E s := by
  obtain ⟨z, nsm, xs, kt, dd⟩ := dt_of I.hok hD
  have few2 : (putK kvs k v).length ≤ sizeLine := Nat.le_trans (length_putK kvs k v) few
  refine wpAny_dictSet_heap (hsz := by rw [← Paired.length kt]; exact z) hu (key_of I.hok hb) dd (fun h2 dd2 same => h _ ?_)
  obtain ⟨o, es, ep, ho, c1, c2, c3, _, c5⟩ := dd2
  refine d_write I (by rw [hD]; exact True.intro) same ⟨o, ho⟩ ⟨few2, nsm, _, (kt.put k hb rv).keeps (fun c ys ec => ?_), o, es, ep, ho, c1, c2, c3, c5⟩
  exact (upd_ne (ne_of ec hD fun q => nomatch q)).trans ec
end KX
namespace KX
open PySem PySem.Spec PyProof.Rows L2 Kit
/-- {k: v for target in iter}: a dict whose keys are tuples -/
def tDcT (wi : TI) (g : TG) (tk tv : TE) (vs : List Nat) : TE := fun σ H Q => wi σ H fun J H1 => ∀ D, H1 D = none → ∃ W : Nat → Nat → Hp → Prop, (∃ m, W 0 m (upd H1 D (.dT []))) ∧ ∀ i m H, W i m H →
  (J.stop i H ∧ Q (.ref D) H) ∨ (J.go i H ∧ ∃ Nx : Hp → Prop, (∀ H', Nx H' → ∃ m', m' < m ∧ W (i + 1) m' H') ∧ ∀ x H', J.yld i H x H' → g x (wipe σ vs) H' fun σ2 H2 => wipe σ2 vs = wipe σ vs ∧
    tk σ2 H2 fun y H4 => tv σ2 H4 fun z H5 => ∃ (kvs : List (List Key × V)) (k : List Key) (t : Addr), y = .ref t ∧ H5 t = some (.tup (k.map kV)) ∧ H5 D = some (.dT kvs) ∧ kvs.length < sizeLine ∧ Nx (upd H5 D (.dT (putK kvs k z))))
theorem pe_dcT {X : Cx} {kx vx tg iter : Expr} {scope : Scope} {own : List (Str × Nat)} {pos : Pos} {wi : TI} {g : TG} {tk tv : TE} (hu : X.A.units < cLine) (hc : X.calm = true) (hN : X.N.Nodup) (hi : PI X tg iter wi) (ok : BlkOk X.N X.env.scope scope own)
    (hg : ∀ (s : Shared) (H : Hp) (C : Addr) (cl : List (Str × Addr)) (fp : List Addr), PG (X.blk s H scope (compEnvC scope cl C X.env) fp) tg g)
    (hk : ∀ (s : Shared) (H : Hp) (C : Addr) (cl : List (Str × Addr)) (fp : List Addr), PE (X.blk s H scope (compEnvC scope cl C X.env) fp) kx tk)
    (hv : ∀ (s : Shared) (H : Hp) (C : Addr) (cl : List (Str × Addr)) (fp : List Addr), PE (X.blk s H scope (compEnvC scope cl C X.env) fp) vx tv) (hs : ∀ x, foldedSetIterable iter X.env x = pure x := by intro _; rfl) :
    PE X (.DictComp kx vx [⟨tg, iter, [], 0⟩] scope pos) (tDcT wi g tk tv (own.map (·.2))) := by
  refine ⟨fun pins s σ H Q I need => ?_⟩
  rw [arm_eval_DictComp]
  have frees : ∀ y ∈ scope.names, y.2 = .free → ∃ c, X.env.cells.lookup y.1 = some c := by
    intro y hy e
    exact (ok.free y hy e).elim (fun q => I.ok.has _ (.inl q)) (fun q => I.ok.has _ (.inr q))
  refine wpAny_comprehension_free rfl hs (closure_ok frees) ok.kind (fun y hy e => by rw [ok.uniq y hy, e]) ?_
  refine thn (hi.run pins s σ H _ I need) fun xv t1 a1 => thn a1 fun itv t2 a2 => ?_
  obtain ⟨it, fp, tn, J, G0, rfl, I2, walk, z0, fz, body⟩ := a2
  refine wpAny_newObj_type (newEnv_comp ?_)
  generalize eD : t2.heap.objs.size = D
  obtain ⟨W, ⟨m0, w0⟩, turn⟩ := body D (I2.hok.fresh (Nat.le_of_eq eD))
  -- the state with the new dict
  generalize e3 : ({ t2 with heap := t2.heap.push { cls := .type "dict", data := .dict #[] } } : Shared) = t3
  have eh : t3.heap = t2.heap.push { cls := .type "dict", data := .dict #[] } := by subst e3; rfl
  have I3 : Inv X pins σ (upd G0 D (.dT [])) t3 := by
    subst e3
    subst eD
    exact I2.laid (t' := t2.toks) (fun b o q => Heap.get?_push_of_some _ q) (Nat.le_refl _) (dt_empty t2.heap I2.big)
  have small : ∀ b ∈ fp, b < t2.heap.objs.size := fun b hb => Heap.lt_size (walk.obj _ _ z0 b hb).choose_spec.1
  have fz3 : ∀ b ∈ fp, FpOk X pins (upd G0 D (.dT [])) b ∧ b < t3.heap.objs.size := by
    intro b hb
    have lt := small b hb
    have q : upd G0 D (.dT []) b = none := (upd_ne (by rw [← eD]; exact Nat.ne_of_lt lt)).trans (fz b hb).1
    exact ⟨⟨q, (fz b hb).2⟩, by rw [eh, Heap.size_push]; exact Nat.lt_succ_of_lt lt⟩
  have z3 : tn 0 t3.heap := walk.keep _ _ _ z0 (fun b _ o q => by rw [eh]; exact Heap.get?_push_of_some _ q)
  have I4 := block_start I3 ok hN fz3
  generalize ecl : cellsFrom (t3.heap.objs.size + 1) scope.names (cloFrom X.env.cells scope.names []) = cl at I4
  have pg := hg t3 (upd G0 D (.dT [])) t3.heap.objs.size cl fp
  have pk := hk t3 (upd G0 D (.dT [])) t3.heap.objs.size cl fp
  have pv := hv t3 (upd G0 D (.dT [])) t3.heap.objs.size cl fp
  show codeAny _ _ (.compStart (.DictComp kx vx [⟨tg, iter, [], 0⟩] scope pos) 0 (.ref it) (.ref D) (compEnvC scope cl t3.heap.objs.size X.env)) (compPost _ _ _ _ _ (.ref D) t3.heap.objs.size) { t3 with heap := pushCells (t3.heap.push { cls := .type "dict", data := .dict #[] }) scope.names }
  generalize ece : compEnvC scope cl t3.heap.objs.size X.env = ce at I4 pg pk pv ⊢
  have cL : ce.locals = t3.heap.objs.size := by subst ece; rfl
  have none3 : ∀ b ∈ fp, upd G0 D (.dT []) b = none := fun b hb => (fz3 b hb).1.1
  generalize eH : upd G0 D (.dT []) = G3 at I3 I4 pg pk pv w0 none3 fz3
  generalize e4 : ({ t3 with heap := pushCells (t3.heap.push { cls := .type "dict", data := .dict #[] }) scope.names } : Shared) = t4 at I4 ⊢
  have z4 : tn 0 t4.heap := by
    subst e4
    exact walk.keep _ _ _ z3 (fun b _ o q => pushCells_keeps _ _ _ _ (Heap.get?_push_of_some _ q))
  have fpB : ∀ {τ : L2.St} {G : Hp} {t : Shared}, Inv (X.blk t3 G3 scope ce fp) [] τ G t → (∀ b ∈ fp, G b = none) → ∀ b ∈ fp, FpOk (X.blk t3 G3 scope ce fp) [] G b := by
    intro τ G t J1 nb b hb
    exact ⟨nb b hb, (J1.ok.exf b hb).1, J1.ok.exfs b hb, .inl hb, fun x c q => (J1.ok.exf b hb).2 x c q, fun p hp => absurd (show p ∈ ([] : List (Addr × Obj)) ++ [] from hp) (by simp)⟩
  have loop : codeAny (model X.prog X.w) X.A (.compLoop (.DictComp kx vx [⟨tg, iter, [], 0⟩] scope pos) 0 (.ref it) (.ref D) ce) (compPost (model X.prog X.w) X.A X.xe none (EP X pins σ Q) (.ref D) t3.heap.objs.size) t4 := by
    refine compLoop_anyD (fun m t => ∃ i G, Inv (X.blk t3 G3 scope ce fp) [] (wipe σ (own.map (·.2))) G t ∧ tn i t.heap ∧ (∀ b ∈ fp, G b = none) ∧ W i m G) ?_ m0 ⟨0, G3, I4, z4, none3, w0⟩
    intro m t5 cond
    obtain ⟨i, G5, I5, z5, n5, w5⟩ := cond
    have fB := fpB I5 n5
    cases turn i m G5 w5 with
    | inl stp =>
      obtain ⟨halt, res⟩ := stp
      refine thnF (walk.done (X.blk t3 G3 scope ce fp) rfl rfl rfl hc i [] t5 _ G5 (fun _ _ => False) I5 fB z5 halt) fun r t6 a6 => ?_
      obtain ⟨er, I6⟩ := a6
      subst er
      have back : Inv X pins σ G5 t6 := I3.call' (ch := fp) I6.os I6.base I6.hok I6.bare (fun b hb => let z := (fz3 b hb).1; ⟨z.2.2.2.1, z.2.1, z.2.2.2.2.1, z.2.2.2.2.2⟩)
      have freeL : G5 t3.heap.objs.size = none := by rw [← cL]; exact I6.free
      obtain ⟨mm, ns6, _⟩ := I6.loc
      have ns7 : t6.heap.Ns t3.heap.objs.size mm := by rw [← cL]; exact ns6
      obtain ⟨f0, f1, f2, f3, f4, f5⟩ := I3.fpOk (Nat.le_refl _) freeL
      exact ⟨mm, ns7, fun h2 sb => ⟨.ref D, G5, back.turned (t' := t6.toks) (fun b o hb e => (sb.2 b hb).trans e) f0 f1 f3 f4 f5, rfl, res⟩⟩
    | inr more =>
      obtain ⟨goes, Nx, hNx, step⟩ := more
      refine thnF (walk.item (X.blk t3 G3 scope ce fp) rfl rfl rfl hc i [] t5 _ G5 (fun _ _ => False) I5 fB z5 goes) fun r t6 a6 => ?_
      obtain ⟨u, er, a6⟩ := a6
      subst er
      refine thnF a6 fun _ t7 a7 => ?_
      obtain ⟨x, G7, I7, rx, yx, z7, n7⟩ := a7
      have J7 := I7.pinned (fpB I7 n7) (walk.obj _ _ z7)
      refine thnF (pg.run _ t7 _ G7 x u _ J7 rx (step x G7 yx)) fun _ t8 a8 => ?_
      obtain ⟨τ, G8, I8, same8, q8⟩ := a8
      -- what a turn leaves
      have leave : ∀ {t : Shared} {G : Hp}, Inv (X.blk t3 G3 scope ce fp) ([] ++ pinsAt fp t7.heap) τ G t → Nx G → ∃ m', m' < m ∧ ∃ j G', Inv (X.blk t3 G3 scope ce fp) [] (wipe σ (own.map (·.2))) G' t ∧ tn j t.heap ∧ (∀ b ∈ fp, G' b = none) ∧ W j m' G' := by
        intro t G Jt nx
        obtain ⟨m', lt, w'⟩ := hNx G nx
        have held : ∀ b ∈ fp, ∀ o, t7.heap.get? b = some o → t.heap.get? b = some o ∧ G b = none := by
          intro b hb o q
          have z := Jt.pin (b, o) (List.mem_append_right _ (List.mem_append_right _ (mem_pinsAt hb q)))
          exact ⟨z.1, z.2.1⟩
        have len : (wipe σ (own.map (·.2))).length = τ.length := by rw [← same8, wipe_length]
        refine ⟨m', lt, i + 1, G, (Jt.unpinned (pins := [])).weak len ?_, walk.keep _ _ _ z7 (fun b hb o q => (held b hb o q).1), fun b hb => ?_, w'⟩
        · intro j v q
          rw [← same8] at q
          exact (wipe_some q).1
        · have ⟨o, q, _⟩ := walk.obj _ _ z7 b hb
          exact (held b hb o q).2
      refine wpAny_pure ?_
      simp only [if_true]
      refine thnF (pk.run _ t8 τ G8 _ I8 q8) fun kv t9 a9 => ?_
      obtain ⟨y, G9, I9, ry, q9⟩ := a9
      refine thnF (pv.run _ t9 τ G9 _ I9 q9) fun vv t10 a10 => ?_
      obtain ⟨z, G10, I10, rz, kvs, ks, ta, ey, et, eD10, few, nx⟩ := a10
      subst ey
      cases (show kv = Value.ref ta from ry)
      exact dsetT (X := X.blk t3 G3 scope ce fp) hu I10 eD10 few et rz fun t11 I11 => leave I11 nx
  exact codeAny_compStart_dict loop (walk.self X.A 0 _ _ _ z4 loop)
end KX

end
section
set_option Elab.async false
set_option linter.all false
set_option maxRecDepth 100000
/-! tables of sets up to 2048 slots: every slot is met in time -/
namespace BT
open PySem PySem.Spec PyProof.Rows L2
def Big (m : Nat) : Prop := m = 7 ∨ m = 31 ∨ m = 127 ∨ m = 511 ∨ m = 2047
/-- the slots of the first n steps, as the bits of a number -/
def bitsOf (m : Nat) : Nat → Nat → Nat → Nat
  | 0, _, acc => acc
  | n + 1, x, acc => bitsOf m n ((x * 5 + 1) % (m + 1)) (acc ||| 1 <<< x)
def lastOf (m : Nat) : Nat → Nat → Nat
  | 0, x => x
  | n + 1, x => lastOf m n ((x * 5 + 1) % (m + 1))
theorem one_step (m x : Nat) : ∀ k, lcgI m ((x * 5 + 1) % (m + 1)) k = lcgI m x (k + 1)
  | 0 => rfl
  | k + 1 => by
    show (lcgI m ((x * 5 + 1) % (m + 1)) k * 5 + 1) % (m + 1) = (lcgI m x (k + 1) * 5 + 1) % (m + 1)
    rw [one_step m x k]
theorem lastOf_eq (m : Nat) : ∀ n x, lastOf m n x = lcgI m x n
  | 0, _ => rfl
  | n + 1, x => by
    show lastOf m n ((x * 5 + 1) % (m + 1)) = _
    rw [lastOf_eq m n, one_step]
theorem bit_met (m j : Nat) : ∀ n x acc, (bitsOf m n x acc).testBit j = true → acc.testBit j = true ∨ ∃ k, k < n ∧ lcgI m x k = j
  | 0, _, _, h => .inl h
  | n + 1, x, acc, h => by
    rcases bit_met m j n _ _ h with z | ⟨k, hk, e⟩
    · rw [Nat.testBit_or, Bool.or_eq_true] at z
      rcases z with z | z
      · exact .inl z
      · refine .inr ⟨0, Nat.succ_pos _, ?_⟩
        show x = j
        rw [Nat.shiftLeft_eq, Nat.one_mul, Nat.testBit_two_pow] at z
        exact of_decide_eq_true z
    · exact .inr ⟨k + 1, Nat.succ_lt_succ hk, by rw [← one_step]; exact e⟩
theorem all7 : bitsOf 7 8 0 0 = 2 ^ 8 - 1 ∧ lastOf 7 8 0 = 0 := by decide +kernel
theorem all31 : bitsOf 31 32 0 0 = 2 ^ 32 - 1 ∧ lastOf 31 32 0 = 0 := by decide +kernel
theorem all127 : bitsOf 127 128 0 0 = 2 ^ 128 - 1 ∧ lastOf 127 128 0 = 0 := by decide +kernel
theorem all511 : bitsOf 511 512 0 0 = 2 ^ 512 - 1 ∧ lastOf 511 512 0 = 0 := by decide +kernel
theorem all2047 : bitsOf 2047 2048 0 0 = 2 ^ 2048 - 1 ∧ lastOf 2047 2048 0 = 0 := by decide +kernel
theorem Big.all {m : Nat} (h : Big m) : bitsOf m (m + 1) 0 0 = 2 ^ (m + 1) - 1 ∧ lastOf m (m + 1) 0 = 0 := by
  rcases h with e | e | e | e | e <;> subst e
  · exact all7
  · exact all31
  · exact all127
  · exact all511
  · exact all2047
theorem Big.odd {m : Nat} (h : Big m) : m % 2 = 1 := by
  rcases h with e | e | e | e | e <;> subst e <;> rfl
theorem Big.le {m : Nat} (h : Big m) : m ≤ 2047 := by
  rcases h with e | e | e | e | e <;> omega
/-- from 0 on, each slot within a round -/
theorem Big.from0 {m : Nat} (hm : Big m) {j : Nat} (hj : j ≤ m) : ∃ k, k ≤ m ∧ lcgI m 0 k = j := by
  have h : (bitsOf m (m + 1) 0 0).testBit j = true := by
    rw [hm.all.1, Nat.testBit_two_pow_sub_one]
    exact decide_eq_true (Nat.lt_succ_of_le hj)
  rcases bit_met m j _ _ _ h with z | ⟨k, hk, e⟩
  · rw [Nat.zero_testBit] at z
    cases z
  · exact ⟨k, Nat.le_of_lt_succ hk, e⟩
theorem lcgI_add (m x a : Nat) : ∀ k, lcgI m (lcgI m x a) k = lcgI m x (a + k)
  | 0 => rfl
  | k + 1 => by
    show (lcgI m (lcgI m x a) k * 5 + 1) % (m + 1) = (lcgI m x (a + k) * 5 + 1) % (m + 1)
    rw [lcgI_add m x a k]
theorem Big.from {m : Nat} (hm : Big m) {i j : Nat} (hi : i ≤ m) (hj : j ≤ m) : ∃ k, k ≤ m ∧ lcgI m i k = j := by
  obtain ⟨a, ha, ea⟩ := hm.from0 hi
  obtain ⟨b, hb, eb⟩ := hm.from0 hj
  have round : lcgI m 0 (m + 1) = 0 := by rw [← lastOf_eq]; exact hm.all.2
  subst ea
  by_cases c : a ≤ b
  · exact ⟨b - a, by omega, by rw [lcgI_add, Nat.add_sub_cancel' c]; exact eb⟩
  · refine ⟨m + 1 - a + b, by omega, ?_⟩
    have e : a + (m + 1 - a + b) = m + 1 + b := by omega
    rw [lcgI_add, e, ← lcgI_add, round]
    exact eb
/-- each slot begins a run -/
theorem Big.runs {m : Nat} (hm : Big m) (h : Int) {j : Nat} (hj : j ≤ m) : ∃ n, n ≤ m + 12 ∧ runI m (SetTable.bits h) n = j := by
  obtain ⟨k, hk, e⟩ := hm.from (runI_le m (SetTable.bits h) 12) hj
  exact ⟨12 + k, by omega, (runI_tail (bits_lt h) k).trans e⟩
theorem Big.meets {m : Nat} (hm : Big m) (h : Int) {j : Nat} (hj : j ≤ m) : ∃ k, k < 10 * SetTable.turns m ∧ way m h k = j := by
  obtain ⟨n, hn, e⟩ := hm.runs h hj
  obtain ⟨k, hk, e2⟩ := run_nth m (SetTable.bits h) n
  have t : SetTable.turns m = m + 15 := rfl
  exact ⟨k, by omega, (congrArg SetTable.Probe.j e2).trans e⟩
/-- no slot beyond the table -/
theorem inside (m : Nat) (h : Int) (k : Nat) : way m h k ≤ m := by
  have hi : SetTable.bits h % (m + 1) ≤ m := Nat.le_of_lt_succ (Nat.mod_lt _ (Nat.succ_pos _))
  have z := nth_in (m := m) k (runAt m (SetTable.bits h % (m + 1)) (SetTable.bits h)) (by
    have r := runEnd_bd hi
    show SetTable.bits h % (m + 1) + (SetTable.runEnd m (SetTable.bits h % (m + 1)) - SetTable.bits h % (m + 1)) ≤ m
    omega)
  exact Nat.le_trans (Nat.le_add_right _ _) z
/-- the slot j is met by h after taken slots alone -/
def Lies (m : Nat) (S : Nat → Prop) (h : Int) (j : Nat) : Prop := ∃ K, way m h K = j ∧ ∀ k, k < K → S (way m h k)
theorem Lies.mono {m : Nat} {S S' : Nat → Prop} {h : Int} {j : Nat} (l : Lies m S h j) (up : ∀ x, S x → S' x) : Lies m S' h j := by
  obtain ⟨K, e, b⟩ := l
  exact ⟨K, e, fun k hk => up _ (b k hk)⟩
/-- where a slot is free, the way of h comes to a free one in time -/
theorem Big.first {m : Nat} (hm : Big m) (S : Nat → Prop) (h : Int) {N k0 : Nat} (h0 : k0 ≤ N) (free : ¬ S (way m h k0)) : ∃ K, K ≤ N ∧ ¬ S (way m h K) ∧ ∀ k, k < K → S (way m h k) := by
  obtain ⟨K, h1, h2, h3⟩ := st_least (p := fun k => ¬ S (way m h k)) k0 free
  exact ⟨K, Nat.le_trans h1 h0, h2, fun k hk => Classical.byContradiction (h3 k hk)⟩
theorem short {m n : Nat} {f : Nat → Nat} {S : Nat → Prop} (hS : ∀ j, j ≤ m → S j → f j < n) (inj : ∀ i j, i ≤ m → j ≤ m → S i → S j → f i = f j → i = j) (hn : n ≤ m) : ∃ j, j ≤ m ∧ ¬ S j := by
  refine Classical.byContradiction fun no => ?_
  have all : ∀ j, j ≤ m → S j := fun j hj => Classical.byContradiction fun c => no ⟨j, hj, c⟩
  have nd : ((List.range (m + 1)).map f).Nodup := by
    refine List.pairwise_map.mpr (List.Pairwise.imp_of_mem (fun {a b} ha hb hne e => hne ?_) (List.nodup_range (n := m + 1)))
    have ha := Nat.le_of_lt_succ (List.mem_range.mp ha)
    have hb := Nat.le_of_lt_succ (List.mem_range.mp hb)
    exact inj a b ha hb (all a ha) (all b hb) e
  have z := nat_nodup_len _ (List.range n) nd fun x hx => by
    obtain ⟨j, hj, rfl⟩ := List.mem_map.mp hx
    have hj := Nat.le_of_lt_succ (List.mem_range.mp hj)
    exact List.mem_range.mpr (hS j hj (all j hj))
  rw [List.length_map, List.length_range, List.length_range] at z
  omega
end BT

end
section
set_option Elab.async false
set_option linter.all false
set_option maxRecDepth 100000
/-! a table in which each hash is found again on its way -/
namespace BT
open PySem PySem.Spec PyProof.Rows L2
structure Tab (t : SetTable) (hs : List Int) : Prop where
  ris : Ris t.place.toList
  dm : t.dummies = #[]
  num : t.place.size = hs.length
  big : Big t.mask
  le : ∀ x ∈ t.place.toList, x ≤ t.mask
  lies : ∀ q ∈ hs.zip t.place.toList, Lies t.mask (· ∈ t.place.toList) q.1 q.2
theorem Tab.len {t : SetTable} {hs : List Int} (T : Tab t hs) : t.place.toList.length = hs.length := T.num
theorem Tab.empty {t : SetTable} (h1 : t.mask = 7) (h2 : t.place = #[]) (h3 : t.dummies = #[]) : Tab t [] where
  ris := by rw [h2]; exact List.Pairwise.nil
  dm := h3
  num := by rw [h2] <;> rfl
  big := .inl h1
  le := fun x hx => by rw [h2] at hx; cases hx
  lies := fun q hq => by rw [List.zip_nil_left] at hq; cases hq
/-- a free slot on the way of any hash -/
theorem Tab.free {t : SetTable} {hs : List Int} (T : Tab t hs) (room : hs.length ≤ t.mask) (h : Int) :
    ∃ K, K < 10 * SetTable.turns t.mask ∧ way t.mask h K ∉ t.place.toList ∧ ∀ k, k < K → way t.mask h k ∈ t.place.toList := by
  obtain ⟨j, hj, no⟩ := st_missing t.place.toList (t.mask + 1) (by rw [T.len]; omega)
  obtain ⟨k0, hk0, e⟩ := T.big.meets h (Nat.le_of_lt_succ hj)
  obtain ⟨K, a, b, c⟩ := T.big.first (· ∈ t.place.toList) h (Nat.le_refl k0) (by show ¬ way t.mask h k0 ∈ _; rw [e]; exact no)
  exact ⟨K, Nat.lt_of_le_of_lt a hk0, b, c⟩
/-- what has the hash lies before the free slot -/
theorem Tab.before {t : SetTable} {hs : List Int} (T : Tab t hs) {h : Int} {K i : Nat} (no : way t.mask h K ∉ t.place.toList) (hi : hs[i]? = some h) : ∃ k, k < K ∧ t.place.toList[i]? = some (way t.mask h k) := by
  have lt : i < t.place.toList.length := by rw [T.len]; exact (List.getElem?_eq_some_iff.mp hi).1
  have hj := List.getElem?_eq_getElem lt
  obtain ⟨k, e, b⟩ := T.lies (h, t.place.toList[i]) (List.mem_of_getElem? (i := i) (List.getElem?_zip_eq_some.mpr ⟨hi, hj⟩))
  refine ⟨k, Nat.lt_of_not_le fun c => ?_, by rw [hj, e]⟩
  rcases Nat.lt_or_eq_of_le c with c | c
  · exact no (b K c)
  · rw [c, e] at no
    exact no (List.getElem_mem lt)
theorem zip_put {α β : Type} {l : List α} {m : List β} (e : l.length = m.length) (p : Nat) (x : α) (y : β) :
    (l.take p ++ x :: l.drop p).zip (m.take p ++ y :: m.drop p) = (l.zip m).take p ++ (x, y) :: (l.zip m).drop p := by
  rw [List.zip_append (by rw [List.length_take, List.length_take, e]), List.zip_cons_cons]
  show List.zipWith Prod.mk _ _ ++ (x, y) :: List.zipWith Prod.mk _ _ = (List.zipWith Prod.mk l m).take p ++ (x, y) :: (List.zipWith Prod.mk l m).drop p
  rw [List.take_zipWith, List.drop_zipWith]
/-- one more in its slot -/
theorem Tab.put {t : SetTable} {hs : List Int} (T : Tab t hs) {h : Int} {K p : Nat} (no : way t.mask h K ∉ t.place.toList) (occ : ∀ k, k < K → way t.mask h k ∈ t.place.toList) (hp : SetTable.below t.place (way t.mask h K) = p) :
    p ≤ hs.length ∧ Tab (t.put (way t.mask h K)).1 (hs.take p ++ h :: hs.drop p) := by
  have cut := (below_cut T.ris (way t.mask h K)).1
  have hl := put_place t (way t.mask h K)
  rw [hp] at cut hl
  have pl : p ≤ hs.length := by rw [← T.num]; exact cut
  have pl2 : p ≤ t.place.toList.length := cut
  have up : ∀ x, x ∈ t.place.toList → x ∈ (t.put (way t.mask h K)).1.place.toList := fun x hx => by
    rw [hl]; exact mem_ins.2 (.inr hx)
  refine ⟨pl, ris_insert T.ris (fun e => no (List.mem_of_getElem? (by rw [Array.getElem?_toList]; exact e))), put_dm T.dm _, ?_, T.big, fun x hx => ?_, fun q hq => ?_⟩
  · have z := congrArg List.length hl
    rw [len_ins _ pl2, T.len] at z
    rw [len_ins _ pl]
    exact z
  · rw [hl] at hx
    rcases mem_ins.1 hx with e | hx
    · rw [e]; exact inside _ _ _
    · exact T.le x hx
  · rw [hl, zip_put T.len.symm] at hq
    rcases mem_ins.1 hq with e | hq
    · subst e
      exact ⟨K, rfl, fun k hk => up _ (occ k hk)⟩
    · exact (T.lies q hq).mono up
theorem put_fill {t : SetTable} {hs : List Int} (T : Tab t hs) (j : Nat) : (t.put j).1.fill = (t.put j).1.place.size := by
  show (t.put j).1.place.size + (t.put j).1.dummies.size = _
  rw [put_dm T.dm]
  exact Nat.add_zero _

/-! ### laid anew -/
abbrev Taken (owner : Array (Option Nat)) (x : Nat) : Prop := oAt owner x ≠ none
/-- the seats of the hashes that are laid -/
structure Seats (m : Nat) (done : List Int) (owner : Array (Option Nat)) : Prop where
  size : owner.size = m + 1
  who : ∀ j k, j ≤ m → oAt owner j = some k → ∃ h, done[k]? = some h ∧ Lies m (Taken owner) h j
  one : ∀ i j k, i ≤ m → j ≤ m → oAt owner i = some k → oAt owner j = some k → i = j
  all : ∀ k, k < done.length → ∃ j, j ≤ m ∧ oAt owner j = some k
theorem Seats.start (m : Nat) : Seats m [] (Array.replicate (m + 1) none) where
  size := Array.size_replicate
  who := fun j k hj e => absurd (oAt_init hj) (by rw [e]; exact fun z => nomatch z)
  one := fun i j k hi _ e _ => absurd (oAt_init hi) (by rw [e]; exact fun z => nomatch z)
  all := fun k hk => absurd hk (Nat.not_lt_zero k)
theorem Seats.room {m : Nat} {done : List Int} {owner : Array (Option Nat)} (W : Seats m done owner) (hn : done.length ≤ m) : ∃ j, j ≤ m ∧ oAt owner j = none := by
  refine (short (f := fun j => (oAt owner j).getD 0) (S := Taken owner) (n := done.length) (fun j hj t => ?_) (fun i j hi hj a b e => ?_) hn).elim fun j z => ⟨j, z.1, Classical.byContradiction z.2⟩
  · cases z : oAt owner j with
    | none => exact absurd z t
    | some k =>
      obtain ⟨h, e, _⟩ := W.who j k hj z
      exact (List.getElem?_eq_some_iff.mp e).1
  · cases y : oAt owner i with
    | none => exact absurd y a
    | some k =>
      cases z : oAt owner j with
      | none => exact absurd z b
      | some l =>
        rw [y, z] at e
        have e : k = l := e
        subst e
        exact W.one i j k hi hj y z
theorem isNone_of {owner : Array (Option Nat)} {x : Nat} (h : oAt owner x = none) : (oAt owner x).isNone = true := by rw [h] <;> rfl
theorem isNone_no {owner : Array (Option Nat)} {x : Nat} (h : Taken owner x) : (oAt owner x).isNone = false := by
  cases z : oAt owner x with
  | none => exact absurd z h
  | some _ => rfl
/-- the program's own search for a seat -/
theorem Big.seat {m : Nat} (hm : Big m) (owner : Array (Option Nat)) (h : Int) {j : Nat} (hj : j ≤ m) (free : oAt owner j = none) :
    ∃ K, SetTable.layClean.free m owner (SetTable.turns m) (SetTable.bits h % (m + 1)) (SetTable.bits h) = some (way m h K) ∧ oAt owner (way m h K) = none ∧ ∀ k, k < K → Taken owner (way m h k) := by
  obtain ⟨n, hn, e⟩ := hm.runs h hj
  have at0 : way m h (off m (SetTable.bits h % (m + 1)) (SetTable.bits h) n) = j := by
    refine (congrArg SetTable.Probe.j (nth_off m n _ _)).trans ?_
    rw [itL_run]
    exact e
  obtain ⟨K, a, b, c⟩ := hm.first (Taken owner) h (Nat.le_refl (off m (SetTable.bits h % (m + 1)) (SetTable.bits h) n)) (by rw [at0]; exact fun z => z free)
  have b := Classical.byContradiction b
  have t : SetTable.turns m = m + 15 := rfl
  exact ⟨K, free_spec m owner (SetTable.turns m) n _ _ K (by omega) a (fun k hk => isNone_no (c k hk)) (isNone_of b), b, c⟩
theorem Seats.next {m : Nat} (hm : Big m) {done : List Int} {owner : Array (Option Nat)} (W : Seats m done owner) (hn : done.length ≤ m) (h : Int) :
    ∃ j, SetTable.layClean.free m owner (SetTable.turns m) (SetTable.bits h % (m + 1)) (SetTable.bits h) = some j ∧ Seats m (done ++ [h]) (owner.setIfInBounds j (some done.length)) := by
  obtain ⟨j0, hj0, free⟩ := W.room hn
  obtain ⟨K, e, no, occ⟩ := hm.seat owner h hj0 free
  have hb : way m h K < owner.size := by rw [W.size]; exact Nat.lt_succ_of_le (inside m h K)
  refine ⟨way m h K, e, ?_⟩
  generalize ej : way m h K = j at no hb e ⊢
  have me := oAt_set_self (some done.length) hb
  have other : ∀ {i : Nat}, i ≠ j → oAt (owner.setIfInBounds j (some done.length)) i = oAt owner i := fun c => oAt_set_ne _ c
  have up : ∀ x, Taken owner x → Taken (owner.setIfInBounds j (some done.length)) x := fun x hx => by
    by_cases c : x = j
    · show oAt _ x ≠ none
      rw [c, me]
      exact fun z => nomatch z
    · show oAt _ x ≠ none
      rw [other c]
      exact hx
  have old : ∀ {i k : Nat}, i ≤ m → oAt owner i = some k → k < done.length := fun hi z => by
    obtain ⟨_, y, _⟩ := W.who _ _ hi z
    exact (List.getElem?_eq_some_iff.mp y).1
  refine ⟨by rw [Array.size_setIfInBounds]; exact W.size, fun i k hi z => ?_, fun i l k hi hl y z => ?_, fun k hk => ?_⟩
  · by_cases c : i = j
    · rw [c, me] at z
      obtain rfl := Option.some.inj z
      exact ⟨h, by rw [List.getElem?_append_right (Nat.le_refl _), Nat.sub_self] <;> rfl, K, ej.trans c.symm, fun k hk => up _ (occ k hk)⟩
    · rw [other c] at z
      obtain ⟨g, y, l⟩ := W.who i k hi z
      exact ⟨g, by rw [List.getElem?_append_left (old hi z)]; exact y, l.mono up⟩
  · by_cases c : i = j
    · by_cases d : l = j
      · rw [c, d]
      · rw [c, me] at y
        rw [other d] at z
        obtain rfl := Option.some.inj y
        exact absurd (old hl z) (Nat.lt_irrefl _)
    · rw [other c] at y
      by_cases d : l = j
      · rw [d, me] at z
        obtain rfl := Option.some.inj z
        exact absurd (old hi y) (Nat.lt_irrefl _)
      · rw [other d] at z
        exact W.one i l k hi hl y z
  · rw [List.length_append, List.length_singleton] at hk
    by_cases c : k = done.length
    · rw [c]
      exact ⟨j, by rw [← ej]; exact inside m h K, me⟩
    · obtain ⟨i, hi, y⟩ := W.all k (by omega)
      refine ⟨i, hi, ?_⟩
      rw [other fun d => ?_]
      · exact y
      · rw [d, no] at y
        cases y
theorem Seats.rest {m : Nat} (hm : Big m) : ∀ (more done : List Int) (owner : Array (Option Nat)), Seats m done owner → done.length + more.length ≤ m →
    ∃ o, more.foldl (stepF m) (some (owner, done.length)) = some (o, done.length + more.length) ∧ Seats m (done ++ more) o
  | [], done, owner, W, _ => ⟨owner, rfl, by rw [List.append_nil]; exact W⟩
  | h :: more, done, owner, W, hl => by
    rw [List.length_cons] at hl
    obtain ⟨j, e, W1⟩ := W.next hm (by omega) h
    have l1 : (done ++ [h]).length = done.length + 1 := List.length_append
    obtain ⟨o, f, W2⟩ := Seats.rest hm more (done ++ [h]) _ W1 (by omega)
    rw [List.append_assoc] at W2
    rw [l1] at f
    refine ⟨o, ?_, W2⟩
    rw [List.foldl_cons, stepF_some e, f, List.length_cons]
    congr 2
    omega
theorem Big.clean {m : Nat} (hm : Big m) {hs : Array Int} (hn : hs.size ≤ m) : ∃ o, SetTable.layClean m hs = some o ∧ Seats m hs.toList o := by
  obtain ⟨o, f, W⟩ := Seats.rest hm hs.toList [] _ (Seats.start m) (by rw [List.length_nil, Nat.zero_add]; exact hn)
  refine ⟨o, ?_, W⟩
  rw [layClean_eq]
  exact congrArg (Option.map Prod.fst) f
/-- the table laid anew -/
theorem Big.again {M : Nat} (hM : Big M) (t : SetTable) {hs : Array Int} {wanted : Nat} (hw : SetTable.sizeAbove wanted - 1 = M) (hn : hs.size ≤ M) :
    ∃ t' order, t.relaid hs wanted = some (t', order) ∧ order.toList.Perm (List.range hs.size) ∧ Tab t' (order.toList.map fun i => hs.getD i 0) ∧ t'.mask = M ∧ t'.led = t.led ∧ t'.plain = t.plain := by
  obtain ⟨o, e, W⟩ := hM.clean hn
  have rs := ris_live (fun j => o.getD j none) (List.range (M + 1)) List.pairwise_lt_range
  have ml : ∀ {j k : Nat}, (j, k) ∈ liveOf M o ↔ j ≤ M ∧ oAt o j = some k := mem_live W.size
  have ndl : (liveOf M o).Nodup := List.Pairwise.of_map Prod.fst (fun a b (hne : a.1 < b.1) q => by rw [q] at hne; exact Nat.lt_irrefl _ hne) rs.1
  refine ⟨tabOf t M o, ((liveOf M o).map (·.2)).toArray, ?_, ?_, ⟨rs.1, rfl, ?_, hM, fun x hx => Nat.le_of_lt_succ (List.mem_range.mp (rs.2 x hx)), fun q hq => ?_⟩, rfl, rfl, rfl⟩
  · rw [relaid_eq, hw, e] <;> rfl
  · refine (List.perm_ext_iff_of_nodup ?_ List.nodup_range).mpr fun k => ?_
    · refine List.pairwise_map.mpr (ndl.imp_of_mem fun {a b} ha hb hne q => hne ?_)
      obtain ⟨a1, a2⟩ := ml.1 ha
      obtain ⟨b1, b2⟩ := ml.1 hb
      exact Prod.ext (W.one _ _ _ a1 b1 a2 (by rw [b2, q])) q
    · rw [List.mem_range]
      constructor
      · intro hk
        obtain ⟨⟨j, l⟩, hq, rfl⟩ := List.mem_map.mp hk
        obtain ⟨a, b⟩ := ml.1 hq
        obtain ⟨_, y, _⟩ := W.who _ _ a b
        exact (List.getElem?_eq_some_iff.mp y).1
      · intro hk
        obtain ⟨j, a, b⟩ := W.all k hk
        exact List.mem_map.mpr ⟨(j, k), ml.2 ⟨a, b⟩, rfl⟩
  · show ((liveOf M o).map (·.1)).toArray.size = (((liveOf M o).map (·.2)).map fun i => hs.getD i 0).length
    rw [List.size_toArray, List.length_map, List.length_map, List.length_map]
  · have hq : q ∈ (((liveOf M o).map (·.2)).map fun i => hs.getD i 0).zip ((liveOf M o).map (·.1)) := hq
    rw [List.map_map, List.zip_map', List.mem_map] at hq
    obtain ⟨⟨j, k⟩, hm, rfl⟩ := hq
    obtain ⟨a, b⟩ := ml.1 hm
    obtain ⟨h, y, l⟩ := W.who j k a b
    have eh : hs.getD k 0 = h := by
      rw [Array.getD_eq_getD_getElem?, ← Array.getElem?_toList, y] <;> rfl
    show Lies M (· ∈ (liveOf M o).map (·.1)) (hs.getD k 0) j
    rw [eh]
    obtain ⟨K, e1, occ⟩ := l
    refine ⟨K, e1, fun k' hk => ?_⟩
    cases z : oAt o (way M h k') with
    | none => exact absurd z (occ k' hk)
    | some l => exact List.mem_map.mpr ⟨(_, l), ml.2 ⟨inside M h k', z⟩, rfl⟩
end BT

end
section
set_option Elab.async false
set_option linter.all false
set_option maxRecDepth 100000
/-! sets of tuples, of up to 1199 of them: search, add, lay anew -/
namespace BT
open PySem PySem.Spec PyProof.Rows L2
abbrev hashes (P : Program) (w : World) (L : List (Addr × List Int)) : List Int := L.map fun p => thash P w p.2
/-- a set of tuples of ints, as it stands in the heap -/
structure Holds (P : Program) (w : World) (h : Heap) (a : Addr) (L : List (Addr × List Int)) (es : Array (Int × Value)) (ep : Nat) (t : SetTable) : Prop where
  obj : ∃ o, h.get? a = some o ∧ o.ExactSet ∧ o.data = .set es ep t
  rows : es.toList = rowsOf P w L
  tab : Tab t (hashes P w L)
  nd : (L.map (·.2)).Nodup
  tup : ∀ p ∈ L, IsT P w h p.2 p.1
  plain : t.plain = true
  led : w.params.followText "set-order" = true ∨ t.led = true
  room : L.length * 5 < t.mask * 3
section
variable {P : Program} {w : World} {A : Around} {E : Value → Shared → Prop} {s : Shared} {a : Addr} {L : List (Addr × List Int)} {es : Array (Int × Value)} {ep : Nat} {t : SetTable}
theorem rows_size (h : es.toList = rowsOf P w L) : es.size = L.length := by
  have z := congrArg List.length h
  rw [show (rowsOf P w L).length = L.length from List.length_map ..] at z
  exact z
theorem fits_of {n : Nat} {hs : List Int} (T : Tab t hs) (e : n = hs.length) (r : n ≤ t.mask) : t.fits n = true := by
  have f : t.fill = t.place.size := by
    show t.place.size + t.dummies.size = _
    rw [T.dm]
    exact Nat.add_zero _
  have z := T.num
  unfold SetTable.fits
  rw [f, Bool.and_eq_true]
  exact ⟨beq_iff_eq.mpr (by omega), decide_eq_true (by omega)⟩
theorem Holds.fit (R : Holds P w s.heap a L es ep t) : t.fits es.size = true := by
  have z := rows_size R.rows
  have r := R.room
  exact fits_of R.tab (by rw [z, List.length_map]) (by omega)
theorem Holds.entry (R : Holds P w s.heap a L es ep t) {i : Nat} {p : Addr × List Int} (h : L[i]? = some p) : es[i]? = some (thash P w p.2, Value.ref p.1) := by
  rw [← Array.getElem?_toList, R.rows]
  exact (List.getElem?_map ..).trans (by rw [h] <;> rfl)
theorem Holds.odd (R : Holds P w s.heap a L es ep t) : ¬ t.gaveWay = true := by
  unfold SetTable.gaveWay
  rw [R.tab.big.odd]
  decide
/-- the first probe of a hash -/
abbrev base (t : SetTable) (h : Int) : SetTable.Probe := runAt t.mask (SetTable.bits h % (t.mask + 1)) (SetTable.bits h)
theorem no_dummy (m : Nat) : ∀ (n : Nat) (p : SetTable.Probe), p.dummy = none → (nth m p n).dummy = none
  | 0, _, h => h
  | n + 1, p, h => no_dummy m n _ (by unfold adv; split <;> exact h)
/-- the search of k, from step c of its way: what stands ahead of c has another key -/
theorem search_on (R : Holds P w s.heap a L es ep t) {x : Addr} {k : List Int} (hx : IsT P w s.heap k x) (hu : A.units < cLine) {K : Nat} (bound : K < 10 * SetTable.turns t.mask)
    (no : way t.mask (thash P w k) K ∉ t.place.toList) (occ : ∀ c, c < K → way t.mask (thash P w k) c ∈ t.place.toList) {Q : SetFound → Shared → Prop}
    (found : k ∈ L.map (·.2) → Q (.there none) s) (free : k ∉ L.map (·.2) → Q (.free (way t.mask (thash P w k) K) false) s) :
    ∀ (f c : Nat) (stand : Option SetTable.Probe), stand.getD (t.probeStart (thash P w k)) = nth t.mask (base t (thash P w k)) c → c ≤ K → K < f + c →
      (∀ (i : Nat) p c', L[i]? = some p → p.2 = k → c' < c → t.place.toList[i]? ≠ some (way t.mask (thash P w k) c')) →
      wpAny (model P w) A (setSearchFrom a (.ref x) (thash P w k) true f stand) Q E s := by
  intro f
  induction f with
  | zero => intro c stand _ h1 h2; exact absurd h2 (by omega)
  | succ f ih =>
    intro c stand here hc hf past
    obtain ⟨o, ho, ex, hd⟩ := R.obj
    have size := rows_size R.rows
    have steps : ∀ q, nth t.mask (nth t.mask (base t (thash P w k)) c) q = nth t.mask (base t (thash P w k)) (c + q) := fun q => (nth_add t.mask c _ q).symm
    have hashOf : ∀ {i : Nat} {p : Addr × List Int}, L[i]? = some p → (es[i]?.map (·.1)).getD 0 = thash P w p.2 := fun hp => by rw [R.entry hp] <;> rfl
    have spec := go_spec t R.tab.ris R.tab.dm (fun i => (es[i]?.map (·.1)).getD 0) (thash P w k) (10 * SetTable.turns t.mask) (K - c) (nth t.mask (base t (thash P w k)) c) (no_dummy _ c _ rfl) (by omega)
      (fun q hq => by rw [steps]; exact occ (c + q) (by omega)) (by rw [steps, Nat.add_sub_cancel' hc]; exact no)
    rw [setSearchFrom_succ]
    refine wpAny_bind (wpAny_setState_of ho hd R.fit ?_)
    dsimp only
    refine wp_if_neg R.odd ?_
    try refine wpAny_bind (wpAny_pure ?_)
    rw [here]
    rcases spec with ⟨q, i, hq, hi, hh, skipped, met⟩ | ⟨skipped, met⟩
    · rw [steps] at hi met
      rw [steps] at met
      have met : t.probe (fun i => (es[i]?.map (·.1)).getD 0) (thash P w k) (nth t.mask (base t (thash P w k)) c) = some (.candidate (way t.mask (thash P w k) (c + q)) i (nth t.mask (base t (thash P w k)) (c + (q + 1)))) := met
      rw [met]
      dsimp only
      have lt : i < L.length := by
        have z := (List.getElem?_eq_some_iff.mp hi).1
        rw [R.tab.len, List.length_map] at z
        exact z
      have hp := List.getElem?_eq_getElem lt
      generalize L[i] = p at hp
      have hm := List.mem_of_getElem? hp
      have live : t.slot (way t.mask (thash P w k) (c + q)) = .live i := slot_live R.tab.ris hi
      have rest : wpAny (model P w) A (searchRest a (.ref x) (thash P w k) true f es t (way t.mask (thash P w k) (c + q)) i (nth t.mask (base t (thash P w k)) (c + (q + 1)))) Q E s := by
        unfold searchRest
        rw [R.entry hp]
        dsimp only
        refine wpAny_bind (wpAny_holding (wpAny_eqBool_tuple hu (R.tup p hm) hx ?_))
        refine wpAny_bind (wpAny_setState_of ho hd R.fit ?_)
        dsimp only
        by_cases same : p.2 = k
        · refine wp_if_pos (by rw [same]; simp) ?_
          exact wpAny_pure (found (List.mem_map.mpr ⟨p, hm, same⟩))
        · refine wp_if_neg (by simp [same]) ?_
          try refine wpAny_bind (wpAny_pure ?_)
          rw [L2.sameMem]
          dsimp only
          simp only [if_true, live, R.entry hp]
          refine wpAny_bind (wpAny_isSame_ref_self (wpAny_bind (wpAny_pure ?_)))
          simp only [if_true]
          refine wp_if_neg (by simp [same]) ?_
          refine ih (c + (q + 1)) _ rfl (by omega) (by omega) fun i0 p0 c' h0 hk lt' at' => ?_
          rcases Nat.lt_or_ge c' c with z | z
          · exact past i0 p0 c' h0 hk z at'
          · rcases Nat.lt_or_ge c' (c + q) with y | y
            · refine skipped (c' - c) i0 (by omega) (by rw [steps, Nat.add_sub_cancel' z]; exact at') ?_
              exact (hashOf h0).trans (congrArg (thash P w) hk)
            · have e : c' = c + q := by omega
              rw [e] at at'
              have l0 := slot_live R.tab.ris at'
              rw [live] at l0
              injection l0 with l0
              rw [← l0, hp] at h0
              exact same ((congrArg Prod.snd (Option.some.inj h0)).trans hk)
      by_cases hl : t.led = true
      · refine wp_if_neg (by simp [hl]) ?_
        try refine wpAny_bind (wpAny_pure ?_)
        exact rest
      · refine wp_if_pos (by simp [hl]) ?_
        refine wpAny_bind (seen_tup hx (fun y hy => ?_) ?_)
        · obtain ⟨e, he, rfl⟩ := List.mem_map.mp hy
          have he : e ∈ es.toList := by
            have z : e ∈ es ∧ e.1 = thash P w k := by simpa using he
            simpa using z.1
          rw [R.rows] at he
          obtain ⟨p2, hp2, rfl⟩ := List.mem_map.mp he
          exact ⟨p2.2, p2.1, rfl, R.tup p2 hp2⟩
        · refine wp_if_neg (by decide) ?_
          try refine wpAny_bind (wpAny_pure ?_)
          exact rest
    · rw [steps, Nat.add_sub_cancel' hc] at met
      have met : t.probe (fun i => (es[i]?.map (·.1)).getD 0) (thash P w k) (nth t.mask (base t (thash P w k)) c) = some (.empty (way t.mask (thash P w k) K) none) := met
      rw [met]
      dsimp only
      refine wpAny_pure (free fun hm => ?_)
      obtain ⟨p0, h0, hk⟩ := List.mem_map.mp hm
      obtain ⟨i0, h0⟩ := List.getElem?_of_mem h0
      obtain ⟨c', lt', at'⟩ := R.tab.before (h := thash P w k) (i := i0) no (by rw [List.getElem?_map, h0, ← hk] <;> rfl)
      rcases Nat.lt_or_ge c' c with z | z
      · exact past i0 p0 c' h0 hk z at'
      · refine skipped (c' - c) i0 (by omega) (by rw [steps, Nat.add_sub_cancel' z]; exact at') ?_
        exact (hashOf h0).trans (congrArg (thash P w) hk)
/-- the search that adding asks for -/
theorem search_all (R : Holds P w s.heap a L es ep t) {x : Addr} {k : List Int} (hx : IsT P w s.heap k x) (hu : A.units < cLine) {Q : SetFound → Shared → Prop}
    (found : k ∈ L.map (·.2) → Q (.there none) s)
    (free : ∀ K, k ∉ L.map (·.2) → way t.mask (thash P w k) K ∉ t.place.toList → (∀ c, c < K → way t.mask (thash P w k) c ∈ t.place.toList) → Q (.free (way t.mask (thash P w k) K) false) s) :
    wpAny (model P w) A (setSearch a (.ref x) (thash P w k) true) Q E s := by
  have room := R.room
  obtain ⟨K, bound, no, occ⟩ := R.tab.free (by rw [List.length_map]; omega) (thash P w k)
  have most := R.tab.big.le
  have turns : SetTable.turns t.mask = t.mask + 15 := rfl
  unfold setSearch
  exact search_on R hx hu bound no occ found (fun n => free K n no occ) 100000 0 none rfl (Nat.zero_le _) (by omega) fun i p c' _ _ z => absurd z (Nat.not_lt_zero _)

theorem up5 : SetTable.sizeAbove (SetTable.grown 5) = 31 + 1 := by decide +kernel
theorem up19 : SetTable.sizeAbove (SetTable.grown 19) = 127 + 1 := by decide +kernel
theorem up77 : SetTable.sizeAbove (SetTable.grown 77) = 511 + 1 := by decide +kernel
theorem up307 : SetTable.sizeAbove (SetTable.grown 307) = 2047 + 1 := by decide +kernel
/-- the size that comes when a table is too full -/
theorem Big.grows {m n : Nat} (hm : Big m) (room : n * 5 < m * 3) (full : (n + 1) * 5 ≥ m * 3) (few : n + 1 < 1200) :
    n + 1 ≤ m ∧ ∃ M, Big M ∧ SetTable.sizeAbove (SetTable.grown (n + 1)) = M + 1 ∧ (n + 1) * 5 < M * 3 := by
  rcases hm with e | e | e | e | e
  · have z : n = 4 := by omega
    subst z
    exact ⟨by omega, 31, .inr (.inl rfl), up5, by omega⟩
  · have z : n = 18 := by omega
    subst z
    exact ⟨by omega, 127, .inr (.inr (.inl rfl)), up19, by omega⟩
  · have z : n = 76 := by omega
    subst z
    exact ⟨by omega, 511, .inr (.inr (.inr (.inl rfl))), up77, by omega⟩
  · have z : n = 306 := by omega
    subst z
    exact ⟨by omega, 2047, .inr (.inr (.inr (.inr rfl))), up307, by omega⟩
  · omega
/-- laid anew, in a table with room -/
theorem relay_big {o : Obj} (ho : s.heap.get? a = some o) (ex : o.ExactSet) (hd : o.data = .set es ep t) (rows : es.toList = rowsOf P w L) (T : Tab t (hashes P w L)) (full : L.length ≤ t.mask)
    (nd : (L.map (·.2)).Nodup) (tup : ∀ p ∈ L, IsT P w s.heap p.2 p.1) (pl : t.plain = true) (ld : w.params.followText "set-order" = true ∨ t.led = true) {wanted M : Nat}
    (hM : Big M) (hw : SetTable.sizeAbove wanted = M + 1) (room : L.length * 5 < M * 3) {Q : Unit → Shared → Prop}
    (q : ∀ h' L' es' ep' t', Heap.SameBut a s.heap h' → Holds P w h' a L' es' ep' t' → L'.Perm L → Q () { s with heap := h' }) : wpAny (model P w) A (setRelay a wanted) Q E s := by
  have size := rows_size rows
  have most := hM.le
  obtain ⟨t', order, e, pm, T', em, el, ep'⟩ := hM.again t (hs := es.map (·.1)) (wanted := wanted) (by omega) (by rw [Array.size_map]; omega)
  rw [Array.size_map, size] at pm
  obtain ⟨L', r1, r2, r3⟩ := order_rows L es order rows pm
  rw [← r3] at T'
  have size' : (order.filterMap (es[·]?)).size = es.size := by rw [rows_size r1, r2.length_eq, size]
  rw [setRelay_eq]
  refine wpAny_bind (wpAny_setState_of ho hd (fits_of T (by rw [size, List.length_map]) (by omega)) ?_)
  dsimp only
  refine wp_if_neg (by rw [sizeLine_eq]; omega) ?_
  try refine wpAny_bind (wpAny_pure ?_)
  rw [e]
  dsimp only
  refine wpAny_bind ?_
  refine wp_if_neg (by rw [size']; simp) ?_
  try refine wpAny_bind (wpAny_pure ?_)
  refine wpAny_pure ?_
  dsimp only
  refine wpAny_storeSet_of ho hd ?_ (by rw [size', size, sizeLine_eq]; omega)
  have but : Heap.SameBut a s.heap (s.heap.update a (Obj.putSet (order.filterMap (es[·]?)) t')) := Heap.SameBut.update ..
  refine q _ L' _ (ep + 1) t' but ⟨⟨_, store_at ho hd, ⟨ex.1, ex.2.1, ex.2.2⟩, rfl⟩, r1, T', (r2.map (·.2)).nodup_iff.mpr nd, fun p hp => isT_same (tup p (r2.mem_iff.mp hp)) ho hd but, by rw [ep']; exact pl, by rw [el]; exact ld, ?_⟩ r2
  rw [r2.length_eq, em]
  exact room
/-- one is added, or stands there -/
theorem add_big (R : Holds P w s.heap a L es ep t) {x : Addr} {k : List Int} (hx : IsT P w s.heap k x) (hu : A.units < cLine) (few : L.length + 1 < 1200) {Q : Bool → Shared → Prop}
    (q : ∀ b h' L' es' ep' t', Heap.SameBut a s.heap h' → Holds P w h' a L' es' ep' t' → (k ∈ L.map (·.2) → L' = L) → (k ∉ L.map (·.2) → L'.Perm ((x, k) :: L)) → Q b { s with heap := h' }) :
    wpAny (model P w) A (setAddHashed a (.ref x) (thash P w k)) Q E s := by
  obtain ⟨o, ho, ex, hd⟩ := R.obj
  have size := rows_size R.rows
  have room := R.room
  unfold setAddHashed
  refine wpAny_holding ?_
  rw [show (100000 : Nat) = 99999 + 1 from rfl, setAddHashedIn_succ]
  refine wpAny_bind (wpAny_setState_of ho hd R.fit ?_)
  dsimp only
  refine wp_if_neg (by simp [byScan, Value.scannable]) ?_
  try refine wpAny_bind (wpAny_pure ?_)
  refine wpAny_bind (search_all R hx hu (fun hm => wpAny_pure (q false s.heap L es ep t (Heap.SameBut.refl a s.heap) R (fun _ => rfl) fun z => absurd hm z)) fun K hm no occ => ?_)
  dsimp only
  refine wpAny_bind (wpAny_setState_of ho hd R.fit ?_)
  dsimp only
  obtain ⟨p, hp⟩ : ∃ p, SetTable.below t.place (way t.mask (thash P w k) K) = p := ⟨_, rfl⟩
  obtain ⟨le, T⟩ := R.tab.put no occ hp
  have fill : (t.put (way t.mask (thash P w k) K)).1.fill = L.length + 1 := by
    have z := T.num
    rw [put_fill R.tab, z, len_ins _ le, List.length_map]
  have pos : (t.put (way t.mask (thash P w k) K)).2 = p := hp
  have pl : (t.put (way t.mask (thash P w k) K)).1.plain = true := R.plain
  have ld : w.params.followText "set-order" = true ∨ (t.put (way t.mask (thash P w k) K)).1.led = true := R.led
  have mk : (t.put (way t.mask (thash P w k) K)).1.mask = t.mask := rfl
  generalize t.put (way t.mask (thash P w k) K) = pt at T fill pos pl ld mk ⊢
  obtain ⟨t1, p1⟩ := pt
  dsimp only at T fill pos pl ld mk ⊢
  subst pos
  first
    | (refine wpAny_bind ?_; refine wp_if_pos pl ?_; refine hashBy_tup hx ?_)
    | refine wp_if_pos pl (wpAny_bind (hashBy_tup hx ?_))
  simp only [if_true]
  have rows1 : (SetTable.insertAt es p1 (thash P w k, Value.ref x)).toList = rowsOf P w (L.take p1 ++ (x, k) :: L.drop p1) := by
    rw [SetTable.toList_insertAt, rows_put, R.rows]
  have pm := put_perm L p1 (x, k)
  have T1 : Tab t1 (hashes P w (L.take p1 ++ (x, k) :: L.drop p1)) := by
    rw [show hashes P w (L.take p1 ++ (x, k) :: L.drop p1) = (hashes P w L).take p1 ++ thash P w k :: (hashes P w L).drop p1 by
      unfold hashes
      rw [List.map_append, List.map_cons, List.map_take, List.map_drop]]
    exact T
  generalize SetTable.insertAt es p1 (thash P w k, Value.ref x) = es1 at rows1 ⊢
  generalize L.take p1 ++ (x, k) :: L.drop p1 = L1 at pm rows1 T1
  have n1 : L1.length = L.length + 1 := pm.length_eq
  have size1 := rows_size rows1
  have nd1 : (L1.map (·.2)).Nodup := (pm.map (·.2)).nodup_iff.mpr (List.nodup_cons.mpr ⟨hm, R.nd⟩)
  refine wpAny_bind (wpAny_storeSet_of ho hd ?_ (by rw [size1, n1, sizeLine_eq]; omega))
  have but : Heap.SameBut a s.heap (s.heap.update a (Obj.putSet es1 t1)) := Heap.SameBut.update ..
  have ho1 := store_at (es' := es1) (t' := t1) ho hd
  generalize s.heap.update a (Obj.putSet es1 t1) = h1 at but ho1 ⊢
  have tup1 : ∀ p ∈ L1, IsT P w h1 p.2 p.1 := fun p hp => by
    rcases List.mem_cons.mp (pm.mem_iff.mp hp) with e | hp
    · rw [e]; exact isT_same hx ho hd but
    · exact isT_same (R.tup p hp) ho hd but
  have too : t1.tooFull = decide ((L.length + 1) * 5 ≥ t.mask * 3) := by
    show decide (t1.fill * 5 ≥ t1.mask * 3) = _
    rw [fill, mk]
  by_cases full : (L.length + 1) * 5 ≥ t.mask * 3
  · have hf : t1.tooFull = true := by rw [too]; exact decide_eq_true full
    obtain ⟨g1, M, g2, g3, g4⟩ := R.tab.big.grows room full few
    first
      | (refine wpAny_bind ?_; refine wp_if_pos (by simp [hf]) ?_)
      | (refine wp_if_pos (by simp [hf]) ?_; refine wpAny_bind ?_)
    rw [size]
    refine relay_big (s := { s with heap := h1 }) ho1 ⟨ex.1, ex.2.1, ex.2.2⟩ rfl rows1 T1 (by rw [n1, mk]; exact g1) nd1 tup1 pl ld g2 g3 (by rw [n1]; exact g4) fun h2 L2 es2 ep2 t2 but2 R2 pm2 => ?_
    exact wpAny_pure (q true h2 L2 es2 ep2 t2 (but.trans but2) R2 (fun z => absurd z hm) fun _ => pm2.trans pm)
  · have hf : t1.tooFull = false := by rw [too]; exact decide_eq_false full
    first
      | refine wp_if_neg (by simp [hf]) ?_
      | (refine wpAny_bind ?_; refine wp_if_neg (by simp [hf]) ?_; refine wpAny_pure ?_)
    refine wpAny_pure (q true h1 L1 es1 (ep + 1) t1 but ⟨⟨_, ho1, ⟨ex.1, ex.2.1, ex.2.2⟩, rfl⟩, rows1, T1, nd1, tup1, pl, ld, ?_⟩ (fun z => absurd z hm) fun _ => pm)
    rw [n1, mk]
    omega
end
end BT

end
section
set_option Elab.async false
set_option linter.all false
set_option maxRecDepth 100000
/-! set(list of tuples) and sorted(set of pairs), of up to 1199 -/
namespace BT
open PySem PySem.Spec PyProof.Rows L2
section
variable {P : Program} {w : World} {A : Around} {E : Value → Shared → Prop} {s : Shared}
theorem Holds.moved {h h' : Heap} {a : Addr} {L : List (Addr × List Int)} {es : Array (Int × Value)} {ep : Nat} {t : SetTable} (R : Holds P w h a L es ep t) (ha : ∀ o, h.get? a = some o → h'.get? a = some o) (ht : ∀ p ∈ L, IsT P w h' p.2 p.1) : Holds P w h' a L es ep t := by
  obtain ⟨o, ho, r⟩ := R.obj
  exact { R with obj := ⟨o, ha o ho, r⟩, tup := ht }
/-- the set S has got the first i tuples -/
def Fed (P : Program) (w : World) (ks : List (Addr × List Int)) (S : Addr) (i : Nat) (h : Heap) : Prop := ∃ L es ep t, Holds P w h S L es ep t ∧ Got ks i L
abbrev setObj (w : World) : Obj := { cls := .type "set", dict := none, data := .set #[] 0 (.fresh 0 0 (!w.params.followText "set-order")) }
theorem Fed.start (ks : List (Addr × List Int)) {h : Heap} {S : Addr} (ho : h.get? S = some (setObj w)) : Fed P w ks S 0 h := by
  refine ⟨[], #[], 0, .fresh 0 0 (!w.params.followText "set-order"), ⟨⟨_, ho, ⟨rfl, rfl, rfl⟩, rfl⟩, rfl, Tab.empty rfl rfl rfl, List.nodup_nil, (fun p hp => (nomatch hp)), rfl, ?_, (by show 0 * 5 < 7 * 3; decide)⟩, Got.zero ks⟩
  show w.params.followText "set-order" = true ∨ (!w.params.followText "set-order") = true
  cases w.params.followText "set-order" <;> simp
theorem Got.mem {ks L : List (Addr × List Int)} {i : Nat} (g : Got ks i L) : ∀ p ∈ L, p ∈ ks := fun p hp => List.mem_of_mem_take (g.sub p hp)
theorem Fed.kept {ks : List (Addr × List Int)} {S : Addr} {i : Nat} {h h' : Heap} (f : Fed P w ks S i h) (ha : ∀ o, h.get? S = some o → h'.get? S = some o) (ht : ∀ p ∈ ks, IsT P w h' p.2 p.1) : Fed P w ks S i h' := by
  obtain ⟨L, es, ep, t, R, g⟩ := f
  exact ⟨L, es, ep, t, R.moved ha fun p hp => ht p (Got.mem g p hp), g⟩
/-- one step: the tuple at place i is added -/
theorem Fed.add {ks : List (Addr × List Int)} {S : Addr} {i : Nat} {p : Addr × List Int} (f : Fed P w ks S i s.heap) (hp : ks[i]? = some p) (hx : IsT P w s.heap p.2 p.1) (hu : A.units < cLine) (few : ks.length < 1200) {Q : Bool → Shared → Prop}
    (q : ∀ b h', Heap.SameBut S s.heap h' → Fed P w ks S (i + 1) h' → Q b { s with heap := h' }) : wpAny (model P w) A (setAddHashed S (.ref p.1) (thash P w p.2)) Q E s := by
  obtain ⟨L, es, ep, t, R, g⟩ := f
  have lt := (List.getElem?_eq_some_iff.mp hp).1
  have len := g.len
  refine add_big R hx hu (by omega) fun b h' L' es' ep' t' but R' old new => q b h' but ⟨L', es', ep', t', R', ?_⟩
  by_cases c : p.2 ∈ L.map (·.2)
  · rw [old c]; exact g.same hp c
  · exact g.more hp (new c)
/-- the update's loop, from place i on -/
theorem fed_loop {I : Addr} {fp wr : List Addr} {G : Array GenState → Array GenState → Prop} {n : Nat} {Pv : Nat → Value → Prop} {St : Nat → Shared → Prop} {R : Result → Shared → Prop}
    (W : WalksS P w A.in1 I fp wr G n Pv St) (S : Addr) (out : S ∉ fp) (ks : List (Addr × List Int)) (hn : n = ks.length) (few : ks.length < 1200) (val : ∀ i v, Pv i v → ∃ p, ks[i]? = some p ∧ v = .ref p.1)
    (h0 : Heap) (tups : ∀ p ∈ ks, IsT P w h0 p.2 p.1) (newS : h0.get? S = none) (newW : ∀ b ∈ wr, h0.get? b = none) (hu : A.in1.units < cLine) :
    ∀ (left i : Nat) (s : Shared), i + left = n → St i s → (∀ b o, h0.get? b = some o → s.heap.get? b = some o) → Fed P w ks S i s.heap →
      (∀ s', Moved (S :: wr) G s s' → Fed P w ks S n s'.heap → (∀ b o, h0.get? b = some o → s'.heap.get? b = some o) → R (.ok (.ret .none)) s') →
      codeAny (model P w) A (.builtin "set.update.loop" ⟨[.ref S, .ref I], []⟩) R s := by
  have outW : S ∉ wr := fun h => out (W.sub _ h)
  have wider : ∀ b ∈ wr, b ∈ S :: wr := fun b hb => List.mem_cons_of_mem _ hb
  have keepM : ∀ {s s' : Shared}, Moved wr G s s' → (∀ b o, h0.get? b = some o → s.heap.get? b = some o) → ∀ b o, h0.get? b = some o → s'.heap.get? b = some o :=
    fun mv k b o e => mv.heap b o (fun hb => by have z := newW b hb; rw [e] at z; cases z) (k b o e)
  have tupK : ∀ {h' : Heap}, (∀ b o, h0.get? b = some o → h'.get? b = some o) → ∀ p ∈ ks, IsT P w h' p.2 p.1 := fun k p hp => isT_keep (tups p hp) k
  intro left
  induction left with
  | zero =>
    intro i s e st k f R'
    have e : i = n := e
    subst e
    refine codeAny_builtin F.entry_set_update_loop ?_
    rw [Around.under_plainId F.plain_set_update_loop _]
    show wpAny _ A.in1 (pyNext (.ref I) >>= _) _ _ s
    refine wpAny_bind (W.done s _ _ st fun s' mv => ?_)
    show wpAny _ A.in1 (ret Value.none) _ _ s'
    exact wpAny_pure (R' s' (mv.mono wider) (f.kept (fun o e => mv.heap S o outW e) (tupK (keepM mv k))) (keepM mv k))
  | succ left ih =>
    intro i s e st k f R'
    refine codeAny_builtin F.entry_set_update_loop ?_
    rw [Around.under_plainId F.plain_set_update_loop _]
    show wpAny _ A.in1 (pyNext (.ref I) >>= _) _ _ s
    refine wpAny_bind (W.item i s _ _ (by omega) st fun v s' pv st' mv => ?_)
    obtain ⟨p, hp, rfl⟩ := val i v pv
    have k' := keepM mv k
    have hx : IsT P w s'.heap p.2 p.1 := tupK k' p (List.mem_of_getElem? hp)
    have f' := f.kept (fun o e => mv.heap S o outW e) (tupK k')
    show wpAny _ A.in1 (holding [Value.ref p.1] (setAdd S (.ref p.1)) >>= _) _ _ s'
    refine wpAny_bind (wpAny_holding ?_)
    unfold setAdd
    refine wpAny_holding (wpAny_bind (wpAny_pyHash_tuple hu hx ?_))
    refine Fed.add (s := { s' with toks := s'.toks + (p.2.length + 1) }) f' hp hx hu few fun b h' but f2 => ?_
    have k2 : ∀ b o, h0.get? b = some o → h'.get? b = some o := fun b o e => (but.2 b fun z => by rw [z, newS] at e; cases e).trans (k' b o e)
    refine wpAny_pure ⟨plainId_quiet F.plain_set_update_loop _, ih (i + 1) _ (by omega) (W.frame _ s' _ _ st' (Nat.le_add_right _ _) fun b hb o e => ?_) k2 f2 fun s'' mv2 f3 k3 => R' s'' (Moved.trans W.gtrans ((mv.mono wider).then_heap (Nat.le_add_right _ _) fun b o hb e => ?_) mv2) f3 k3⟩
    · exact (but.2 b fun z : b = S => out (z ▸ hb)).trans e
    · exact (but.2 b fun z : b = S => hb (z ▸ List.mem_cons_self)).trans e
set_option maxHeartbeats 3200000 in
/-- set(xs) of a list of tuples of ints -/
theorem set_of_tups {l : Addr} {items : Array Value} (ks : List (Addr × List Int)) {Q : Value → Shared → Prop} (hh : A.handled = none) (hl : s.heap.IsList l items) (hit : items.toList = ks.map fun p => Value.ref p.1)
    (tups : ∀ p ∈ ks, IsT P w s.heap p.2 p.1) (few : ks.length < 1200) (hu : A.units + 3 < cLine)
    (q : ∀ (h' : Heap) (tk : Nat), Fed P w ks s.heap.objs.size ks.length h' → (∀ b o, s.heap.get? b = some o → h'.get? b = some o) → Q (.ref s.heap.objs.size) { s with heap := h', toks := tk }) :
    wpAny (model P w) A (call (.type "set") [.ref l]) Q E s := by
  have num : items.size = ks.length := by
    have z := congrArg List.length hit
    rw [List.length_map] at z
    exact z
  obtain ⟨c, tl, hmro⟩ := F.called_set.mro
  have hmade := F.called_set.made
  have hsub := F.called_set.sub
  refine wpAny_call (codeAny_of_tree ?_)
  show wpAny _ _ (callAny (.type "set") _) _ _ _
  refine wpAny_pure ⟨Code.quiet_builtin _ (by decide +kernel), codeAny_builtin F.entry_type_call ?_⟩
  rw [Around.under_plain (weight_type_call_type "set" [.ref l] []) rfl]
  have h1 := F.called_set.notType
  have h2 := F.called_set.canCreate
  have hct := F.typeCall_set_1 (.ref l)
  repeat (any_goals (first | assumption | wp_step))
  refine codeAny_mono (code_set_led1 (.ref l) (E := E) (Q₁ := fun obj s₁ => obj = .ref s.heap.objs.size ∧ s₁ = { s with heap := s.heap.push (setObj w) }) ⟨rfl, rfl⟩) fun r s₁ hr => ?_
  match r, hr with
  | .error e, hr => exact hr
  | .ok (.ret obj), hr =>
    obtain ⟨rfl, rfl⟩ := hr
    have hS : (s.heap.push (setObj w)).get? s.heap.objs.size = some (setObj w) := Heap.get?_push_size _ rfl
    have hT : Shared.TypeIs { s with heap := s.heap.push (setObj w) } (.ref s.heap.objs.size) "set" := ⟨_, hS, rfl⟩
    have hli := F.called_set.init.lookup
    have hbi := F.called_set.init.bind (.ref s.heap.objs.size)
    repeat (any_goals (first | assumption | wp_step))
    refine codeAny_mono (codeAny_call_builtin (R := wants (fun r s₂ => r = .none ∧ ∃ h' tk, s₂ = { s with heap := h', toks := tk } ∧ Fed P w ks s.heap.objs.size ks.length h' ∧ ∀ b o, s.heap.get? b = some o → h'.get? b = some o) E) F.called_set.init.plain F.entry_set_init (check_set_init_1 hT ?_)) fun r₂ s₂ hr₂ => ?_
    · obtain ⟨ol, hol, hcl, nl, hdl⟩ := hl
      obtain ⟨ocls, odict, odata, oslots⟩ := ol
      simp only at hcl hdl
      subst hcl; subst hdl
      have hol' : (s.heap.push (setObj w)).get? l = some { cls := .type "list", dict := odict, data := .seq items nl, slots := oslots } := Heap.get?_push_of_some _ hol
      have hsls := F.sub_list_set
      have hslf := F.sub_list_frozenset
      have hne : (Value.type "list" == Value.type "dict") = false := by decide
      have hl1 : (s.heap.push (setObj w)).IsList l items := ⟨_, hol', rfl, nl, rfl⟩
      unfold Builtin.«set.__init__» noKeywords Builtin.Frozenset.updateFrom
      generalize hPI : pyIter = PI
      wp_walk
      subst hPI
      refine wpAny_pyIter_list hl1 ?_
      refine wpAny_bind (wpAny_runValue ?_)
      have lS : l < s.heap.objs.size := Heap.lt_size hol
      have hh3 : A.in1.in1.in1.handled = none := by simp [hh]
      have lI : l ≠ (s.heap.push (setObj w)).objs.size := by
        rw [Heap.size_push]; exact Nat.ne_of_lt (Nat.lt_succ_of_lt lS)
      have out : s.heap.objs.size ∉ [(s.heap.push (setObj w)).objs.size, l] := by
        rw [Heap.size_push]; simp only [List.mem_cons, List.not_mem_nil, or_false, not_or]
        exact ⟨Nat.ne_of_lt (Nat.lt_succ_self _), Nat.ne_of_gt lS⟩
      have val : ∀ (i : Nat) (v : Value), items[i]? = some v → ∃ p, ks[i]? = some p ∧ v = .ref p.1 := fun i v hv => by
        rw [← Array.getElem?_toList, hit, List.getElem?_map] at hv
        obtain ⟨p, h, e⟩ := Option.map_eq_some_iff.mp hv
        exact ⟨p, h, e.symm⟩
      have fresh : ∀ b, s.heap.objs.size ≤ b → s.heap.get? b = none := fun b hb => by
        cases z : s.heap.get? b with
        | none => rfl
        | some o => exact absurd (Heap.lt_size z) (Nat.not_lt.mpr hb)
      refine fed_loop ((Walks.list hh3 _ l lI items).toS) s.heap.objs.size out ks num few val s.heap tups (fresh _ (Nat.le_refl _)) (fun b hb => fresh b ?_) hu items.size 0 _ (Nat.zero_add _)
        ⟨⟨_, Heap.get?_push_size _ rfl, rfl, rfl⟩, (hl1.push _)⟩ (fun b o e => Heap.get?_push_of_some _ (Heap.get?_push_of_some _ e)) (Fed.start ks (Heap.get?_push_of_some _ hS)) fun s' mv f k => ?_
      · rw [List.mem_singleton.mp hb, Heap.size_push]
        exact Nat.le_succ _
      · obtain ⟨h', g', d', tk', os'⟩ := s'
        obtain rfl : g' = s.gens := mv.gens
        obtain rfl : d' = s.drawn := mv.drawn
        obtain rfl : os' = s.os := mv.os
        show wpAny _ _ _ _ _ _
        refine wpAny_pure ?_
        show wpAny _ _ (ret Value.none) _ _ _
        rw [num] at f
        exact wpAny_pure ⟨rfl, h', tk', rfl, f, k⟩
    · match r₂, hr₂ with
      | .error e, hr₂ => exact hr₂
      | .ok (.ret r), hr₂ =>
        obtain ⟨rfl, h', tk, rfl, f, k⟩ := hr₂
        repeat (any_goals (first | assumption | wp_step))
        exact q _ _ f k
end
end BT

end
section
set_option Elab.async false
set_option linter.all false
set_option maxRecDepth 100000
/-! sorted(set of pairs), of up to 1199 -/
namespace BT
open PySem PySem.Spec PyProof.Rows L2
def prOf (k : List Int) : Int × Int := (k.getD 0 0, k.getD 1 0)
/-- a tuple's address, its ints -/
def rowOf (h : Heap) (v : Value) : Addr × List Int := match v with
  | .ref b => (b, TS.intsOf h v)
  | _ => (0, [])
section
variable {P : Program} {w : World} {A : Around} {E : Value → Shared → Prop} {s : Shared}
theorem two_ints {h : Heap} {b : Addr} {x y : Int} (i : IsT P w h [x, y] b) : Srt.IsPair h (.ref b) x y := by
  obtain ⟨o, items, n, ho, hc, hd, hi⟩ := i
  obtain ⟨vs⟩ := items
  have hi : ItemsAre (intKind P w) [x, y] vs := hi
  match vs, hi with
  | [_, _], .cons h1 (.cons h2 .nil) =>
    obtain ⟨t, rfl⟩ := Value.isInt_shape h1
    obtain ⟨u, rfl⟩ := Value.isInt_shape h2
    exact ⟨b, o, t, u, n, rfl, ho, hc, hd⟩
theorem sorted_big {a : Addr} {L : List (Addr × List Int)} {es : Array (Int × Value)} {ep : Nat} {t : SetTable} {Q : Value → Shared → Prop} (R : Holds P w s.heap a L es ep t) (hh : A.handled = none) (few : L.length < 1200)
    (two : ∀ p ∈ L, ∃ x y, p.2 = [x, y])
    (q : ∀ (s' : Shared) (d : Addr) (c : Nat) (M : List (Addr × List Int)), (∀ b o, s.heap.get? b = some o → s'.heap.get? b = some o) → s'.gens = s.gens → s'.os = s.os → s.heap.objs.size ≤ d →
      s'.heap.get? d = some (seqObj "list" (M.map fun p => Value.ref p.1).toArray c) → M.Perm L → M.Pairwise (fun p r => SrtO.lexB (prOf r.2) (prOf p.2) = false) → Q (.ref d) s') :
    wpAny (model P w) A (call (.builtin "sorted") [.ref a]) Q E s := by
  obtain ⟨o, ho, ex, hd⟩ := R.obj
  have size := rows_size R.rows
  refine Calls.call_function_entry kind_sorted plain_sorted entry_sorted (args_sorted1 _) ?_
  unfold Builtin.«sorted»
  refine wpAny_bind (m := checkCount "sorted" 1 1 _) (wpAny_pure ?_)
  refine wpAny_bind (collect_set (A := A.in1) hh ⟨o, ho, ex.1, hd⟩ R.fit (by unfold scanBound; omega) R.tab.ris R.led fun s1 vs k1 hz g1 o1 pm => ?_)
  rw [R.rows, show (rowsOf P w L).map (·.2) = L.map fun p => Value.ref p.1 from List.map_map ..] at pm
  have num : vs.length = L.length := by rw [pm.length_eq, List.length_map]
  have line : vs.length ≤ sizeLine := by rw [num, sizeLine_eq]; omega
  refine wpAny_bind (wpAny_newList ?_ line)
  have hoL : (s1.heap.push (seqObj "list" vs.toArray 0)).get? s1.heap.objs.size = some (seqObj "list" vs.toArray 0) := Heap.get?_push_size _ rfl
  have keep : ∀ b u, s.heap.get? b = some u → (s1.heap.push (seqObj "list" vs.toArray 0)).get? b = some u := fun b u e => Heap.get?_push_of_some _ (k1 b u e)
  have row : ∀ p ∈ L, rowOf (s1.heap.push (seqObj "list" vs.toArray 0)) (.ref p.1) = p := fun p hp =>
    Prod.ext rfl (tupInts_of (P := P) (w := w) (isT_keep (R.tup p hp) keep)).ints
  have isRow : ∀ v ∈ vs, ∃ p ∈ L, v = Value.ref p.1 := fun v hv => by
    obtain ⟨p, hp, e⟩ := List.mem_map.mp (pm.mem_iff.mp hv)
    exact ⟨p, hp, e.symm⟩
  generalize hk : (fun v => prOf (rowOf (s1.heap.push (seqObj "list" vs.toArray 0)) v).2) = k
  have kOf : ∀ p ∈ L, k (.ref p.1) = prOf p.2 := fun p hp => by rw [← hk]; exact congrArg (fun r => prOf r.2) (row p hp)
  have pairs : ∀ v ∈ vs, Srt.IsPair (s1.heap.push (seqObj "list" vs.toArray 0)) v (k v).1 (k v).2 := fun v hv => by
    obtain ⟨p, hp, rfl⟩ := isRow v hv
    obtain ⟨x, y, e⟩ := two p hp
    have z := isT_keep (R.tup p hp) keep
    rw [kOf p hp, e]
    rw [e] at z
    exact two_ints z
  refine wpAny_bind (wpAny_holding (wpAny_call_entry slot_list_sort ⟨_, hoL, rfl⟩ entry_list_sort (SrtO.list_sort_ord (s := { s1 with heap := s1.heap.push (seqObj "list" vs.toArray 0) }) (SrtO.swo_lex k) hoL line (fun h2 => SrtO.pairs_sortableO (by omega) pairs fun o e c => ?_) fun out hs hb => ⟨_, rfl, ?_⟩) (args_list_sort _)))
  · have e : some o = some (seqObj "list" vs.toArray 0) := e.symm.trans hoL
    cases e
    exact absurd (Value.type.inj c) (by decide)
  obtain ⟨c, hc⟩ := sortedHeap_at (vs := vs) (out := out.toArray) hoL
  have outRow : ∀ v ∈ out, ∃ p ∈ L, v = Value.ref p.1 := fun v hv => isRow v (hb.perm.mem_iff.mp hv)
  have back : (out.map (rowOf (s1.heap.push (seqObj "list" vs.toArray 0)))).map (fun p => Value.ref p.1) = out := by
    rw [List.map_map]
    refine (List.map_congr_left fun v hv => ?_).trans (List.map_id _)
    obtain ⟨p, hp, rfl⟩ := outRow v hv
    rfl
  refine wpAny_pure ⟨_, rfl, q _ s1.heap.objs.size c (out.map (rowOf (s1.heap.push (seqObj "list" vs.toArray 0)))) (fun b u e => ?_) g1 o1 hz (by rw [back]; exact hc) ?_ ?_⟩
  · show (sortedHeap (s1.heap.push (seqObj "list" vs.toArray 0)) s1.heap.objs.size vs out.toArray).get? b = some u
    have lt := Heap.lt_size (k1 b u e)
    rw [sortedHeap_old (Nat.ne_of_lt lt) (by rw [size_push']; exact Nat.lt_succ_of_lt lt)]
    exact keep b u e
  · have z := (hb.perm.trans pm).map (rowOf (s1.heap.push (seqObj "list" vs.toArray 0)))
    rw [List.map_map] at z
    rw [show L.map ((rowOf (s1.heap.push (seqObj "list" vs.toArray 0))) ∘ fun p => Value.ref p.1) = L from (List.map_congr_left fun p hp => row p hp).trans (List.map_id _)] at z
    exact z
  · refine List.pairwise_map.mpr (hs.imp fun {u v} h => ?_)
    rw [← hk] at h
    exact h
end
end BT

end
section
set_option Elab.async false
set_option linter.all false
set_option maxRecDepth 100000
set_option maxHeartbeats 1000000
/-! sorted(set(a)), a a list of fewer than 1200 pairs of small numbers -/
namespace KX
open PySem PySem.Spec PyProof.Rows L2 Kit
def num (p : Int × Int) : Int := p.1 * 64 + p.2
def ltP (p q : Int × Int) : Prop := num p < num q
theorem sorted_eq : ∀ {l m : List (Int × Int)}, l.Pairwise ltP → m.Pairwise ltP → (∀ p, p ∈ l ↔ p ∈ m) → l = m
  | [], [], _, _, _ => rfl
  | [], b :: m, _, _, h => absurd ((h b).mpr List.mem_cons_self) List.not_mem_nil
  | a :: l, [], _, _, h => absurd ((h a).mp List.mem_cons_self) List.not_mem_nil
  | a :: l, b :: m, hl, hm, h => by
    obtain ⟨al, hl2⟩ := List.pairwise_cons.mp hl
    obtain ⟨bm, hm2⟩ := List.pairwise_cons.mp hm
    have ab : a = b := by
      rcases List.mem_cons.mp ((h a).mp List.mem_cons_self) with e | e
      · exact e
      · rcases List.mem_cons.mp ((h b).mpr List.mem_cons_self) with e2 | e2
        · exact e2.symm
        · have q1 : num b < num a := bm a e
          have q2 : num a < num b := al b e2
          omega
    subst ab
    have tl : ∀ p, p ∈ l ↔ p ∈ m := by
      intro p
      constructor
      · intro hp
        rcases List.mem_cons.mp ((h p).mp (List.mem_cons_of_mem _ hp)) with e | e
        · subst e
          exact absurd (al _ hp) (Int.lt_irrefl _)
        · exact e
      · intro hp
        rcases List.mem_cons.mp ((h p).mpr (List.mem_cons_of_mem _ hp)) with e | e
        · subst e
          exact absurd (bm _ hp) (Int.lt_irrefl _)
        · exact e
    rw [sorted_eq hl2 hm2 tl]
theorem rowT_mem {R : Rel} {x : Nat} {j : Nat} {p : Int × Int} (h : p ∈ rowT R x j) : ∃ y : Nat, y < j ∧ p = ((x : Int), (y : Int)) := by
  unfold rowT at h
  obtain ⟨y, hy, e⟩ := List.mem_map.mp h
  exact ⟨y, List.mem_range.mp (List.mem_filter.mp hy).1, e.symm⟩
theorem rowT_up (R : Rel) (x : Nat) : ∀ j, (rowT R x j).Pairwise ltP
  | 0 => List.Pairwise.nil
  | j + 1 => by
    cases e : R x j with
    | false => rw [rowT_no e]; exact rowT_up R x j
    | true =>
      rw [rowT_yes e]
      refine List.pairwise_append.mpr ⟨rowT_up R x j, List.pairwise_singleton _ _, fun p hp q hq => ?_⟩
      obtain ⟨y, hy, rfl⟩ := rowT_mem hp
      rw [List.mem_singleton] at hq
      subst hq
      show (x : Int) * 64 + (y : Int) < (x : Int) * 64 + (j : Int)
      omega
theorem tiesTo_up {n : Nat} (hn : n ≤ 24) (R : Rel) : ∀ i, (tiesTo n R i).Pairwise ltP
  | 0 => List.Pairwise.nil
  | i + 1 => by
    rw [tiesTo_succ]
    refine List.pairwise_append.mpr ⟨tiesTo_up hn R i, rowT_up R i n, fun p hp q hq => ?_⟩
    unfold tiesTo at hp
    obtain ⟨x, hx, hp⟩ := List.mem_flatMap.mp hp
    have hx2 := List.mem_range.mp hx
    obtain ⟨y, hy, rfl⟩ := rowT_mem hp
    obtain ⟨z, hz, rfl⟩ := rowT_mem hq
    show (x : Int) * 64 + (y : Int) < (i : Int) * 64 + (z : Int)
    omega
def keyOf (p : Int × Int) : List Int := [p.1, p.2]
theorem zip_refs : ∀ {as : List Addr} {ps : List (Int × Int)}, as.length = ps.length → ((as.zip (ps.map keyOf)).map fun p => V.ref p.1) = as.map V.ref
  | [], [], _ => rfl
  | a :: as, p :: ps, h => by
    show V.ref a :: ((as.zip (ps.map keyOf)).map fun p => V.ref p.1) = V.ref a :: _
    rw [zip_refs (as := as) (ps := ps) (by simpa using h)]
  | [], _ :: _, h => by simp at h
  | _ :: _, [], h => by simp at h
/-- sorted(set(a)) -/
def tSortSet (ta : TE) : TE := fun σ H Q => ta σ H fun x H1 => ∃ (l : Addr) (as : List Addr) (ps : List (Int × Int)) (n : Nat), x = .ref l ∧ H1 l = some (.lst (as.map V.ref)) ∧ PrT H1 as ps ∧ as.length < 1200 ∧ n ≤ 24 ∧ (∀ p ∈ ps, Good n p) ∧
  ∀ (p : Addr) (bs : List Addr) (H2 : Hp), Same H1 H2 → H1 p = none → H2 p = some (.lst (bs.map V.ref)) → PrT H2 bs (ties n (relP ps false)) → Q (.ref p) H2
theorem prOf_key (p : Int × Int) : BT.prOf (keyOf p) = p := rfl
theorem in_zip {as : List Addr} {ps : List (Int × Int)} {H : Hp} (pa : PrT H as ps) {e : Addr × List Int} (he : e ∈ as.zip (ps.map keyOf)) : ∃ z ∈ ps, e.2 = keyOf z ∧ H e.1 = some (.tup [.int z.1, .int z.2]) := by
  obtain ⟨i, hi⟩ := List.getElem?_of_mem he
  obtain ⟨e1, e2⟩ := List.getElem?_zip_eq_some.mp hi
  rw [List.getElem?_map] at e2
  obtain ⟨z, hz, e3⟩ := Option.map_eq_some_iff.mp e2
  exact ⟨z, List.mem_of_getElem? hz, e3.symm, pa.2 i e.1 z e1 hz⟩
theorem to_zip {as : List Addr} {ps : List (Int × Int)} (len : as.length = ps.length) {z : Int × Int} (hz : z ∈ ps) : ∃ e ∈ as.zip (ps.map keyOf), e.2 = keyOf z := by
  obtain ⟨i, hi⟩ := List.getElem?_of_mem hz
  have lt : i < as.length := by rw [len]; exact (List.getElem?_eq_some_iff.mp hi).1
  exact ⟨(as[i], keyOf z), List.mem_of_getElem? (i := i) (List.getElem?_zip_eq_some.mpr ⟨List.getElem?_eq_getElem lt, by rw [List.getElem?_map, hi] <;> rfl⟩), rfl⟩
/-- the sorted keys are the links, in order -/
theorem keys_ties {n : Nat} (hn : n ≤ 24) {ps : List (Int × Int)} (gd : ∀ p ∈ ps, Good n p) {M : List (Addr × List Int)} (from_ : ∀ e ∈ M, ∃ z ∈ ps, e.2 = keyOf z) (all : ∀ z ∈ ps, ∃ e ∈ M, e.2 = keyOf z)
    (nd : (M.map (·.2)).Nodup) (pw : M.Pairwise fun p r => SrtO.lexB (BT.prOf r.2) (BT.prOf p.2) = false) : M.map (fun e => BT.prOf e.2) = ties n (relP ps false) := by
  refine sorted_eq ?_ (tiesTo_up hn _ n) fun z => ⟨fun hz => ?_, fun hz => ?_⟩
  · refine List.pairwise_map.mpr ((pw.and (List.pairwise_map.mp nd)).imp_of_mem fun {e f} he hf hef => ?_)
    obtain ⟨z, hz, e1⟩ := from_ e he
    obtain ⟨y, hy, f1⟩ := from_ f hf
    obtain ⟨c1, c2⟩ := hef
    rw [e1, f1] at c1 c2
    rw [e1, f1, prOf_key, prOf_key]
    rw [prOf_key, prOf_key] at c1
    have c1 := SrtO.lexB_no.mp c1
    have ne : ¬ (z.1 = y.1 ∧ z.2 = y.2) := fun c => c2 (by rw [(Prod.ext c.1 c.2 : z = y)])
    obtain ⟨g1, g2, g3, g4, _⟩ := gd z hz
    obtain ⟨k1, k2, k3, k4, _⟩ := gd y hy
    show z.1 * 64 + z.2 < y.1 * 64 + y.2
    omega
  · obtain ⟨e, he, rfl⟩ := List.mem_map.mp hz
    obtain ⟨z, hz, e1⟩ := from_ e he
    rw [e1, prOf_key]
    obtain ⟨g1, g2, g3, g4, _⟩ := gd z hz
    have q : (((z.1.toNat : Nat) : Int), ((z.2.toNat : Nat) : Int)) = z := Prod.ext (by show ((z.1.toNat : Nat) : Int) = z.1; omega) (by show ((z.2.toNat : Nat) : Int) = z.2; omega)
    exact mem_ties.mpr ⟨z.1.toNat, z.2.toNat, by omega, by omega, relP_iff.mpr (.inl (by rw [q]; exact hz)), q.symm⟩
  · obtain ⟨x, y, hx, hy, rr, rfl⟩ := mem_ties.mp hz
    have hm : ((x : Int), (y : Int)) ∈ ps := by
      rcases relP_iff.mp rr with q | q
      · exact q
      · exact absurd q.1 Bool.false_ne_true
    obtain ⟨e, he, e1⟩ := all _ hm
    exact List.mem_map.mpr ⟨e, he, by rw [e1, prOf_key]⟩
theorem pe_sortSet {X : Cx} {a : Expr} {ta : TE} {p p2 q pos : Pos} (hc : X.calm = true) (hu : X.A.units + 64 < cLine) (hg : Gl X "sorted") (hm : X.mg "sorted" = none) (hg2 : Gl X "set") (hm2 : X.mg "set" = none) (ha : PE X a ta)
    (h1 : starEach [.Call (.Name "set" p2) [a] [] q] X.env = (false, eval (.Call (.Name "set" p2) [a] [] q) X.env) :: starEach [] X.env := by rfl) (h2 : starEach [a] X.env = (false, eval a X.env) :: starEach [] X.env := by rfl) :
    PE X (.Call (.Name "sorted" p) [.Call (.Name "set" p2) [a] [] q] [] pos) (tSortSet ta) := by
  refine ⟨fun pins s σ H Q I need => ?_⟩
  refine Call_ (ld_blt I hg hm PyProof.Rows.boot_sorted ?_)
  refine PyProof.Rows.callWith_builtin1 (PyProof.Rows.args_cons ?_ h1) h1 rfl
  refine Call_ (ld_blt I hg2 hm2 PyProof.Rows.boot_set ?_)
  refine PyProof.Rows.callWith_type1 (PyProof.Rows.args_cons (thn (ha.run pins s σ H _ I need) fun v s1 z => PyProof.Rows.args_nil ?_) h2) h2 rfl
  obtain ⟨x, H1, I1, r1, l, as, ps, n, rfl, hl, pa, few, hn, gd, k⟩ := z
  cases r1
  have sq : SqL X.K H1 l (as.map V.ref) := SqL.of hl
  obtain ⟨its, rv, pl, _⟩ := I1.list sq
  have lenz : (as.zip (ps.map keyOf)).length = as.length := by rw [List.length_zip, List.length_map, ← pa.1, Nat.min_self]
  rw [← zip_refs pa.1] at rv
  refine BT.set_of_tups (P := X.prog) (w := X.w) (as.zip (ps.map keyOf)) (I1.ok.hd hc) pl.isList (by simpa using refs_of_vals rv) (fun e he => ?_) (by rw [lenz]; exact few) (by omega) fun h' tk fed keep => ?_
  · obtain ⟨z, _, e1, e2⟩ := in_zip pa he
    refine I1.isT ?_
    rw [e1]
    exact SqT.of e2
  refine PyProof.Rows.args_nil ?_
  obtain ⟨L, es, ep, t, R, g⟩ := fed
  have I2 : Inv X pins σ H1 { s1 with heap := h', toks := tk } := I1.kept keep
  have inL : ∀ e ∈ L, e ∈ as.zip (ps.map keyOf) := BT.Got.mem g
  have len := g.len
  refine BT.sorted_big (s := { s1 with heap := h', toks := tk }) R (I2.ok.hd hc) (by omega) (fun e he => ?_) fun s' d c M kp gs os hd hM pm pw => ?_
  · obtain ⟨z, _, e1, _⟩ := in_zip pa (inL e he)
    exact ⟨z.1, z.2, e1⟩
  have nd : H1 d = none := I2.hok.fresh hd
  have vals : Vals ((M.map (·.1)).map V.ref) (M.map fun e => Value.ref e.1) := by
    rw [List.map_map]
    exact vals_of_refs M
  have line : ((M.map (·.1)).map V.ref).length ≤ sizeLine := by rw [List.length_map, List.length_map, pm.length_eq, sizeLine_eq]; omega
  have J : Inv X pins σ (upd H1 d (.lst ((M.map (·.1)).map V.ref))) s' := I2.call' (ch := []) os (Un.laid kp hd nd) (I2.hok.laid kp hd ⟨line, _, c, vals, hM⟩) (by rw [gs]; exact I2.bare) (fun _ z => nomatch z)
  refine ⟨.ref d, _, J, rfl, k d (M.map (·.1)) _ (Same.new (Same.refl _) nd) nd upd_same ?_⟩
  have inM : ∀ e ∈ M, e ∈ as.zip (ps.map keyOf) := fun e he => inL e (pm.mem_iff.mp he)
  rw [← keys_ties hn gd (M := M) (fun e he => by obtain ⟨z, hz, e1, _⟩ := in_zip pa (inM e he); exact ⟨z, hz, e1⟩) (fun z hz => ?_) ((pm.map (·.2)).nodup_iff.mpr R.nd) pw]
  · refine ⟨by rw [List.length_map, List.length_map], fun i b z e1 e2 => ?_⟩
    rw [List.getElem?_map] at e1 e2
    obtain ⟨e, he, rfl⟩ := Option.map_eq_some_iff.mp e1
    rw [he] at e2
    obtain rfl := Option.some.inj e2
    obtain ⟨z, hz, e3, e4⟩ := in_zip pa (inM e (List.mem_of_getElem? he))
    show _ = some (HO.tup [V.int (BT.prOf e.2).1, V.int (BT.prOf e.2).2])
    rw [e3, prOf_key]
    exact Same.new (Same.refl _) nd _ _ e4
  · obtain ⟨e, he, e1⟩ := to_zip pa.1 hz
    have q := g.all e (by rw [List.take_length]; exact he)
    obtain ⟨f, hf, f1⟩ := List.mem_map.mp q
    exact ⟨f, pm.mem_iff.mpr hf, f1.trans e1⟩
end KX

end
section
set_option Elab.async false
set_option linter.all false
set_option maxRecDepth 100000
set_option maxHeartbeats 1000000
namespace KX
open PySem PySem.Spec PyProof.Rows L2 Kit
/-- a property, by its getter's promise -/
structure PropC (P : Program) (w : World) (K : PySem.W.Frag) (mg : Str → Option Value) (base : Heap) (k : Nat) (C : Addr) (f : Str) (sp : Sp) : Prop where
  ex : ∃ (p g : Addr) (fd : FuncData) (ps : List Str), Cls K C ∧ PropOf K C f p g ∧ FnOk P w K mg base CX0 k g fd ps sp ∧ L2.Binds K fd ps []
/-- a method that may raise -/
structure MetX (P : Program) (w : World) (K : PySem.W.Frag) (mg : Str → Option Value) (base : Heap) (k : Nat) (C : Addr) (m : Str) (sp : Sp) : Prop where
  ex : ∃ (f : Addr) (fd : FuncData) (ps : List Str), Cls K C ∧ Meth K C m f ∧ FnOk P w K mg base (L2.CX P w) k f fd ps sp ∧ L2.Binds K fd ps []
/-- a class that is made, its __init__ may raise -/
structure MakX (P : Program) (w : World) (K : PySem.W.Frag) (mg : Str → Option Value) (base : Heap) (k : Nat) (x : Str) (C : Addr) (sp : Sp) : Prop where
  ex : ∃ (f : Addr) (fd : FuncData) (ps : List Str), Mk K C f ∧ FnOk P w K mg base (L2.CX P w) k f fd ps sp ∧ mg x = some (.ref C) ∧ L2.Binds K fd ps []
/-- a classmethod that may raise -/
structure ClmX (P : Program) (w : World) (K : PySem.W.Frag) (mg : Str → Option Value) (base : Heap) (k : Nat) (C : Addr) (m : Str) (sp : Sp) : Prop where
  ex : ∃ (p g : Addr) (fd : FuncData) (ps : List Str) (mc : Value), ClX.CRead K C mc ∧ ClX.CMet K C mc m p g ∧ FnOk P w K mg base (L2.CX P w) k g fd ps sp ∧ L2.Binds K fd ps []
section
variable {X : Cx} {x f m : Str} {C : Addr} {k j : Nat} {sp : Sp} {E : XK} {e o : Expr} {es : List Expr} {te ta : TE} {t : TA} {p pos apos : Pos}
theorem pe_pr (c : PropC X.prog X.w X.K X.mg X.base k C f sp) (hr : Room j X.A) (hk : k + 1 ≤ j) (he : PE X e te) (hab : attributeBase e f X.env (eval e X.env) = eval e X.env := by rfl) : PE X (.Attribute e f pos) (tProp C sp [] E0 te) := by
  obtain ⟨q, g, fd, ps, cl, hp, F, hb⟩ := c.ex
  exact pe_prop he cl hp F (hr.mono hk) hb .nil (fun _ _ _ _ _ _ _ h => h.elim) hab
theorem pe_mx {pl : Sem Bool} (c : MetX X.prog X.w X.K X.mg X.base k C m sp) (hr : Room j X.A) (hk : k ≤ j) (hx : Passes (L2.CX X.prog X.w) X E) (he : PE X o ta) (ha : PA X (e :: es) t)
    (hst : starEach (e :: es) X.env = (false, eval e X.env) :: starEach es X.env := by rfl) (hpl : (backTo pos (starEach es X.env)).any (·.1) = false := by rfl)
    (ht : eval (.Call (.Attribute o m apos) (e :: es) [] pos) X.env = (do
      let ov ← eval o X.env
      standAt apos.atName
      let (f, first) ← holding [ov] (getMethod ov m pl)
      callWith pos f first (backTo pos (starEach (e :: es) X.env)) (backToKw pos (keywordEach [] X.env))) := by rfl) : PE X (.Call (.Attribute o m apos) (e :: es) [] pos) (tMeth C m sp [] E ta t) := by
  obtain ⟨g, fd, ps, hc, hm, F, b⟩ := c.ex
  exact pe_meth (pl := pl) he hc hm F (hr.mono hk) b .nil hx ha hst hpl ht
theorem pe_mkX (c : MakX X.prog X.w X.K X.mg X.base k x C sp) (hr : Room j X.A) (hk : k + 1 ≤ j) (hg : Gl X x) (hx : Passes (L2.CX X.prog X.w) X E) (ha : PA X (e :: es) t)
    (hdb : (x == ("__debug__" : Str)) = false := by decide) (he : starEach (e :: es) X.env = (false, eval e X.env) :: starEach es X.env := by rfl) (hpl : (backTo pos (starEach es X.env)).any (·.1) = false := by rfl) :
    PE X (.Call (.Name x p) (e :: es) [] pos) (tMake C sp [] E t) := by
  obtain ⟨g, fd, ps, M, F, hm, b⟩ := c.ex
  exact pe_make M F (hr.mono hk) hg hm b .nil hx ha hdb he hpl
/-- cls(..): the local name i holds the class -/
def tMakeL (C : Addr) (i : Nat) (sp : Sp) (E : XK) (t : TA) : TE := fun σ H Q => σ[i]? = some (some (.ref C)) ∧ tMake C sp [] E t σ H Q
theorem pe_mkL {i : Nat} {nm : Str} (c : MakX X.prog X.w X.K X.mg X.base k nm C sp) (hr : Room j X.A) (hk : k + 1 ≤ j) (hx : Passes (L2.CX X.prog X.w) X E) (hN : X.N[i]? = some x) (hv : Vis X.env.scope x) (ha : PA X (e :: es) t)
    (hd : (x == ("__debug__" : Str)) = false := by decide) (hcd : (x == ("__classdict__" : Str)) = false := by decide)
    (he : starEach (e :: es) X.env = (false, eval e X.env) :: starEach es X.env := by rfl) (hpl : (backTo pos (starEach es X.env)).any (·.1) = false := by rfl) :
    PE X (.Call (.Name x p) (e :: es) [] pos) (tMakeL C i sp E t) := by
  obtain ⟨g, fd, ps, M, F, hm, b⟩ := c.ex
  refine ⟨fun pins s σ H Q I h => ?_⟩
  obtain ⟨hi, h⟩ := h
  refine wpAny_Call_Name_kw (thn ((pe_var (pos := p) hN hv hd hcd).run pins s σ H (fun v H1 => v = .ref C ∧ H1 = H) I ⟨.ref C, hi, rfl, rfl⟩) fun u s1 z => ?_)
  obtain ⟨v, H1, I1, r1, rfl, rfl⟩ := z
  cases r1
  refine PySem.W.callWith_K (h₀ := X.base) I.ok.mod.kin M.kp (thn (ha.run pos pins s1 σ _ _ I1 h) fun us s2 z => ?_) he hpl
  obtain ⟨vs, H2, I2, r2, q⟩ := z
  exact ⟨I2.kIn, run_make M F (hr.mono hk) b .nil hx I2 r2 q⟩
/-- C.m(..), o.m(..): o evaluates to the class -/
theorem pe_clm {pl : Sem Bool} (c : ClmX X.prog X.w X.K X.mg X.base k C m sp) (hr : Room j X.A) (hk : k ≤ j) (hx : Passes (L2.CX X.prog X.w) X E) (he : PE X o ta) (ha : PA X (e :: es) t)
    (hst : starEach (e :: es) X.env = (false, eval e X.env) :: starEach es X.env := by rfl) (hpl : (backTo pos (starEach es X.env)).any (·.1) = false := by rfl)
    (ht : eval (.Call (.Attribute o m apos) (e :: es) [] pos) X.env = (do
      let ov ← eval o X.env
      standAt apos.atName
      let (f, first) ← holding [ov] (getMethod ov m pl)
      callWith pos f first (backTo pos (starEach (e :: es) X.env)) (backToKw pos (keywordEach [] X.env))) := by rfl) : PE X (.Call (.Attribute o m apos) (e :: es) [] pos) (ClX.tCMeth C sp E ta t) := by
  obtain ⟨q, g, fd, ps, mc, r, cm, F, b⟩ := c.ex
  have F' : FnR X.prog X.w X.K X.mg X.base (L2.CX X.prog X.w) k g sp := (FnOk.raw F b .nil).imp fun vs H Q E h => by rw [List.append_nil]; exact h
  exact ClX.pe_cmeth (pl := pl) he r cm F' (hr.mono hk) hx ha hst hpl ht
end
end KX

end
section
set_option Elab.async false
set_option linter.all false
set_option maxRecDepth 100000
set_option maxHeartbeats 1000000
/-! defs that are called within an except suite and raise nothing: no word of what is handled -/
namespace KX
open PySem PySem.Spec PyProof.Rows L2 Kit L2H
/-- what such a def promises, whatever is handled around it -/
structure FnQ (P : Program) (w : World) (K : PySem.W.Frag) (mg : Str → Option Value) (base : Heap) (k : Nat) (f : Addr) (fd : FuncData) (ps : List Str) (sp : Sp) : Prop where
  many : ∀ vs H Q E, sp vs H Q E → vs.length = ps.length
  runs : ∀ (B : Around) (outer : List Env) (s : Shared) (H : Hp) (given : Args) (us : List Value) (vs : List V) (Q : VK) (E : XK),
    RoomH k B → Env0 P w K mg base B outer s H → BindsTo s fd given (ps.zip us) → Vals vs us → sp vs H Q E →
      codeAny (model P w) B (.call (.ref f) given) (CR CX0 outer P w H s Q E) s
abbrev coolA (B : Around) : Around := { B with handled := none }
/-- the context of its body -/
abbrev cxQ (P : Program) (w : World) (K : PySem.W.Frag) (mg : Str → Option Value) (base : Heap) (N : List Str) (q : Str) (sc : Scope) (f : Addr) (cd : Value) (B : Around) (outer : List Env) (s : Shared) (H : Hp) (E : XK) : Cx :=
  { cxOf CX0 P w K mg base N q sc f cd B outer s H E with calm := false }
section
variable {P : Program} {w : World} {K : PySem.W.Frag} {mg : Str → Option Value} {base : Heap}
theorem inv_cool {N : List Str} {q : Str} {sc : Scope} {f : Addr} {cd : Value} {B : Around} {outer : List Env} {s s1 : Shared} {H H1 : Hp} {E : XK} {σ : L2.St} {pins : List (Addr × Obj)}
    (I : Inv (cxOf CX0 P w K mg base N q sc f cd (coolA B) outer s H E) pins σ H1 s1) : Inv (cxQ P w K mg base N q sc f cd B outer s H E) pins σ H1 s1 := by
  obtain ⟨⟨a1, a2, a3, a4, a5, a6, a7, a8, a9, a10, a11, a12, a13, a14, a15, a16, a17, a18⟩, b1, b2, b3, b4, b5, b6, b7, b8, b9, b10⟩ := I
  exact ⟨⟨a1, a2, a3, a4, a5, a6, a7, a8, nofun, a10, a11, a12, a13, a14, a15, a16, a17, a18⟩, b1, b2, b3, b4, b5, b6, b7, b8, b9, b10⟩
theorem fn_ofQ {k : Nat} {f : Addr} {x qual : Str} {st : Stmt} {fd : FuncData} {N ps : List Str} {sp : Sp} (F : L2.Fun K x qual st f fd) (S : FnScope N ps (defScope st)) (len : ∀ vs H Q E, sp vs H Q E → vs.length = ps.length)
    (hbody : ∀ (cdv : Value) (B : Around) (outer : List Env) (s : Shared) (H : Hp) (vs : List V) (Q : VK) (E : XK), RoomH k (B.deeper (envOfC qual (defScope st) s.heap.objs.size f cdv)) → sp vs H Q E →
      ∃ t, PSs (cxQ P w K mg base N qual (defScope st) f cdv B outer s H E) (defBody st) t ∧ t { nx := fun _ H' => Q .non H', rt := Q } (L2.start N vs) H) : FnQ P w K mg base (k + 1) f fd ps sp := by
  obtain ⟨oc, od, kV, doc, pm, an, cdv, ct, osl, rfl, lk, hcd⟩ := F.ex
  refine ⟨len, ?_⟩
  intro B outer s H given us vs Q E room e0 bt r hsp
  have nlen := len _ _ _ _ hsp
  have kin : K.In s.heap := e0.mod.kin.keeps (fun b o e => (e0.bs b o e).1)
  have nolim : s.heap.NoLimit := e0.mod.nolimit.keeps (fun b o e => (e0.bs b o e).1)
  have kinds : ∀ y ∈ ps.zip us, (defScope st).names.lookup y.1 = some .local ∨ ((defScope st).names.lookup y.1 = some .cell ∧ ((cellsFrom (s.heap.objs.size + 1) (defScope st).names []).lookup y.1).isSome = true) := by
    rintro ⟨m, v⟩ hy
    exact (S.par m (List.of_mem_zip hy).1).imp id fun q => ⟨q, PySem.W.cellsFrom_some _ _ _ (.inl q)⟩
  refine codeAny_call_function room.depth (kin _ _ lk) rfl S.co S.gen rfl (PySem.W.codeRec_of kin hcd) (bt _ _ _ _ ?_)
  refine wpAny_newFunctionEnv_cells S.kind kinds (fun env he s1 x => ?_)
  subst he
  refine ⟨nolim.keeps x.toInCall.keep, codeAny_func ?_⟩
  obtain ⟨t, ht, hq⟩ := hbody cdv B outer s H vs Q E (room.deeper _) hsp
  have e1 : Env0 P w K mg base (coolA B) outer s H := ⟨e0.frames, e0.mod, e0.bs, e0.bsz, e0.funs, e0.frf, e0.hok, e0.bare⟩
  have J0 := inv_cool (B := B) (inv_start (CX := CX0) (E := E) S (A := coolA B) rfl e1 nlen r x)
  refine wpAny_mono (ht.run [] s1 _ H _ J0 hq) (fun fl s2 hs => ?_) (fun e s2 hs => hs)
  cases fl with
  | brk => obtain ⟨_, _, _, z⟩ := hs; exact z.elim
  | cont => obtain ⟨_, _, _, z⟩ := hs; exact z.elim
  | next =>
    obtain ⟨τ, H2, J, z⟩ := hs
    exact ⟨V.non, H2, J.os, J.bare, J.base, J.hok, rfl, z⟩
  | ret u =>
    obtain ⟨v, τ, H2, J, rv, z⟩ := hs
    exact ⟨v, H2, J.os, J.bare, J.base, J.hok, rv, z⟩
end
/-- a def of this kind, by its name -/
structure CalQ (P : Program) (w : World) (K : PySem.W.Frag) (mg : Str → Option Value) (base : Heap) (k : Nat) (x : Str) (sp : Sp) : Prop where
  ex : ∃ (f : Addr) (fd : FuncData) (ps : List Str), FnQ P w K mg base k f fd ps sp ∧ mg x = some (.ref f) ∧ PySem.W.keepIn K (.ref f) = true ∧ Binds K fd ps []
section
variable {X : Cx} {k j : Nat} {x : Str} {sp : Sp} {p pos : Pos} {e : Expr} {es : List Expr} {t : TA}
theorem pe_cQ (c : CalQ X.prog X.w X.K X.mg X.base k x sp) (hr : RoomH k X.A) (hg : Gl X x) (ha : PA X (e :: es) t)
    (hdb : (x == ("__debug__" : Str)) = false := by decide) (he : starEach (e :: es) X.env = (false, eval e X.env) :: starEach es X.env := by rfl) (hpl : (backTo pos (starEach es X.env)).any (·.1) = false := by rfl) :
    PE X (.Call (.Name x p) (e :: es) [] pos) (tCall sp [] E0 t) := by
  obtain ⟨f, fd, ps, F, hm, kp, b⟩ := c.ex
  refine ⟨fun pins s σ H Q I h => ?_⟩
  refine wpAny_Call_Name_kw (ld_glob I hg hm ?_ hdb)
  refine PySem.W.callWith_K (h₀ := X.base) I.ok.mod.kin kp (thn (ha.run pos pins s σ H _ I h) fun us s1 z => ?_) he hpl
  obtain ⟨vs, H1, I1, r, q⟩ := z
  refine ⟨I1.kIn, ?_⟩
  rw [List.append_nil] at q
  have hl : us.length = ps.length := by rw [← r.length]; exact F.many _ _ _ _ q
  have bt := b s1 us I1.kIn (by rw [List.append_nil]; exact hl)
  rw [List.append_nil] at bt
  refine wpAny_call (codeAny_mono (F.runs X.A X.stack s1 H1 ⟨us, []⟩ us vs Q E0 hr I1.env0 bt r q) fun res s2 hq => ?_)
  cases res with
  | error e => exact hq.elim
  | ok fl =>
    cases fl with
    | ret u => exact I1.after hq
    | next => exact hq.elim
    | brk => exact hq.elim
    | cont => exact hq.elim
end
end KX

end
section
set_option Elab.async false
set_option linter.all false
set_option maxRecDepth 100000
set_option maxHeartbeats 4000000
namespace K01
open PySem L2 Kit KR
def top (i : Nat) : Stmt := PySem.Challenge.pw_pullstore_k01_kinds_of_nets.main.body.getD i (.Pass ⟨0, 0, 0, 0⟩)
local macro_rules | `(tactic| fail "om") => `(tactic| first | omega | decide | assumption | (simp only [List.length_map, List.length_append, List.length_cons, List.length_nil]; omega) | fail "no om")
local macro_rules | `(tactic| fail "nz") => `(tactic| first | decide | omega | fail "no nz")
local macro_rules | `(tactic| fail "dv") => `(tactic| exact ⟨by first | decide | omega, by first | decide | omega⟩)
local macro_rules | `(tactic| fail "mul") => `(tactic| first | exact .inr ⟨by decide, by decide⟩ | exact .inl ⟨by decide, by decide⟩ | exact mulF (by decide) (by decide) | exact .inl ⟨by omega, by omega⟩ | exact .inr ⟨by omega, by omega⟩ | fail "no mul")
local macro_rules | `(tactic| fail "sz") => `(tactic| first | assumption | exact Nat.zero_le _ | (show 1 ≤ sizeLine; decide) | (show 2 ≤ sizeLine; decide) | (show 3 ≤ sizeLine; decide) | (show 4 ≤ sizeLine; decide) | (show 5 ≤ sizeLine; decide) | exact Evl.sz_of (by omega) | (refine Evl.sz_of ?_; simp only [List.length_append, List.length_map, List.length_cons, List.length_nil]; omega) | fail "no sz")
local macro_rules | `(tactic| fail "szl") => `(tactic| first | exact Evl.sz_lt (by omega) | (refine Evl.sz_lt ?_; simp only [List.length_append, List.length_map, List.length_cons, List.length_nil]; omega) | fail "no szl")
local macro_rules | `(tactic| fail "ix") => `(tactic| first | assumption | exact ix0 | exact ix1 | exact ix2 | exact at_ref (by assumption) (by omega) | exact at_int (by assumption) (by omega) | exact at_drawn (by assumption) (by assumption) | rfl | fail "no ix")
local macro_rules | `(tactic| fail "ixn") => `(tactic| first | rfl | assumption | fail "no ixn")
local macro_rules | `(tactic| fail "nb") => `(tactic| first | assumption | exact nb_tup | exact nb_nil | exact nb_ints | exact nb_refs | exact nb_ins | exact nb_dT | exact nb_frz | fail "no nb")
local macro_rules | `(tactic| fail "ne") => `(tactic| first | assumption | exact Ne.symm (by assumption) | exact ne_of_none (by assumption) (by assumption) | exact (ne_of_none (by assumption) (by assumption)).symm | exact ne_of (by assumption) (by assumption) (by intro q; cases q) | exact ne_of (by assumption) (by assumption) (by simp) | fail "no ne")
local macro_rules | `(tactic| fail "hp") => `(tactic| first | assumption | exact upd_same | (refine' Tk.get (by assumption) ?k1; (case k1 => fail "tk")) | (with_reducible refine' upd_new ?h1 ?n1; (case n1 => assumption); (case h1 => fail "hp")) | (refine' Same.get (by assumption) ?h1; (case h1 => fail "hp")) | (refine' Kp.get (by assumption) (by fail "bx") ?h1 ?d1; (case h1 => fail "hp"); (case d1 => fail "nb")) | (with_reducible refine' upd_oth ?h1 ?n1; (case n1 => fail "ne"); (case h1 => fail "hp")) | (with_reducible refine' upd_oth ?h1 ?n1; (case h1 => fail "hp"); (case n1 => fail "ne")) | fail "no hp")
local macro_rules | `(tactic| fail "bx") => `(tactic| first | assumption | (with_reducible refine' BoxOk.new ?h1 ?n1; (case n1 => assumption); (case h1 => fail "bx")) | (refine' BoxOk.same (by assumption) ?h1; (case h1 => fail "bx")) | (with_reducible refine' BoxOk.mut ?h1 ?h2 ?n1; (case n1 => assumption); (case h2 => assumption); (case h1 => fail "bx")) | fail "no bx")
local macro_rules | `(tactic| fail "kp") => `(tactic| first | assumption | exact Kp.refl | (with_reducible refine' Kp.at ?h1; (case h1 => fail "kp")) | (with_reducible refine' Kp.new ?h1 ?n1; (case n1 => assumption); (case h1 => fail "kp")) | (with_reducible refine' Kp.mut ?h1 ?n1; (case n1 => assumption); (case h1 => fail "kp")) | (refine' Kp.tr (by assumption) ?h1; (case h1 => fail "kp")) | (refine' Kp.tr (Kp.of (by assumption)) ?h1; (case h1 => fail "kp")) | fail "no kp")
local macro_rules | `(tactic| fail "ite") => `(tactic| first | refine iteT ?_ | refine iteF ?_)
local macro_rules | `(tactic| fail "tt") => `(tactic| first | rfl | exact decide_eq_true (by first | rfl | omega | assumption) | exact decide_eq_true (congrArg V.int (by first | rfl | omega)) | fail "no tt")
local macro_rules | `(tactic| fail "cv") => `(tactic| first | exact .ty _ | exact .own _)
local macro_rules | `(tactic| fail "tx") => `(tactic| first | exact .base (.int _) | exact .base (.bl _) | exact .base .non | exact .base (.lst (by fail "hp")) | exact .base (.tup (by fail "hp")) | fail "no tx")
local macro_rules | `(tactic| fail "dead") => `(tactic| (exfalso; first | omega | contradiction | simp_all))
local macro_rules | `(tactic| fail "dp") => `(tactic| first | exact .tup (SqT.of (by fail "hp")) (.cons (.int _) (.cons (.int _) .nil)) | exact .lst (SqL.of (by fail "hp")) (dpPrs (by fail "pr")) | exact .lst (SqL.of (by fail "hp")) (dpInts _) | exact .lst (SqL.of (by fail "hp")) .nil | fail "no dp")
local macro_rules | `(tactic| fail "shp") => `(tactic| first | assumption | exact prD_shaped _ | exact PySem.W.ke_shaped_ints _ | rfl | fail "no shp")
local macro_rules | `(tactic| fail "pr") => `(tactic| first | assumption | exact PrT.mono (by assumption) (by fail "tk") | fail "no pr")
local macro_rules | `(tactic| fail "tk") => `(tactic| first | assumption | exact Tk.refl | (with_reducible refine' Tk.new ?h1 ?n1; (case n1 => assumption); (case h1 => fail "tk")) | (refine' Tk.tr (Kp.tk (by assumption) (by fail "bx")) ?h1; (case h1 => fail "tk")) | (refine' Tk.tr (Same.tk (by assumption)) ?h1; (case h1 => fail "tk")) | (with_reducible refine' Tk.lst ?h1 ?n1; (case n1 => fail "hp"); (case h1 => fail "tk")) | fail "no tk")

def Df (K : PySem.W.Frag) (mg : Str → Option Value) (x : Str) (st : Stmt) (ps : List Str) : Prop := ∃ (f : Addr) (fd : FuncData), L2.Fun K x x st f fd ∧ mg x = some (.ref f) ∧ Binds K fd ps []
structure Txt (K : PySem.W.Frag) (mg : Str → Option Value) : Prop where
  len : mg "len" = none
  int : mg "int" = none
  bool : mg "bool" = none
  list : mg "list" = none
  tuple : mg "tuple" = none
  range : mg "range" = none
  isinstance : mg "isinstance" = none
  sum : mg "sum" = none
  max : mg "max" = none
  min : mg "min" = none
  set : mg "set" = none
  sorted : mg "sorted" = none
theorem pair_ne {x d n : Int} (h0 : 0 ≤ x) (h1 : x < n) (h2 : 0 ≤ d) (h3 : d < n - 1) : x ≠ (x + 1 + d).fmod n := by
  intro e
  have h4 : (0 : Int) < n := by omega
  by_cases h : x + 1 + d < n
  · rw [Int.fmod_eq_emod_of_nonneg _ (Int.le_of_lt h4), Int.emod_eq_of_lt (by omega) h] at e
    omega
  · have q : x + 1 + d = (x + 1 + d - n) + n * 1 := by omega
    rw [Int.fmod_eq_emod_of_nonneg _ (Int.le_of_lt h4), q, Int.add_mul_emod_self_left, Int.emod_eq_of_lt (by omega) (by omega)] at e
    omega
section
variable {P : Program} {w : World} {K : PySem.W.Frag} {mg : Str → Option Value} {base : Heap}

abbrev sDraw : Stmt := top 24
theorem scDraw : FnScope ["box", "many", "digit", "first", "second", "third"] ["box", "many"] (defScope sDraw) := ⟨rfl, rfl, rfl, by decide +kernel, rfl, by decide +kernel, by decide +kernel⟩
def spDraw : Sp := fun vs H Q _ => ∃ (b bc : Addr) (m : Int), vs = [.ref b, .int m] ∧ BoxOk H b bc ∧ 1 ≤ m ∧ m ≤ 1000000000 ∧
  ∀ (d : Int) (H' : Hp), 0 ≤ d → d < m → Kp b H H' → BoxOk H' b bc → Q (.int d) H'
theorem ok_Draw (D : Df K mg "_law_draw" sDraw ["box", "many"]) (T : Txt K mg) : C8.Cal P w K mg base 1 "_law_draw" spDraw [] := by
  obtain ⟨f, fd, F, hm, hb⟩ := D
  refine ⟨f, fd, ["box", "many"], [], F.ok scDraw (fun vs H Q E h => ?_) (fun cdv A outer s H vs Q E hr h => ?_), hm, F.kp, hb, .nil⟩
  · obtain ⟨b, c, m, rfl, ⟨ns, x1, x2, x3, x4, hb, hc, h1⟩, hm1, hm2, k⟩ := h
    rfl
  · obtain ⟨b, c, m, rfl, ⟨ns, x1, x2, x3, x4, hb, hc, h1⟩, hm1, hm2, k⟩ := h
    refine ⟨_, (pss_cons (ps_if (pt_cmpR op_gt (pe_ix ix_list (pv 0) pe_int (fun _ _ => rfl)) pe_int (nomark _))
        (pss_cons (ps_set (i := 2) scDraw.nd rfl (Or.inl rfl) (pe_op op_modN (pe_callTy call_int1 (by rfl) T.int (by decide +kernel) (pa_cons (pe_ix ix_list (pv 0) pe_int (fun _ _ => rfl)) pa_nil)) (pv 1)))
        (pss_cons (ps_asg (pe_op op_fdivN (pe_ix ix_list (pv 0) pe_int (fun _ _ => rfl)) (pv 1)) (pg_sub (pv 0) pe_int set_list))
        (pss_one (ps_ret (pv 2)))))
        pss_nil)
      (pss_cons (ps_asg (pe_op op_add (pe_ix ix_list (pv 0) pe_int (fun _ _ => rfl)) pe_int) (pg_sub (pv 0) pe_int set_list))
      (pss_cons (ps_set (i := 3) scDraw.nd rfl (Or.inl rfl) (pe_op op_modN (pe_callTy call_int1 (by rfl) T.int (by decide +kernel) (pa_cons (pe_op op_add (pe_op op_mul (pe_ix ix_list (pv 0) pe_int (fun _ _ => rfl)) pe_int) (pe_op op_mul (pe_ix ix_list (pv 0) pe_int (fun _ _ => rfl)) pe_int)) pa_nil)) pe_int))
      (pss_cons (ps_set (i := 4) scDraw.nd rfl (Or.inl rfl) (pe_op op_modN (pe_callTy call_int1 (by rfl) T.int (by decide +kernel) (pa_cons (pe_op op_add (pe_op op_add (pe_op op_mul (pv 3) (pv 3)) (pe_op op_mul (pe_ix ix_list (pv 0) pe_int (fun _ _ => rfl)) pe_int)) (pe_ix ix_list (pv 0) pe_int (fun _ _ => rfl))) pa_nil)) pe_int))
      (pss_cons (ps_set (i := 5) scDraw.nd rfl (Or.inl rfl) (pe_op op_modN (pe_callTy call_int1 (by rfl) T.int (by decide +kernel) (pa_cons (pe_op op_add (pe_op op_mul (pv 4) (pv 4)) (pv 3)) pa_nil)) pe_int))
      (pss_one (ps_ret (pe_op op_modN (pe_callTy call_int1 (by rfl) T.int (by decide +kernel) (pa_cons (pe_op op_fdivN (pv 5) pe_int) pa_nil)) (pv 1))))))))), ?_⟩
    -- if box[2] > 0:
    refine ⟨_, rfl, _, _, _, _, rfl, rfl, SqL.of (by fail "hp"), (by fail "ix"), _, _, rfl, rfl, _, rfl, ?_⟩
    refine ifD (fun g1 => ?_) (fun g1 => ?_)
    · -- digit = int(box[2]) % many
      refine ⟨_, rfl, _, _, _, _, rfl, rfl, SqL.of (by fail "hp"), (by fail "ix"), .inl ⟨_, rfl, _, rfl, _, _, rfl, rfl, (by fail "nz"), ?_⟩⟩
      -- box[2] = box[2] // many
      refine ⟨_, rfl, _, _, _, _, rfl, rfl, SqL.of (by fail "hp"), (by fail "ix"), _, rfl, _, _, rfl, rfl, (by fail "dv"), _, rfl, _, _, _, _, rfl, rfl, (by fail "hp"), (by fail "ixn"), ?_⟩
      -- return digit
      refine ⟨_, rfl, ?_⟩
      refine k _ _ (fm0 _ (by omega)) (fm1 _ (by omega)) (by fail "kp") ?_
      exact ⟨ns, x1, _, x3, x4, upd_same, by rw [upd_ne (box_c hb hc)]; exact hc, h1⟩
    · -- box[3] = box[3] + 1
      refine ⟨_, rfl, _, _, _, _, rfl, rfl, SqL.of (by fail "hp"), (by fail "ix"), _, _, rfl, rfl, _, rfl, _, _, _, _, rfl, rfl, (by fail "hp"), (by fail "ixn"), ?_⟩
      -- first = int(box[4] * 48271 + box[3] * 69621) % 2147483647
      refine ⟨_, rfl, _, _, _, _, rfl, rfl, SqL.of (by fail "hp"), (by fail "ix"), _, _, rfl, rfl, (by fail "mul"), _, rfl, _, _, _, _, rfl, rfl, SqL.of (by fail "hp"), (by fail "ix"), _, _, rfl, rfl, (by fail "mul"), _, _, rfl, rfl, .inl ⟨_, rfl, _, _, rfl, rfl, (by fail "nz"), ?_⟩⟩
      -- second = int(first * first + box[3] * 40692 + box[4]) % 2147483399
      refine ⟨_, rfl, _, rfl, _, _, rfl, rfl, (by fail "mul"), _, rfl, _, _, _, _, rfl, rfl, SqL.of (by fail "hp"), (by fail "ix"), _, _, rfl, rfl, (by fail "mul"), _, _, rfl, rfl, _, rfl, _, _, _, _, rfl, rfl, SqL.of (by fail "hp"), (by fail "ix"), _, _, rfl, rfl, .inl ⟨_, rfl, _, _, rfl, rfl, (by fail "nz"), ?_⟩⟩
      -- third = int(second * second + first) % 2147483629
      refine ⟨_, rfl, _, rfl, _, _, rfl, rfl, (by fail "mul"), _, rfl, _, _, rfl, rfl, .inl ⟨_, rfl, _, _, rfl, rfl, (by fail "nz"), ?_⟩⟩
      -- return int(third // 8) % many
      refine ⟨_, rfl, _, _, rfl, rfl, (by fail "dv"), .inl ⟨_, rfl, _, rfl, _, _, rfl, rfl, (by fail "nz"), ?_⟩⟩
      refine k _ _ (fm0 _ (by omega)) (fm1 _ (by omega)) (by fail "kp") ?_
      exact ⟨ns, x1, x2, _, x4, upd_same, by rw [upd_ne (box_c hb hc)]; exact hc, h1⟩
abbrev sGreat : Stmt := top 25
theorem scGreat : FnScope ["box", "low", "middle", "high", "top"] ["box"] (defScope sGreat) := ⟨rfl, rfl, rfl, by decide +kernel, rfl, by decide +kernel, by decide +kernel⟩
def spGreat : Sp := fun vs H Q _ => ∃ (b bc : Addr), vs = [.ref b] ∧ BoxOk H b bc ∧
  ∀ (d : Int) (H' : Hp), 0 ≤ d → Kp b H H' → BoxOk H' b bc → Q (.int d) H'
theorem ok_Great (D : Df K mg "_law_great" sGreat ["box"]) (T : Txt K mg) (GDraw : C8.Cal P w K mg base 1 "_law_draw" spDraw []) : C8.Cal P w K mg base 2 "_law_great" spGreat [] := by
  obtain ⟨f, fd, F, hm, hb⟩ := D
  refine ⟨f, fd, ["box"], [], F.ok scGreat (fun vs H Q E h => ?_) (fun cdv A outer s H vs Q E hr h => ?_), hm, F.kp, hb, .nil⟩
  · obtain ⟨b, bc, rfl, bx, k⟩ := h
    rfl
  · obtain ⟨b, bc, rfl, bx, k⟩ := h
    refine ⟨_, (pss_cons (ps_set (i := 1) scGreat.nd rfl (Or.inl rfl) (C8.pe_c GDraw hr (by decide) (by rfl) (pa_cons (pv 0) (pa_cons (pe_op op_pow pe_int pe_int) pa_nil))))
      (pss_cons (ps_set (i := 2) scGreat.nd rfl (Or.inl rfl) (C8.pe_c GDraw hr (by decide) (by rfl) (pa_cons (pv 0) (pa_cons (pe_op op_pow pe_int pe_int) pa_nil))))
      (pss_cons (ps_set (i := 3) scGreat.nd rfl (Or.inl rfl) (C8.pe_c GDraw hr (by decide) (by rfl) (pa_cons (pv 0) (pa_cons (pe_op op_pow pe_int pe_int) pa_nil))))
      (pss_cons (ps_set (i := 4) scGreat.nd rfl (Or.inl rfl) (C8.pe_c GDraw hr (by decide) (by rfl) (pa_cons (pv 0) (pa_cons (pe_op op_pow pe_int pe_int) pa_nil))))
      (pss_one (ps_ret (pe_op op_add (pe_op op_mul (pe_op op_add (pe_op op_mul (pe_op op_add (pe_op op_mul (pv 4) (pe_op op_pow pe_int pe_int)) (pv 3)) (pe_op op_pow pe_int pe_int)) (pv 2)) (pe_op op_pow pe_int pe_int)) (pv 1)))))))), ?_⟩
    -- low = _law_draw(box, 10 ** 8)
    refine ⟨_, rfl, _, _, rfl, rfl, ⟨by decide, by decide, by decide⟩, _, _, _, rfl, (by fail "bx"), (by fail "om"), (by fail "om"), fun d1 H1 da1 db1 kp1 bx1 => ?_⟩
    -- middle = _law_draw(box, 10 ** 8)
    refine ⟨_, rfl, _, _, rfl, rfl, ⟨by decide, by decide, by decide⟩, _, _, _, rfl, (by fail "bx"), (by fail "om"), (by fail "om"), fun d2 H2 da2 db2 kp2 bx2 => ?_⟩
    -- high = _law_draw(box, 10 ** 8)
    refine ⟨_, rfl, _, _, rfl, rfl, ⟨by decide, by decide, by decide⟩, _, _, _, rfl, (by fail "bx"), (by fail "om"), (by fail "om"), fun d3 H3 da3 db3 kp3 bx3 => ?_⟩
    -- top = _law_draw(box, 10 ** 6)
    refine ⟨_, rfl, _, _, rfl, rfl, ⟨by decide, by decide, by decide⟩, _, _, _, rfl, (by fail "bx"), (by fail "om"), (by fail "om"), fun d4 H4 da4 db4 kp4 bx4 => ?_⟩
    -- return ((top * 10 ** 8 + high) * 10 ** 8 + middle) * 10 ** 8 + low
    refine ⟨_, rfl, _, _, rfl, rfl, ⟨by decide, by decide, by decide⟩, _, _, rfl, rfl, (by fail "mul"), _, rfl, _, _, rfl, rfl, _, _, rfl, rfl, ⟨by decide, by decide, by decide⟩, _, _, rfl, rfl, (by fail "mul"), _, rfl, _, _, rfl, rfl, _, _, rfl, rfl, ⟨by decide, by decide, by decide⟩, _, _, rfl, rfl, (by fail "mul"), _, rfl, _, _, rfl, rfl, ?_⟩
    refine k _ _ ?_ (by fail "kp") (by fail "bx")
    show 0 ≤ ((d4 * (100000000 : Int) + d3) * (100000000 : Int) + d2) * (100000000 : Int) + d1
    omega
abbrev sIsInt : Stmt := top 26
theorem scIsInt : FnScope ["actual"] ["actual"] (defScope sIsInt) := ⟨rfl, rfl, rfl, by decide +kernel, rfl, by decide +kernel, by decide +kernel⟩
def spIsInt : Sp := fun vs H Q _ => ∃ (i : Int), vs = [.int i] ∧ Q (.bl true) H
theorem ok_IsInt (D : Df K mg "_law_is_int" sIsInt ["actual"]) (T : Txt K mg) : C8.Cal P w K mg base 1 "_law_is_int" spIsInt [] := by
  obtain ⟨f, fd, F, hm, hb⟩ := D
  refine ⟨f, fd, ["actual"], [], F.ok scIsInt (fun vs H Q E h => ?_) (fun cdv A outer s H vs Q E hr h => ?_), hm, F.kp, hb, .nil⟩
  · obtain ⟨i, rfl, k⟩ := h
    rfl
  · obtain ⟨i, rfl, k⟩ := h
    refine ⟨_, (pss_one (ps_ret (pe_and (pe_callB call_isi (by rfl) T.isinstance (by decide +kernel) (pa_cons (pv 0) (pa_cons (pe_bltn (v := .ty "int") (u := .type "int") (by rfl) T.int (by decide +kernel) rfl) pa_nil))) (pe_one (pe_not (pe_callB call_isi (by rfl) T.isinstance (by decide +kernel) (pa_cons (pv 0) (pa_cons (pe_bltn (v := .ty "bool") (u := .type "bool") (by rfl) T.bool (by decide +kernel) rfl) pa_nil)))))))), ?_⟩
    -- return isinstance(actual, int) and (not isinstance(actual, bool))
    refine ⟨_, rfl, _, _, _, _, true, rfl, (by fail "cv"), (by fail "tx"), kit_ty (by decide +kernel), _, rfl, iteK (by fail "tt") ⟨_, rfl, _, _, _, _, false, rfl, (by fail "cv"), (by fail "tx"), kit_ty (by decide +kernel), _, rfl, ?_⟩⟩
    exact k
abbrev sStranger : Stmt := top 27
theorem scStranger : FnScope ["box", "count", "kind", "great"] ["box", "count"] (defScope sStranger) := ⟨rfl, rfl, rfl, by decide +kernel, rfl, by decide +kernel, by decide +kernel⟩
def spStranger : Sp := fun vs H Q _ => ∃ (b bc : Addr) (n : Int), vs = [.ref b, .int n] ∧ BoxOk H b bc ∧ 0 < n ∧
  ∀ (d : Int) (H' : Hp), (d < 0 ∨ n ≤ d) → Kp b H H' → BoxOk H' b bc → Q (.int d) H'
theorem ok_Stranger (D : Df K mg "_law_stranger" sStranger ["box", "count"]) (T : Txt K mg) (GDraw : C8.Cal P w K mg base 1 "_law_draw" spDraw []) (GGreat : C8.Cal P w K mg base 2 "_law_great" spGreat []) : C8.Cal P w K mg base 3 "_law_stranger" spStranger [] := by
  obtain ⟨f, fd, F, hm, hb⟩ := D
  refine ⟨f, fd, ["box", "count"], [], F.ok scStranger (fun vs H Q E h => ?_) (fun cdv A outer s H vs Q E hr h => ?_), hm, F.kp, hb, .nil⟩
  · obtain ⟨b, bc, n, rfl, bx, hn, k⟩ := h
    rfl
  · obtain ⟨b, bc, n, rfl, bx, hn, k⟩ := h
    refine ⟨_, (pss_cons (ps_set (i := 2) scStranger.nd rfl (Or.inl rfl) (C8.pe_c GDraw hr (by decide) (by rfl) (pa_cons (pv 0) (pa_cons pe_int pa_nil))))
      (pss_cons (ps_if (pt_cmpR op_eq (pv 2) pe_int (nomark _))
        (pss_one (ps_ret (pe_un un_neg pe_int)))
        pss_nil)
      (pss_cons (ps_if (pt_cmpR op_eq (pv 2) pe_int (nomark _))
        (pss_one (ps_ret (pv 1)))
        pss_nil)
      (pss_cons (ps_if (pt_cmpR op_eq (pv 2) pe_int (nomark _))
        (pss_one (ps_ret (pe_op op_sub (pe_un un_neg pe_int) (C8.pe_c GDraw hr (by decide) (by rfl) (pa_cons (pv 0) (pa_cons pe_int pa_nil))))))
        pss_nil)
      (pss_cons (ps_if (pt_cmpR op_eq (pv 2) pe_int (nomark _))
        (pss_one (ps_ret (pe_op op_add (pv 1) (C8.pe_c GDraw hr (by decide) (by rfl) (pa_cons (pv 0) (pa_cons pe_int pa_nil))))))
        pss_nil)
      (pss_cons (ps_set (i := 3) scStranger.nd rfl (Or.inl rfl) (C8.pe_c GGreat hr (by decide) (by rfl) (pa_cons (pv 0) pa_nil)))
      (pss_cons (ps_if (pt_cmpR op_eq (pv 2) pe_int (nomark _))
        (pss_one (ps_ret (pe_callB (call_max2 rfl) (by rfl) T.max (by decide +kernel) (pa_cons (pv 1) (pa_cons (pv 3) pa_nil)))))
        pss_nil)
      (pss_one (ps_ret (pe_callB (call_min2 rfl) (by rfl) T.min (by decide +kernel) (pa_cons (pe_un un_neg pe_int) (pa_cons (pe_op op_sub pe_int (pv 3)) pa_nil)))))))))))), ?_⟩
    -- kind = _law_draw(box, 6)
    refine ⟨_, rfl, _, _, _, rfl, (by fail "bx"), (by fail "om"), (by fail "om"), fun d1 H1 da1 db1 kp1 bx1 => ?_⟩
    -- if kind == 0:
    refine ⟨_, rfl, rfl, _, rfl, ?_⟩
    refine ifEqI (fun g2 => ?_) (fun g2 => ?_)
    · -- return -1
      refine ⟨_, rfl, ?_⟩
      exact k _ _ (by omega) (by fail "kp") (by fail "bx")
    · -- if kind == 1:
      refine ⟨_, rfl, rfl, _, rfl, ?_⟩
      refine ifEqI (fun g3 => ?_) (fun g3 => ?_)
      · -- return count
        refine ⟨_, rfl, ?_⟩
        exact k _ _ (by omega) (by fail "kp") (by fail "bx")
      · -- if kind == 2:
        refine ⟨_, rfl, rfl, _, rfl, ?_⟩
        refine ifEqI (fun g4 => ?_) (fun g4 => ?_)
        · -- return -1 - _law_draw(box, 24)
          refine ⟨_, rfl, _, rfl, _, _, _, rfl, (by fail "bx"), (by fail "om"), (by fail "om"), fun d5 H5 da5 db5 kp5 bx5 => ⟨_, _, rfl, rfl, ?_⟩⟩
          exact k _ _ (by omega) (by fail "kp") (by fail "bx")
        · -- if kind == 3:
          refine ⟨_, rfl, rfl, _, rfl, ?_⟩
          refine ifEqI (fun g6 => ?_) (fun g6 => ?_)
          · -- return count + _law_draw(box, 4)
            refine ⟨_, rfl, _, rfl, _, _, _, rfl, (by fail "bx"), (by fail "om"), (by fail "om"), fun d7 H7 da7 db7 kp7 bx7 => ⟨_, _, rfl, rfl, ?_⟩⟩
            exact k _ _ (by omega) (by fail "kp") (by fail "bx")
          · -- great = _law_great(box)
            refine ⟨_, rfl, _, _, rfl, (by fail "bx"), fun d8 H8 da8 kp8 bx8 => ?_⟩
            -- if kind == 4:
            refine ⟨_, rfl, rfl, _, rfl, ?_⟩
            refine ifEqI (fun g9 => ?_) (fun g9 => ?_)
            · -- return max(count, great)
              refine ⟨_, rfl, _, rfl, _, _, rfl, ?_⟩
              exact k _ _ (by split <;> omega) (by fail "kp") (by fail "bx")
            · -- return min(-1, 0 - great)
              refine ⟨_, rfl, _, rfl, _, _, rfl, rfl, _, _, rfl, ?_⟩
              exact k _ _ (by split <;> omega) (by fail "kp") (by fail "bx")
abbrev sTruth : Stmt := top 28
theorem scTruth : FnScope ["actual", "due"] ["actual", "due"] (defScope sTruth) := ⟨rfl, rfl, rfl, by decide +kernel, rfl, by decide +kernel, by decide +kernel⟩
def spTruth : Sp := fun vs H Q _ => ∃ (a : Bool), vs = [.bl a, .bl a] ∧ Q (.bl true) H
theorem ok_Truth (D : Df K mg "_law_truth" sTruth ["actual", "due"]) (T : Txt K mg) : C8.Cal P w K mg base 1 "_law_truth" spTruth [] := by
  obtain ⟨f, fd, F, hm, hb⟩ := D
  refine ⟨f, fd, ["actual", "due"], [], F.ok scTruth (fun vs H Q E h => ?_) (fun cdv A outer s H vs Q E hr h => ?_), hm, F.kp, hb, .nil⟩
  · obtain ⟨a, rfl, k⟩ := h
    rfl
  · obtain ⟨a, rfl, k⟩ := h
    refine ⟨_, (pss_one (ps_ret (pe_and (pe_callB call_isi (by rfl) T.isinstance (by decide +kernel) (pa_cons (pv 0) (pa_cons (pe_bltn (v := .ty "bool") (u := .type "bool") (by rfl) T.bool (by decide +kernel) rfl) pa_nil))) (pe_one (pe_cmpR op_eq (pv 0) (pv 1) (nomark _)))))), ?_⟩
    -- return isinstance(actual, bool) and actual == due
    refine ⟨_, rfl, _, _, _, _, true, rfl, (by fail "cv"), (by fail "tx"), kit_ty (by decide +kernel), _, rfl, iteK (by fail "tt") ⟨_, rfl, _, rfl, rfl, ?_⟩⟩
    rw [decide_eq_true rfl]
    exact k
abbrev sCount : Stmt := top 30
theorem scCount : FnScope ["box", "share"] ["box"] (defScope sCount) := ⟨rfl, rfl, rfl, by decide +kernel, rfl, by decide +kernel, by decide +kernel⟩
def spCount : Sp := fun vs H Q _ => ∃ (b bc : Addr), vs = [.ref b] ∧ BoxOk H b bc ∧
  ∀ (d : Int) (H' : Hp), 1 ≤ d → d ≤ 24 → Kp b H H' → BoxOk H' b bc → Q (.int d) H'
theorem ok_Count (D : Df K mg "_law_count" sCount ["box"]) (T : Txt K mg) (GDraw : C8.Cal P w K mg base 1 "_law_draw" spDraw []) : C8.Cal P w K mg base 2 "_law_count" spCount [] := by
  obtain ⟨f, fd, F, hm, hb⟩ := D
  refine ⟨f, fd, ["box"], [], F.ok scCount (fun vs H Q E h => ?_) (fun cdv A outer s H vs Q E hr h => ?_), hm, F.kp, hb, .nil⟩
  · obtain ⟨b, bc, rfl, bx, k⟩ := h
    rfl
  · obtain ⟨b, bc, rfl, bx, k⟩ := h
    refine ⟨_, (pss_cons (ps_set (i := 1) scCount.nd rfl (Or.inl rfl) (C8.pe_c GDraw hr (by decide) (by rfl) (pa_cons (pv 0) (pa_cons pe_int pa_nil))))
      (pss_cons (ps_if (pt_cmpR op_lt (pv 1) pe_int (nomark _))
        (pss_one (ps_ret (pe_op op_add pe_int (C8.pe_c GDraw hr (by decide) (by rfl) (pa_cons (pv 0) (pa_cons pe_int pa_nil))))))
        pss_nil)
      (pss_cons (ps_if (pt_cmpR op_eq (pv 1) pe_int (nomark _))
        (pss_one (ps_ret (pe_op op_add pe_int (C8.pe_c GDraw hr (by decide) (by rfl) (pa_cons (pv 0) (pa_cons pe_int pa_nil))))))
        pss_nil)
      (pss_one (ps_ret (pe_op op_add pe_int (C8.pe_c GDraw hr (by decide) (by rfl) (pa_cons (pv 0) (pa_cons pe_int pa_nil))))))))), ?_⟩
    -- share = _law_draw(box, 8)
    refine ⟨_, rfl, _, _, _, rfl, (by fail "bx"), (by fail "om"), (by fail "om"), fun d1 H1 da1 db1 kp1 bx1 => ?_⟩
    -- if share < 6:
    refine ⟨_, rfl, _, _, rfl, rfl, _, rfl, ?_⟩
    refine ifD (fun g2 => ?_) (fun g2 => ?_)
    · -- return 1 + _law_draw(box, 6)
      refine ⟨_, rfl, _, _, _, rfl, (by fail "bx"), (by fail "om"), (by fail "om"), fun d3 H3 da3 db3 kp3 bx3 => ⟨_, _, rfl, rfl, ?_⟩⟩
      exact k _ _ (by omega) (by omega) (by fail "kp") (by fail "bx")
    · -- if share == 6:
      refine ⟨_, rfl, rfl, _, rfl, ?_⟩
      refine ifEqI (fun g4 => ?_) (fun g4 => ?_)
      · -- return 1 + _law_draw(box, 24)
        refine ⟨_, rfl, _, _, _, rfl, (by fail "bx"), (by fail "om"), (by fail "om"), fun d5 H5 da5 db5 kp5 bx5 => ⟨_, _, rfl, rfl, ?_⟩⟩
        exact k _ _ (by omega) (by omega) (by fail "kp") (by fail "bx")
      · -- return 23 + _law_draw(box, 2)
        refine ⟨_, rfl, _, _, _, rfl, (by fail "bx"), (by fail "om"), (by fail "om"), fun d6 H6 da6 db6 kp6 bx6 => ⟨_, _, rfl, rfl, ?_⟩⟩
        exact k _ _ (by omega) (by omega) (by fail "kp") (by fail "bx")
def spPair : Sp := fun vs H Q _ => ∃ (b bc : Addr) (n : Int), vs = [.ref b, .int n] ∧ BoxOk H b bc ∧ 2 ≤ n ∧ n ≤ 24 ∧
  ∀ (x y : Int) (t : Addr) (H' : Hp), 0 ≤ x → x < n → 0 ≤ y → y < n → x ≠ y → Kp b H H' → BoxOk H' b bc → H t = none → t ≠ b → H' t = some (.tup [.int x, .int y]) → Q (.ref t) H'
end
end K01

end
section
set_option Elab.async false
set_option linter.all false
set_option maxRecDepth 100000
set_option maxHeartbeats 4000000
namespace K01
open PySem L2 Kit KR
local macro_rules | `(tactic| fail "om") => `(tactic| first | omega | decide | assumption | (simp only [List.length_map, List.length_append, List.length_cons, List.length_nil]; omega) | fail "no om")
local macro_rules | `(tactic| fail "nz") => `(tactic| first | decide | omega | fail "no nz")
local macro_rules | `(tactic| fail "dv") => `(tactic| exact ⟨by first | decide | omega, by first | decide | omega⟩)
local macro_rules | `(tactic| fail "mul") => `(tactic| first | exact .inr ⟨by decide, by decide⟩ | exact .inl ⟨by decide, by decide⟩ | exact mulF (by decide) (by decide) | exact .inl ⟨by omega, by omega⟩ | exact .inr ⟨by omega, by omega⟩ | fail "no mul")
local macro_rules | `(tactic| fail "sz") => `(tactic| first | assumption | exact Nat.zero_le _ | (show 1 ≤ sizeLine; decide) | (show 2 ≤ sizeLine; decide) | (show 3 ≤ sizeLine; decide) | (show 4 ≤ sizeLine; decide) | (show 5 ≤ sizeLine; decide) | exact Evl.sz_of (by omega) | (refine Evl.sz_of ?_; simp only [List.length_append, List.length_map, List.length_cons, List.length_nil]; omega) | fail "no sz")
local macro_rules | `(tactic| fail "szl") => `(tactic| first | exact Evl.sz_lt (by omega) | (refine Evl.sz_lt ?_; simp only [List.length_append, List.length_map, List.length_cons, List.length_nil]; omega) | fail "no szl")
local macro_rules | `(tactic| fail "ix") => `(tactic| first | assumption | exact ix0 | exact ix1 | exact ix2 | exact at_ref (by assumption) (by omega) | exact at_int (by assumption) (by omega) | exact at_drawn (by assumption) (by assumption) | rfl | fail "no ix")
local macro_rules | `(tactic| fail "ixn") => `(tactic| first | rfl | assumption | fail "no ixn")
local macro_rules | `(tactic| fail "nb") => `(tactic| first | assumption | exact nb_tup | exact nb_nil | exact nb_ints | exact nb_refs | exact nb_ins | exact nb_dT | exact nb_frz | fail "no nb")
local macro_rules | `(tactic| fail "ne") => `(tactic| first | assumption | exact Ne.symm (by assumption) | exact ne_of_none (by assumption) (by assumption) | exact (ne_of_none (by assumption) (by assumption)).symm | exact ne_of (by assumption) (by assumption) (by intro q; cases q) | exact ne_of (by assumption) (by assumption) (by simp) | fail "no ne")
local macro_rules | `(tactic| fail "hp") => `(tactic| first | assumption | exact upd_same | (refine' Tk.get (by assumption) ?k1; (case k1 => fail "tk")) | (with_reducible refine' upd_new ?h1 ?n1; (case n1 => assumption); (case h1 => fail "hp")) | (refine' Same.get (by assumption) ?h1; (case h1 => fail "hp")) | (refine' Kp.get (by assumption) (by fail "bx") ?h1 ?d1; (case h1 => fail "hp"); (case d1 => fail "nb")) | (with_reducible refine' upd_oth ?h1 ?n1; (case n1 => fail "ne"); (case h1 => fail "hp")) | (with_reducible refine' upd_oth ?h1 ?n1; (case h1 => fail "hp"); (case n1 => fail "ne")) | fail "no hp")
local macro_rules | `(tactic| fail "bx") => `(tactic| first | assumption | (with_reducible refine' BoxOk.new ?h1 ?n1; (case n1 => assumption); (case h1 => fail "bx")) | (refine' BoxOk.same (by assumption) ?h1; (case h1 => fail "bx")) | (with_reducible refine' BoxOk.mut ?h1 ?h2 ?n1; (case n1 => assumption); (case h2 => assumption); (case h1 => fail "bx")) | fail "no bx")
local macro_rules | `(tactic| fail "kp") => `(tactic| first | assumption | exact Kp.refl | (with_reducible refine' Kp.at ?h1; (case h1 => fail "kp")) | (with_reducible refine' Kp.new ?h1 ?n1; (case n1 => assumption); (case h1 => fail "kp")) | (with_reducible refine' Kp.mut ?h1 ?n1; (case n1 => assumption); (case h1 => fail "kp")) | (refine' Kp.tr (by assumption) ?h1; (case h1 => fail "kp")) | (refine' Kp.tr (Kp.of (by assumption)) ?h1; (case h1 => fail "kp")) | fail "no kp")
local macro_rules | `(tactic| fail "ite") => `(tactic| first | refine iteT ?_ | refine iteF ?_)
local macro_rules | `(tactic| fail "tt") => `(tactic| first | rfl | exact decide_eq_true (by first | rfl | omega | assumption) | exact decide_eq_true (congrArg V.int (by first | rfl | omega)) | fail "no tt")
local macro_rules | `(tactic| fail "cv") => `(tactic| first | exact .ty _ | exact .own _)
local macro_rules | `(tactic| fail "tx") => `(tactic| first | exact .base (.int _) | exact .base (.bl _) | exact .base .non | exact .base (.lst (by fail "hp")) | exact .base (.tup (by fail "hp")) | fail "no tx")
local macro_rules | `(tactic| fail "dead") => `(tactic| (exfalso; first | omega | contradiction | simp_all))
local macro_rules | `(tactic| fail "dp") => `(tactic| first | exact .tup (SqT.of (by fail "hp")) (.cons (.int _) (.cons (.int _) .nil)) | exact .lst (SqL.of (by fail "hp")) (dpPrs (by fail "pr")) | exact .lst (SqL.of (by fail "hp")) (dpInts _) | exact .lst (SqL.of (by fail "hp")) .nil | fail "no dp")
local macro_rules | `(tactic| fail "shp") => `(tactic| first | assumption | exact prD_shaped _ | exact PySem.W.ke_shaped_ints _ | rfl | fail "no shp")
local macro_rules | `(tactic| fail "pr") => `(tactic| first | assumption | exact PrT.mono (by assumption) (by fail "tk") | fail "no pr")
local macro_rules | `(tactic| fail "tk") => `(tactic| first | assumption | exact Tk.refl | (with_reducible refine' Tk.new ?h1 ?n1; (case n1 => assumption); (case h1 => fail "tk")) | (refine' Tk.tr (Kp.tk (by assumption) (by fail "bx")) ?h1; (case h1 => fail "tk")) | (refine' Tk.tr (Same.tk (by assumption)) ?h1; (case h1 => fail "tk")) | (with_reducible refine' Tk.lst ?h1 ?n1; (case n1 => fail "hp"); (case h1 => fail "tk")) | fail "no tk")

theorem eqv_pair (x y : Int) : PyData.eqv (.tuple [.int x, .int y]) (.tuple [.int x, .int y]) = true := SeqAt.eqv_refl _ rfl
section
variable {P : Program} {w : World} {K : PySem.W.Frag} {mg : Str → Option Value} {base : Heap}

def spIsPair : Sp := fun vs H Q _ => ∃ (p q : Addr) (x y : Int), vs = [.ref p, .ref q] ∧ H p = some (.tup [.int x, .int y]) ∧ H q = some (.tup [.int x, .int y]) ∧ Q (.bl true) H
def spPairsAre : Sp := fun vs H Q _ => ∃ (a c : Addr) (as cs : List Addr) (ps : List (Int × Int)), vs = [.ref a, .ref c] ∧ H a = some (.lst (as.map V.ref)) ∧ H c = some (.lst (cs.map V.ref)) ∧
  PrT H as ps ∧ PrT H cs ps ∧ ps.length ≤ 1000 ∧ Q (.bl true) H
theorem len2 {as cs : List Addr} {H : Hp} {ps : List (Int × Int)} (pa : PrT H as ps) (pc : PrT H cs ps) : (((as.map V.ref).length : Nat) : Int) = (((cs.map V.ref).length : Nat) : Int) := by
  rw [List.length_map, List.length_map, pa.1, pc.1]
abbrev sIntsAre : Stmt := top 29
theorem scIntsAre : FnScope ["told", "due", "k"] ["told", "due"] (defScope sIntsAre) := ⟨rfl, rfl, rfl, by decide +kernel, rfl, by decide +kernel, by decide +kernel⟩
def spIntsAre : Sp := fun vs H Q _ => ∃ (a c : Addr) (ns : List Int), vs = [.ref a, .ref c] ∧ H a = some (.lst (ns.map V.int)) ∧ H c = some (.lst (ns.map V.int)) ∧ ns.length ≤ 1000 ∧ Q (.bl true) H
theorem ok_IntsAre (D : Df K mg "_law_ints_are" sIntsAre ["told", "due"]) (T : Txt K mg) (GIsInt : C8.Cal P w K mg base 1 "_law_is_int" spIsInt []) : C8.Cal P w K mg base 2 "_law_ints_are" spIntsAre [] := by
  obtain ⟨f, fd, F, hm, hb⟩ := D
  refine ⟨f, fd, ["told", "due"], [], F.ok scIntsAre (fun vs H Q E h => ?_) (fun cdv A outer s H vs Q E hr h => ?_), hm, F.kp, hb, .nil⟩
  · obtain ⟨a, c, ns, rfl, ha, hc, hl, k⟩ := h
    rfl
  · obtain ⟨a, c, ns, rfl, ha, hc, hl, k⟩ := h
    refine ⟨_, (pss_cons (ps_if (PW.pt (pw_or (pt_not (pt_val (pe_callB call_isi (by rfl) T.isinstance (by decide +kernel) (pa_cons (pv 0) (pa_cons (pe_bltn (v := .ty "list") (u := .type "list") (by rfl) T.list (by decide +kernel) rfl) pa_nil))))) (pw_or1 (pt_cmpR op_ne (pe_callB call_len_seq (by rfl) T.len (by decide +kernel) (pa_cons (pv 0) pa_nil)) (pe_callB call_len_seq (by rfl) T.len (by decide +kernel) (pa_cons (pv 1) pa_nil)) (nomark _)))))
        (pss_one (ps_ret pe_bl))
        pss_nil)
      (pss_cons (ps_for PassesOwn.never rfl (pi_range1 rfl T.range (pa_cons (pe_callB call_len_seq (by rfl) T.len (by decide +kernel) (pa_cons (pv 1) pa_nil)) pa_nil)) (pg_name (i := 2) scIntsAre.nd rfl (Or.inl rfl))
        (pss_one (ps_if (PW.pt (pw_or (pt_not (pt_val (C8.pe_c GIsInt hr (by decide) (by rfl) (pa_cons (pe_ix ix_list (pv 0) (pv 2) (fun _ _ => rfl)) pa_nil)))) (pw_or1 (pt_cmpR op_ne (pe_ix ix_list (pv 0) (pv 2) (fun _ _ => rfl)) (pe_ix ix_list (pv 1) (pv 2) (fun _ _ => rfl)) (nomark _)))))
          (pss_one (ps_ret pe_bl))
          pss_nil)))
      (pss_one (ps_ret pe_bl)))), ?_⟩
    -- if not isinstance(told, list) or len(told) != len(due):
    refine ⟨_, rfl, _, _, _, _, true, rfl, (by fail "cv"), (by fail "tx"), kit_ty (by decide +kernel), _, rfl, ?_⟩
    fail "ite"
    refine ⟨_, rfl, _, _, rfl, .inl (SqL.of (by fail "hp")), _, rfl, _, _, rfl, .inl (SqL.of (by fail "hp")), rfl, _, rfl, ?_⟩
    refine ifNeI (fun g1 => ?_) (fun g1 => ?_)
    · -- return False
      exact absurd rfl g1
    · -- for k in range(len(due)):
      refine ⟨_, rfl, _, _, rfl, .inl (SqL.of (by fail "hp")), _, rfl, (by fail "om"), (by fail "om"), for_range (lo := 0) (fun i σ H' => H' = H ∧ ∃ v, σ = [some (.ref a), some (.ref c), v]) ⟨rfl, none, rfl⟩ ?_ ?_⟩
      · rintro i σ H' hi ⟨rfl, v, rfl⟩
        have hi' : i < ns.length := by
          simp at hi
          omega
        have e1 := List.getElem?_eq_getElem hi'
        -- if not _law_is_int(told[k]) or told[k] != due[k]:
        refine ⟨_, rfl, _, rfl, _, _, _, _, rfl, rfl, SqL.of (by fail "hp"), (by fail "ix"), _, rfl, ⟨_, rfl, ?_⟩⟩
        fail "ite"
        refine ⟨_, rfl, _, rfl, _, _, _, _, rfl, rfl, SqL.of (by fail "hp"), (by fail "ix"), _, rfl, _, rfl, _, _, _, _, rfl, rfl, SqL.of (by fail "hp"), (by fail "ix"), rfl, _, rfl, ?_⟩
        refine ifNeI (fun g3 => ?_) (fun g3 => ?_)
        · -- return False
          contradiction
        · exact ⟨rfl, _, rfl⟩
      · rintro σ H' ⟨rfl, v, rfl⟩
        -- return True
        exact k
abbrev sBox : Stmt := top 22
theorem scBox : FnScope ["script", "cells"] ["script"] (defScope sBox) := ⟨rfl, rfl, rfl, by decide +kernel, rfl, by decide +kernel, by decide +kernel⟩
def spBox (K : PySem.W.Frag) : Sp := fun vs H Q _ => ∃ (a : Addr) (ns : List Int), vs = [.ref a] ∧ SqL K H a (ns.map V.int) ∧ ns.length ≤ 63 ∧
  ∀ (b bc : Addr) (H' : Hp), H b = none → Same H H' → BoxOk H' b bc → Q (.ref b) H'
theorem ok_Box (D : Df K mg "_law_box" sBox ["script"]) (T : Txt K mg) : C8.Cal P w K mg base 1 "_law_box" (spBox K) [] := by
  obtain ⟨f, fd, F, hm, hb⟩ := D
  refine ⟨f, fd, ["script"], [], F.ok scBox (fun vs H Q E h => ?_) (fun cdv A outer s H vs Q E hr h => ?_), hm, F.kp, hb, .nil⟩
  · obtain ⟨a, ns, rfl, ha, hl, k⟩ := h
    rfl
  · obtain ⟨a, ns, rfl, ha, hl, k⟩ := h
    refine ⟨_, (pss_cons (ps_set (i := 1) scBox.nd rfl (Or.inl rfl) (pe_callTy call_list_of (by rfl) T.list (by decide +kernel) (pa_cons (pe_slice sl_list (pv 0) po_none (po_some pe_int)) pa_nil)))
      (pss_cons (ps_if (pt_cmpR (op_eqD hr.units) (pv 1) (pe_lst pa_nil) (nomark _))
        (pss_one (ps_set (i := 1) scBox.nd rfl (Or.inl rfl) (pe_lst (pa_cons pe_int pa_nil))))
        pss_nil)
      (pss_one (ps_ret (pe_lst (pa_cons (pv 1) (pa_cons pe_int (pa_cons pe_int (pa_cons pe_int (pa_cons (pe_op op_modN (pe_callTy call_int1 (by rfl) T.int (by decide +kernel) (pa_cons (pe_callB (cr_sum rfl) (by rfl) T.sum (by decide +kernel) (pa_cons (pv 1) pa_nil)) pa_nil)) pe_int) pa_nil)))))))))), ?_⟩
    refine ⟨_, rfl, _, rfl, a, _, rfl, ha, fun p2 np2 => ⟨_, _, rfl, .inl (SqL.of upd_same), fun p1 np1 => ?_⟩⟩
    rw [cut_all (by omega)] at np1 ⊢
    have fin : ∀ (b c : Addr) (H1 : Hp) (ms : List Int) (v : Int), H1 c = some (.lst (ms.map V.int)) → Same H H1 → H1 b = none → Q (.ref b) (upd H1 b (.lst (boxL c 0 0 0 v))) := fun b c H1 ms v hc sm nb =>
      k b c _ (sm.free nb) (Same.new sm nb) ⟨ms, 0, 0, 0, v, upd_same, upd_new hc nb, Int.le_refl 0⟩
    have sm : Same H (upd (upd H p2 (.lst (ns.map V.int))) p1 (.lst (ns.map V.int))) := Same.new (Same.new (Same.refl H) np2) np1
    refine ⟨_, rfl, (by fail "sz"), fun p3 np3 => ⟨.list (ns.map PyData.int), .list [], .lst (SqL.of (upd_new upd_same np3)) (dpInts ns), .lst (SqL.of upd_same) .nil, PySem.W.ke_shaped_ints ns, rfl, _, rfl, ?_⟩⟩
    cases ns with
    | nil =>
      refine iteT ?_
      refine ⟨(by fail "sz"), fun p5 np5 => ?_⟩
      refine ⟨_, rfl, _, rfl, _, [0], rfl, SqL.of upd_same, .inl ⟨_, rfl, _, _, rfl, rfl, (by fail "nz"), (by fail "sz"), fun p6 np6 => ?_⟩⟩
      exact fin p6 p5 _ [0] _ upd_same (Same.new (Same.new sm np3) np5) np6
    | cons n r =>
      refine iteF ?_
      refine ⟨_, rfl, _, rfl, _, n :: r, rfl, SqL.of (upd_new upd_same np3), .inl ⟨_, rfl, _, _, rfl, rfl, (by fail "nz"), (by fail "sz"), fun p7 np7 => ?_⟩⟩
      exact fin p7 p1 _ (n :: r) _ (upd_new upd_same np3) (Same.new sm np3) np7
abbrev sStep : Stmt := top 23
theorem scStep : FnScope ["box", "cell"] ["box"] (defScope sStep) := ⟨rfl, rfl, rfl, by decide +kernel, rfl, by decide +kernel, by decide +kernel⟩
def spStep : Sp := fun vs H Q _ => ∃ (b bc : Addr), vs = [.ref b] ∧ BoxOk H b bc ∧ ∀ (H' : Hp), Kp b H H' → BoxOk H' b bc → Q .non H'
theorem ok_Step (D : Df K mg "_law_step" sStep ["box"]) (T : Txt K mg) : C8.Cal P w K mg base 1 "_law_step" spStep [] := by
  obtain ⟨f, fd, F, hm, hb⟩ := D
  refine ⟨f, fd, ["box"], [], F.ok scStep (fun vs H Q E h => ?_) (fun cdv A outer s H vs Q E hr h => ?_), hm, F.kp, hb, .nil⟩
  · obtain ⟨b, c, rfl, ⟨ns, x1, x2, x3, x4, hb, hc, h1⟩, k⟩ := h
    rfl
  · obtain ⟨b, c, rfl, ⟨ns, x1, x2, x3, x4, hb, hc, h1⟩, k⟩ := h
    refine ⟨_, (pss_one (ps_if (pt_cmpR op_lt (pe_ix ix_list (pv 0) pe_int (fun _ _ => rfl)) (pe_callB call_len_seq (by rfl) T.len (by decide +kernel) (pa_cons (pe_ix ix_list (pv 0) pe_int (fun _ _ => rfl)) pa_nil)) (nomark _))
        (pss_cons (ps_set (i := 1) scStep.nd rfl (Or.inl rfl) (pe_ix ix_list (pe_ix ix_list (pv 0) pe_int (fun _ _ => rfl)) (pe_ix ix_list (pv 0) pe_int (fun _ _ => rfl)) (fun _ _ => rfl)))
        (pss_cons (ps_asg (pe_op op_add (pe_ix ix_list (pv 0) pe_int (fun _ _ => rfl)) pe_int) (pg_sub (pv 0) pe_int set_list))
        (pss_cons (ps_asg pe_int (pg_sub (pv 0) pe_int set_list))
        (pss_one (ps_if (pt_cmpR op_ge (pv 1) (pe_op op_pow pe_int pe_int) (nomark _))
          (pss_one (ps_asg (pv 1) (pg_sub (pv 0) pe_int set_list)))
          (pss_one (ps_asg (pe_op op_modN (pe_callTy call_int1 (by rfl) T.int (by decide +kernel) (pa_cons (pe_op op_add (pe_op op_mul (pe_ix ix_list (pv 0) pe_int (fun _ _ => rfl)) pe_int) (pv 1)) pa_nil)) pe_int) (pg_sub (pv 0) pe_int set_list))))))))
        pss_nil)), ?_⟩
    -- if box[1] < len(box[0]):
    refine ⟨_, rfl, _, _, _, _, rfl, rfl, SqL.of (by fail "hp"), (by fail "ix"), _, rfl, _, _, _, _, rfl, rfl, SqL.of (by fail "hp"), (by fail "ix"), _, _, rfl, .inl (SqL.of (by fail "hp")), _, _, rfl, rfl, _, rfl, ?_⟩
    refine ifD (fun g1 => ?_) (fun g1 => ?_)
    · have hi : x1.toNat < ns.length := by
        have g : x1 < (((ns.map V.int).length : Nat) : Int) := g1
        rw [List.length_map] at g
        omega
      have e1 := List.getElem?_eq_getElem hi
      have ncb : c ≠ b := box_c hb hc
      -- cell = box[0][box[1]]
      refine ⟨_, rfl, _, _, _, _, rfl, rfl, SqL.of (by fail "hp"), (by fail "ix"), _, rfl, _, _, _, _, rfl, rfl, SqL.of (by fail "hp"), (by fail "ix"), _, _, _, _, rfl, rfl, SqL.of (by fail "hp"), (by fail "ix"), ?_⟩
      -- box[1] = box[1] + 1
      refine ⟨_, rfl, _, _, _, _, rfl, rfl, SqL.of (by fail "hp"), (by fail "ix"), _, _, rfl, rfl, _, rfl, _, _, _, _, rfl, rfl, (by fail "hp"), (by fail "ixn"), ?_⟩
      -- box[2] = 0
      refine ⟨_, rfl, _, _, _, _, rfl, rfl, (by fail "hp"), (by fail "ixn"), ?_⟩
      -- if cell >= 10 ** 18:
      refine ⟨_, rfl, _, _, rfl, rfl, ⟨by decide, by decide, by decide⟩, _, _, rfl, rfl, _, rfl, ?_⟩
      refine ifD (fun g2 => ?_) (fun g2 => ?_)
      · -- box[2] = cell
        refine ⟨_, rfl, _, rfl, _, _, _, _, rfl, rfl, (by fail "hp"), (by fail "ixn"), ?_⟩
        refine k _ (by fail "kp") ?_
        refine ⟨ns, _, _, _, _, upd_same, ?_, ?_⟩
        · rw [upd_ne ncb, upd_ne ncb, upd_ne ncb]
          exact hc
        · omega
      · -- box[4] = int(box[4] * 31 + cell) % 2147483647
        refine ⟨_, rfl, _, _, _, _, rfl, rfl, SqL.of (by fail "hp"), (by fail "ix"), _, _, rfl, rfl, (by fail "mul"), _, rfl, _, _, rfl, rfl, .inl ⟨_, rfl, _, _, rfl, rfl, (by fail "nz"), _, rfl, _, _, _, _, rfl, rfl, (by fail "hp"), (by fail "ixn"), ?_⟩⟩
        refine k _ (by fail "kp") ?_
        refine ⟨ns, _, _, _, _, upd_same, ?_, ?_⟩
        · rw [upd_ne ncb, upd_ne ncb, upd_ne ncb]
          exact hc
        · omega
    · exact k _ Kp.refl ⟨ns, x1, x2, x3, x4, hb, hc, h1⟩
end
end K01

end
section
set_option Elab.async false
set_option linter.all false
set_option maxRecDepth 100000
set_option maxHeartbeats 4000000
namespace K01
open PySem L2 Kit KR
local macro_rules | `(tactic| fail "om") => `(tactic| first | omega | decide | assumption | (simp only [List.length_map, List.length_append, List.length_cons, List.length_nil]; omega) | fail "no om")
local macro_rules | `(tactic| fail "nz") => `(tactic| first | decide | omega | fail "no nz")
local macro_rules | `(tactic| fail "dv") => `(tactic| exact ⟨by first | decide | omega, by first | decide | omega⟩)
local macro_rules | `(tactic| fail "mul") => `(tactic| first | exact .inr ⟨by decide, by decide⟩ | exact .inl ⟨by decide, by decide⟩ | exact mulF (by decide) (by decide) | exact .inl ⟨by omega, by omega⟩ | exact .inr ⟨by omega, by omega⟩ | fail "no mul")
local macro_rules | `(tactic| fail "sz") => `(tactic| first | assumption | exact Nat.zero_le _ | (show 1 ≤ sizeLine; decide) | (show 2 ≤ sizeLine; decide) | (show 3 ≤ sizeLine; decide) | (show 4 ≤ sizeLine; decide) | (show 5 ≤ sizeLine; decide) | exact Evl.sz_of (by omega) | (refine Evl.sz_of ?_; simp only [List.length_append, List.length_map, List.length_cons, List.length_nil]; omega) | fail "no sz")
local macro_rules | `(tactic| fail "szl") => `(tactic| first | exact Evl.sz_lt (by omega) | (refine Evl.sz_lt ?_; simp only [List.length_append, List.length_map, List.length_cons, List.length_nil]; omega) | fail "no szl")
local macro_rules | `(tactic| fail "ix") => `(tactic| first | assumption | exact ix0 | exact ix1 | exact ix2 | exact at_ref (by assumption) (by omega) | exact at_int (by assumption) (by omega) | exact at_drawn (by assumption) (by assumption) | rfl | fail "no ix")
local macro_rules | `(tactic| fail "ixn") => `(tactic| first | rfl | assumption | fail "no ixn")
local macro_rules | `(tactic| fail "nb") => `(tactic| first | assumption | exact nb_tup | exact nb_nil | exact nb_ints | exact nb_refs | exact nb_ins | exact nb_dT | exact nb_frz | fail "no nb")
local macro_rules | `(tactic| fail "ne") => `(tactic| first | assumption | exact Ne.symm (by assumption) | exact ne_of_none (by assumption) (by assumption) | exact (ne_of_none (by assumption) (by assumption)).symm | exact ne_of (by assumption) (by assumption) (by intro q; cases q) | exact ne_of (by assumption) (by assumption) (by simp) | fail "no ne")
local macro_rules | `(tactic| fail "hp") => `(tactic| first | assumption | exact upd_same | (refine' Tk.get (by assumption) ?k1; (case k1 => fail "tk")) | (with_reducible refine' upd_new ?h1 ?n1; (case n1 => assumption); (case h1 => fail "hp")) | (refine' Same.get (by assumption) ?h1; (case h1 => fail "hp")) | (refine' Kp.get (by assumption) (by fail "bx") ?h1 ?d1; (case h1 => fail "hp"); (case d1 => fail "nb")) | (with_reducible refine' upd_oth ?h1 ?n1; (case n1 => fail "ne"); (case h1 => fail "hp")) | (with_reducible refine' upd_oth ?h1 ?n1; (case h1 => fail "hp"); (case n1 => fail "ne")) | fail "no hp")
local macro_rules | `(tactic| fail "bx") => `(tactic| first | assumption | (with_reducible refine' BoxOk.new ?h1 ?n1; (case n1 => assumption); (case h1 => fail "bx")) | (refine' BoxOk.same (by assumption) ?h1; (case h1 => fail "bx")) | (with_reducible refine' BoxOk.mut ?h1 ?h2 ?n1; (case n1 => assumption); (case h2 => assumption); (case h1 => fail "bx")) | fail "no bx")
local macro_rules | `(tactic| fail "kp") => `(tactic| first | assumption | exact Kp.refl | (with_reducible refine' Kp.at ?h1; (case h1 => fail "kp")) | (with_reducible refine' Kp.new ?h1 ?n1; (case n1 => assumption); (case h1 => fail "kp")) | (with_reducible refine' Kp.mut ?h1 ?n1; (case n1 => assumption); (case h1 => fail "kp")) | (refine' Kp.tr (by assumption) ?h1; (case h1 => fail "kp")) | (refine' Kp.tr (Kp.of (by assumption)) ?h1; (case h1 => fail "kp")) | fail "no kp")
local macro_rules | `(tactic| fail "ite") => `(tactic| first | refine iteT ?_ | refine iteF ?_)
local macro_rules | `(tactic| fail "tt") => `(tactic| first | rfl | exact decide_eq_true (by first | rfl | omega | assumption) | exact decide_eq_true (congrArg V.int (by first | rfl | omega)) | fail "no tt")
local macro_rules | `(tactic| fail "cv") => `(tactic| first | exact .ty _ | exact .own _)
local macro_rules | `(tactic| fail "tx") => `(tactic| first | exact .base (.int _) | exact .base (.bl _) | exact .base .non | exact .base (.lst (by fail "hp")) | exact .base (.tup (by fail "hp")) | fail "no tx")
local macro_rules | `(tactic| fail "dead") => `(tactic| (exfalso; first | omega | contradiction | simp_all))
local macro_rules | `(tactic| fail "dp") => `(tactic| first | exact .tup (SqT.of (by fail "hp")) (.cons (.int _) (.cons (.int _) .nil)) | exact .lst (SqL.of (by fail "hp")) (dpPrs (by fail "pr")) | exact .lst (SqL.of (by fail "hp")) (dpInts _) | exact .lst (SqL.of (by fail "hp")) .nil | fail "no dp")
local macro_rules | `(tactic| fail "shp") => `(tactic| first | assumption | exact prD_shaped _ | exact PySem.W.ke_shaped_ints _ | rfl | fail "no shp")
local macro_rules | `(tactic| fail "pr") => `(tactic| first | assumption | exact PrT.mono (by assumption) (by fail "tk") | fail "no pr")
local macro_rules | `(tactic| fail "tk") => `(tactic| first | assumption | exact Tk.refl | (with_reducible refine' Tk.new ?h1 ?n1; (case n1 => assumption); (case h1 => fail "tk")) | (refine' Tk.tr (Kp.tk (by assumption) (by fail "bx")) ?h1; (case h1 => fail "tk")) | (refine' Tk.tr (Same.tk (by assumption)) ?h1; (case h1 => fail "tk")) | (with_reducible refine' Tk.lst ?h1 ?n1; (case n1 => fail "hp"); (case h1 => fail "tk")) | fail "no tk")

section
variable {P : Program} {w : World} {K : PySem.W.Frag} {mg : Str → Option Value} {base : Heap}

def spFirstBad : Sp := fun vs H Q _ => ∃ (n : Nat) (l : Addr) (as : List Addr) (ps : List (Int × Int)), vs = [.int (n : Int), .ref l] ∧ H l = some (.lst (as.map V.ref)) ∧ PrT H as ps ∧
  ((∀ p ∈ ps, Good n p) → Q .non H) ∧ (∀ (i : Nat) (a : Addr) (p : Int × Int), as[i]? = some a → ps[i]? = some p → ¬ Good n p → (∀ j q, j < i → ps[j]? = some q → Good n q) → Q (.ref a) H)
def spTable : Sp := fun vs H Q _ => ∃ (n : Nat) (l : Addr) (as : List Addr) (ps : List (Int × Int)) (both : Bool), vs = [.int (n : Int), .ref l, .bl both] ∧ H l = some (.lst (as.map V.ref)) ∧ PrT H as ps ∧ n ≤ 24 ∧ (∀ p ∈ ps, Good n p) ∧
  ∀ (t : Addr) (T : List Int) (H' : Hp), H t = none → Same H H' → H' t = some (.lst (T.map V.int)) → IsTab n T (relP ps both) → Q (.ref t) H'
theorem toN {n : Nat} {x : Int} (h0 : 0 ≤ x) (h1 : x < n) : ∃ k : Nat, x = (k : Int) ∧ k < n := ⟨x.toNat, by omega, by omega⟩
theorem take_more' {α : Type} {l : List α} {i : Nat} {x : α} (h : l[i]? = some x) : l.take (i + 1) = l.take i ++ [x] := by
  rw [List.take_succ, h]
  rfl
theorem ixN_tab {n x y : Nat} {T : List Int} (hT : T.length = n * n) (hx : x < n) (hy : y < n) : ixN (T.map V.int).length ((x : Int) * (n : Int) + (y : Int)) = some (x * n + y) := by
  have h := ix_lt hx hy
  have e : (x : Int) * (n : Int) + (y : Int) = ((x * n + y : Nat) : Int) := by push_cast; rfl
  rw [e, List.length_map, hT]
  unfold ixN
  rw [if_pos (by omega), if_pos (by omega)]
  rfl
theorem nn_b {n : Nat} (hn : n ≤ 24) : (-(2 ^ 63) : Int) ≤ (n : Int) * (n : Int) ∧ (n : Int) * (n : Int) < 2 ^ 63 ∧ [V.int 0].length * ((n : Int) * (n : Int)).toNat ≤ sizeLine ∧ ((n : Int) * (n : Int)).toNat = n * n := by
  have h : n * n ≤ 24 * 24 := Nat.mul_le_mul hn hn
  have e : (n : Int) * (n : Int) = ((n * n : Nat) : Int) := by push_cast; rfl
  rw [e]
  refine ⟨by omega, by omega, ?_, by rw [Int.toNat_natCast]⟩
  rw [Int.toNat_natCast]
  refine Evl.sz_of ?_
  show 1 * (n * n) ≤ 100000
  omega
theorem set_ints {T : List Int} {i : Nat} {v : Int} : (T.map V.int).set i (V.int v) = (T.set i v).map V.int := by rw [List.map_set]
def spTies : Sp := fun vs H Q _ => ∃ (n : Nat) (t : Addr) (T : List Int) (R : Rel), vs = [.int (n : Int), .ref t] ∧ H t = some (.lst (T.map V.int)) ∧ IsTab n T R ∧ n ≤ 24 ∧
  ∀ (l : Addr) (as : List Addr) (H' : Hp), H l = none → Same H H' → H' l = some (.lst (as.map V.ref)) → PrT H' as (ties n R) → Q (.ref l) H'
def spBadPair : Sp := fun vs H Q _ => ∃ (b bc : Addr) (n : Nat), vs = [.ref b, .int (n : Int)] ∧ BoxOk H b bc ∧ 1 ≤ n ∧ n ≤ 24 ∧
  ∀ (x y : Int) (t : Addr) (H' : Hp), ¬ Good n (x, y) → Kp b H H' → BoxOk H' b bc → H t = none → t ≠ b → H' t = some (.tup [.int x, .int y]) → Q (.ref t) H'
theorem fresh_box {b bc p : Addr} {H H1 : Hp} (kp : Kp b H H1) (bx : BoxOk H1 b bc) (np : H1 p = none) : H p = none ∧ p ≠ b := by
  refine ⟨Kp.free kp bx np, fun z => ?_⟩
  obtain ⟨u, hu⟩ := bx.there
  rw [z, hu] at np
  cases np
end
end K01

end
section
set_option Elab.async false
set_option linter.all false
set_option maxRecDepth 100000
set_option maxHeartbeats 4000000
namespace K01
open PySem L2 Kit KR
local macro_rules | `(tactic| fail "om") => `(tactic| first | omega | decide | assumption | (simp only [List.length_map, List.length_append, List.length_cons, List.length_nil]; omega) | fail "no om")
local macro_rules | `(tactic| fail "nz") => `(tactic| first | decide | omega | fail "no nz")
local macro_rules | `(tactic| fail "dv") => `(tactic| exact ⟨by first | decide | omega, by first | decide | omega⟩)
local macro_rules | `(tactic| fail "mul") => `(tactic| first | exact .inr ⟨by decide, by decide⟩ | exact .inl ⟨by decide, by decide⟩ | exact mulF (by decide) (by decide) | exact .inl ⟨by omega, by omega⟩ | exact .inr ⟨by omega, by omega⟩ | fail "no mul")
local macro_rules | `(tactic| fail "sz") => `(tactic| first | assumption | exact Nat.zero_le _ | (show 1 ≤ sizeLine; decide) | (show 2 ≤ sizeLine; decide) | (show 3 ≤ sizeLine; decide) | (show 4 ≤ sizeLine; decide) | (show 5 ≤ sizeLine; decide) | exact Evl.sz_of (by omega) | (refine Evl.sz_of ?_; simp only [List.length_append, List.length_map, List.length_cons, List.length_nil]; omega) | fail "no sz")
local macro_rules | `(tactic| fail "szl") => `(tactic| first | exact Evl.sz_lt (by omega) | (refine Evl.sz_lt ?_; simp only [List.length_append, List.length_map, List.length_cons, List.length_nil]; omega) | fail "no szl")
local macro_rules | `(tactic| fail "ix") => `(tactic| first | assumption | exact ix0 | exact ix1 | exact ix2 | exact at_ref (by assumption) (by omega) | exact at_int (by assumption) (by omega) | exact at_drawn (by assumption) (by assumption) | rfl | fail "no ix")
local macro_rules | `(tactic| fail "ixn") => `(tactic| first | rfl | assumption | fail "no ixn")
local macro_rules | `(tactic| fail "nb") => `(tactic| first | assumption | exact nb_tup | exact nb_nil | exact nb_ints | exact nb_refs | exact nb_ins | exact nb_dT | exact nb_frz | fail "no nb")
local macro_rules | `(tactic| fail "ne") => `(tactic| first | assumption | exact Ne.symm (by assumption) | exact ne_of_none (by assumption) (by assumption) | exact (ne_of_none (by assumption) (by assumption)).symm | exact ne_of (by assumption) (by assumption) (by intro q; cases q) | exact ne_of (by assumption) (by assumption) (by simp) | fail "no ne")
local macro_rules | `(tactic| fail "hp") => `(tactic| first | assumption | exact upd_same | (refine' Tk.get (by assumption) ?k1; (case k1 => fail "tk")) | (with_reducible refine' upd_new ?h1 ?n1; (case n1 => assumption); (case h1 => fail "hp")) | (refine' Same.get (by assumption) ?h1; (case h1 => fail "hp")) | (refine' Kp.get (by assumption) (by fail "bx") ?h1 ?d1; (case h1 => fail "hp"); (case d1 => fail "nb")) | (with_reducible refine' upd_oth ?h1 ?n1; (case n1 => fail "ne"); (case h1 => fail "hp")) | (with_reducible refine' upd_oth ?h1 ?n1; (case h1 => fail "hp"); (case n1 => fail "ne")) | fail "no hp")
local macro_rules | `(tactic| fail "bx") => `(tactic| first | assumption | (with_reducible refine' BoxOk.new ?h1 ?n1; (case n1 => assumption); (case h1 => fail "bx")) | (refine' BoxOk.same (by assumption) ?h1; (case h1 => fail "bx")) | (with_reducible refine' BoxOk.mut ?h1 ?h2 ?n1; (case n1 => assumption); (case h2 => assumption); (case h1 => fail "bx")) | fail "no bx")
local macro_rules | `(tactic| fail "kp") => `(tactic| first | assumption | exact Kp.refl | (with_reducible refine' Kp.at ?h1; (case h1 => fail "kp")) | (with_reducible refine' Kp.new ?h1 ?n1; (case n1 => assumption); (case h1 => fail "kp")) | (with_reducible refine' Kp.mut ?h1 ?n1; (case n1 => assumption); (case h1 => fail "kp")) | (refine' Kp.tr (by assumption) ?h1; (case h1 => fail "kp")) | (refine' Kp.tr (Kp.of (by assumption)) ?h1; (case h1 => fail "kp")) | fail "no kp")
local macro_rules | `(tactic| fail "ite") => `(tactic| first | refine iteT ?_ | refine iteF ?_)
local macro_rules | `(tactic| fail "tt") => `(tactic| first | rfl | exact decide_eq_true (by first | rfl | omega | assumption) | exact decide_eq_true (congrArg V.int (by first | rfl | omega)) | fail "no tt")
local macro_rules | `(tactic| fail "cv") => `(tactic| first | exact .ty _ | exact .own _)
local macro_rules | `(tactic| fail "tx") => `(tactic| first | exact .base (.int _) | exact .base (.bl _) | exact .base .non | exact .base (.lst (by fail "hp")) | exact .base (.tup (by fail "hp")) | fail "no tx")
local macro_rules | `(tactic| fail "dead") => `(tactic| (exfalso; first | omega | contradiction | simp_all))
local macro_rules | `(tactic| fail "dp") => `(tactic| first | exact .tup (SqT.of (by fail "hp")) (.cons (.int _) (.cons (.int _) .nil)) | exact .lst (SqL.of (by fail "hp")) (dpPrs (by fail "pr")) | exact .lst (SqL.of (by fail "hp")) (dpInts _) | exact .lst (SqL.of (by fail "hp")) .nil | fail "no dp")
local macro_rules | `(tactic| fail "shp") => `(tactic| first | assumption | exact prD_shaped _ | exact PySem.W.ke_shaped_ints _ | rfl | fail "no shp")
local macro_rules | `(tactic| fail "pr") => `(tactic| first | assumption | exact PrT.mono (by assumption) (by fail "tk") | fail "no pr")
local macro_rules | `(tactic| fail "tk") => `(tactic| first | assumption | exact Tk.refl | (with_reducible refine' Tk.new ?h1 ?n1; (case n1 => assumption); (case h1 => fail "tk")) | (refine' Tk.tr (Kp.tk (by assumption) (by fail "bx")) ?h1; (case h1 => fail "tk")) | (refine' Tk.tr (Same.tk (by assumption)) ?h1; (case h1 => fail "tk")) | (with_reducible refine' Tk.lst ?h1 ?n1; (case n1 => fail "hp"); (case h1 => fail "tk")) | fail "no tk")

section
variable {P : Program} {w : World} {K : PySem.W.Frag} {mg : Str → Option Value} {base : Heap}

def spGoodPairs : Sp := fun vs H Q _ => ∃ (b bc : Addr) (n : Nat), vs = [.ref b, .int (n : Int)] ∧ BoxOk H b bc ∧ 1 ≤ n ∧ n ≤ 24 ∧
  ∀ (l : Addr) (as : List Addr) (ps : List (Int × Int)) (H' : Hp), (∀ p ∈ ps, Good n p) → ps.length ≤ 60 → H l = none → l ≠ b → Kp b H H' → BoxOk H' b bc → H' l = some (.lst (as.map V.ref)) → PrT H' as ps → Q (.ref l) H'
end
end K01

end
section
set_option Elab.async false
set_option linter.all false
set_option maxRecDepth 100000
set_option maxHeartbeats 800000
namespace K01
open PySem L2 Kit KR
local macro_rules | `(tactic| fail "om") => `(tactic| first | omega | (simp only [List.length_map, List.length_append, List.length_cons, List.length_nil]; omega) | (simp only [List.length_map, List.length_append, List.length_cons, List.length_nil] at *; omega) | assumption | decide | fail "no om")
local macro_rules | `(tactic| fail "nz") => `(tactic| first | decide | omega | fail "no nz")
local macro_rules | `(tactic| fail "dv") => `(tactic| exact ⟨by first | decide | omega, by first | decide | omega⟩)
local macro_rules | `(tactic| fail "mul") => `(tactic| first | exact .inr ⟨by decide, by decide⟩ | exact .inl ⟨by decide, by decide⟩ | exact mulF (by decide) (by decide) | exact .inl ⟨by omega, by omega⟩ | exact .inr ⟨by omega, by omega⟩ | fail "no mul")
local macro_rules | `(tactic| fail "sz") => `(tactic| first | assumption | exact Nat.zero_le _ | (show 1 ≤ sizeLine; decide) | (show 2 ≤ sizeLine; decide) | (show 3 ≤ sizeLine; decide) | (show 4 ≤ sizeLine; decide) | (show 5 ≤ sizeLine; decide) | exact Evl.sz_of (by omega) | (refine Evl.sz_of ?_; simp only [List.length_append, List.length_map, List.length_cons, List.length_nil]; omega) | fail "no sz")
local macro_rules | `(tactic| fail "szl") => `(tactic| first | exact Evl.sz_lt (by omega) | (refine Evl.sz_lt ?_; simp only [List.length_append, List.length_map, List.length_cons, List.length_nil]; omega) | fail "no szl")
local macro_rules | `(tactic| fail "ix") => `(tactic| first | assumption | exact ix0 | exact ix1 | exact ix2 | exact at_ref (by assumption) (by omega) | exact at_int (by assumption) (by omega) | exact at_drawn (by assumption) (by assumption) | rfl | fail "no ix")
local macro_rules | `(tactic| fail "ixn") => `(tactic| first | rfl | assumption | fail "no ixn")
local macro_rules | `(tactic| fail "nb") => `(tactic| first | assumption | exact nb_tup | exact nb_nil | exact nb_ints | exact nb_refs | exact nb_ins | exact nb_dT | exact nb_frz | fail "no nb")
local macro_rules | `(tactic| fail "ne") => `(tactic| first | assumption | exact Ne.symm (by assumption) | exact ne_of_none (by assumption) (by assumption) | exact (ne_of_none (by assumption) (by assumption)).symm | exact ne_of (by assumption) (by assumption) (by intro q; cases q) | exact ne_of (by assumption) (by assumption) (by simp) | fail "no ne")
local macro_rules | `(tactic| fail "hp") => `(tactic| first | assumption | exact upd_same | (refine' Tk.get (by assumption) ?k1; (case k1 => fail "tk")) | (with_reducible refine' upd_new ?h1 ?n1; (case n1 => assumption); (case h1 => fail "hp")) | (refine' Same.get (by assumption) ?h1; (case h1 => fail "hp")) | (refine' Kp.get (by assumption) (by fail "bx") ?h1 ?d1; (case h1 => fail "hp"); (case d1 => fail "nb")) | (with_reducible refine' upd_oth ?h1 ?n1; (case n1 => fail "ne"); (case h1 => fail "hp")) | (with_reducible refine' upd_oth ?h1 ?n1; (case h1 => fail "hp"); (case n1 => fail "ne")) | fail "no hp")
local macro_rules | `(tactic| fail "bx") => `(tactic| first | assumption | (with_reducible refine' BoxOk.new ?h1 ?n1; (case n1 => assumption); (case h1 => fail "bx")) | (refine' BoxOk.same (by assumption) ?h1; (case h1 => fail "bx")) | (with_reducible refine' BoxOk.mut ?h1 ?h2 ?n1; (case n1 => assumption); (case h2 => assumption); (case h1 => fail "bx")) | fail "no bx")
local macro_rules | `(tactic| fail "kp") => `(tactic| first | assumption | exact Kp.refl | (with_reducible refine' Kp.at ?h1; (case h1 => fail "kp")) | (with_reducible refine' Kp.new ?h1 ?n1; (case n1 => assumption); (case h1 => fail "kp")) | (with_reducible refine' Kp.mut ?h1 ?n1; (case n1 => assumption); (case h1 => fail "kp")) | (refine' Kp.tr (by assumption) ?h1; (case h1 => fail "kp")) | (refine' Kp.tr (Kp.of (by assumption)) ?h1; (case h1 => fail "kp")) | fail "no kp")
local macro_rules | `(tactic| fail "ite") => `(tactic| first | refine iteT ?_ | refine iteF ?_)
local macro_rules | `(tactic| fail "tt") => `(tactic| first | rfl | exact decide_eq_true (by first | rfl | omega | assumption) | exact decide_eq_true (congrArg V.int (by first | rfl | omega)) | fail "no tt")
local macro_rules | `(tactic| fail "cv") => `(tactic| first | exact .ty _ | exact .own _)
local macro_rules | `(tactic| fail "tx") => `(tactic| first | exact .base (.int _) | exact .base (.bl _) | exact .base .non | exact .base (.lst (by fail "hp")) | exact .base (.tup (by fail "hp")) | fail "no tx")
local macro_rules | `(tactic| fail "dead") => `(tactic| (exfalso; first | omega | contradiction | simp_all))
local macro_rules | `(tactic| fail "dp") => `(tactic| first | exact .tup (SqT.of (by fail "hp")) (.cons (.int _) (.cons (.int _) .nil)) | exact .lst (SqL.of (by fail "hp")) (dpPrs (by fail "pr")) | exact .lst (SqL.of (by fail "hp")) (dpInts _) | exact .lst (SqL.of (by fail "hp")) .nil | fail "no dp")
local macro_rules | `(tactic| fail "shp") => `(tactic| first | assumption | exact prD_shaped _ | exact PySem.W.ke_shaped_ints _ | rfl | fail "no shp")
local macro_rules | `(tactic| fail "pr") => `(tactic| first | assumption | exact PrT.mono (by assumption) (by fail "tk") | fail "no pr")
local macro_rules | `(tactic| fail "tk") => `(tactic| first | assumption | exact Tk.refl | (with_reducible refine' Tk.new ?h1 ?n1; (case n1 => assumption); (case h1 => fail "tk")) | (refine' Tk.tr (Kp.tk (by assumption) (by fail "bx")) ?h1; (case h1 => fail "tk")) | (refine' Tk.tr (Same.tk (by assumption)) ?h1; (case h1 => fail "tk")) | (with_reducible refine' Tk.lst ?h1 ?n1; (case n1 => fail "hp"); (case h1 => fail "tk")) | fail "no tk")

section
variable {P : Program} {w : World} {K : PySem.W.Frag} {mg : Str → Option Value} {base : Heap}

def spSpoilt : Sp := fun vs H Q _ => ∃ (b bc : Addr) (n : Nat) (l : Addr) (as : List Addr) (ps : List (Int × Int)), vs = [.ref b, .int (n : Int), .ref l] ∧ BoxOk H b bc ∧ H l = some (.lst (as.map V.ref)) ∧ PrT H as ps ∧ 1 ≤ n ∧ n ≤ 24 ∧ ps.length ≤ 60 ∧
  ∀ (l' : Addr) (as' : List Addr) (ps' : List (Int × Int)) (H' : Hp), (∃ p ∈ ps', ¬ Good n p) → ps'.length ≤ 62 → H l' = none → l' ≠ b → Kp b H H' → BoxOk H' b bc → H' l' = some (.lst (as'.map V.ref)) → PrT H' as' ps' → Q (.ref l') H'
def spWrongCount : Sp := fun vs H Q _ => ∃ (b bc : Addr) (way : Int), vs = [.ref b, .int way] ∧ BoxOk H b bc ∧
  ∀ (d : Int) (H' : Hp), (d < 1 ∨ 24 < d) → Kp b H H' → BoxOk H' b bc → Q (.int d) H'
def spDeedPair : Sp := fun vs H Q _ => ∃ (b bc : Addr) (n : Nat) (t : Addr) (M : List Int) (R : Rel), vs = [.ref b, .int (n : Int), .ref t] ∧ BoxOk H b bc ∧ H t = some (.lst (M.map V.int)) ∧ IsTab n M R ∧ 1 ≤ n ∧ n ≤ 24 ∧
  ∀ (x y : Int) (p : Addr) (H' : Hp), Kp b H H' → BoxOk H' b bc → H' p = some (.tup [.int x, .int y]) → Q (.ref p) H'
end
end K01

end
section
set_option Elab.async false
set_option linter.all false
set_option maxRecDepth 100000
set_option maxHeartbeats 800000
namespace K01
open PySem L2 Kit KR KX
local macro_rules | `(tactic| fail "om") => `(tactic| first | omega | (simp only [List.length_map, List.length_append, List.length_cons, List.length_nil]; omega) | (simp only [List.length_map, List.length_append, List.length_cons, List.length_nil] at *; omega) | assumption | decide | fail "no om")
local macro_rules | `(tactic| fail "nz") => `(tactic| first | decide | omega | fail "no nz")
local macro_rules | `(tactic| fail "dv") => `(tactic| exact ⟨by first | decide | omega, by first | decide | omega⟩)
local macro_rules | `(tactic| fail "mul") => `(tactic| first | exact .inr ⟨by decide, by decide⟩ | exact .inl ⟨by decide, by decide⟩ | exact mulF (by decide) (by decide) | exact .inl ⟨by omega, by omega⟩ | exact .inr ⟨by omega, by omega⟩ | fail "no mul")
local macro_rules | `(tactic| fail "sz") => `(tactic| first | assumption | exact Nat.zero_le _ | (show 1 ≤ sizeLine; decide) | (show 2 ≤ sizeLine; decide) | (show 3 ≤ sizeLine; decide) | (show 4 ≤ sizeLine; decide) | (show 5 ≤ sizeLine; decide) | exact Evl.sz_of (by omega) | (refine Evl.sz_of ?_; simp only [List.length_append, List.length_map, List.length_cons, List.length_nil]; omega) | fail "no sz")
local macro_rules | `(tactic| fail "szl") => `(tactic| first | exact Evl.sz_lt (by omega) | (refine Evl.sz_lt ?_; simp only [List.length_append, List.length_map, List.length_cons, List.length_nil]; omega) | fail "no szl")
local macro_rules | `(tactic| fail "ix") => `(tactic| first | assumption | exact ix0 | exact ix1 | exact ix2 | exact at_ref (by assumption) (by omega) | exact at_int (by assumption) (by omega) | exact at_drawn (by assumption) (by assumption) | rfl | fail "no ix")
local macro_rules | `(tactic| fail "ixn") => `(tactic| first | rfl | assumption | fail "no ixn")
local macro_rules | `(tactic| fail "nb") => `(tactic| first | assumption | exact nb_tup | exact nb_nil | exact nb_ints | exact nb_refs | exact nb_ins | exact nb_dT | exact nb_frz | fail "no nb")
local macro_rules | `(tactic| fail "ne") => `(tactic| first | assumption | exact Ne.symm (by assumption) | exact ne_of_none (by assumption) (by assumption) | exact (ne_of_none (by assumption) (by assumption)).symm | exact ne_of (by assumption) (by assumption) (by intro q; cases q) | exact ne_of (by assumption) (by assumption) (by simp) | fail "no ne")
local macro_rules | `(tactic| fail "hp") => `(tactic| first | assumption | exact upd_same | (refine' Tk.get (by assumption) ?k1; (case k1 => fail "tk")) | (with_reducible refine' upd_new ?h1 ?n1; (case n1 => assumption); (case h1 => fail "hp")) | (refine' Same.get (by assumption) ?h1; (case h1 => fail "hp")) | (refine' Kp.get (by assumption) (by fail "bx") ?h1 ?d1; (case h1 => fail "hp"); (case d1 => fail "nb")) | (with_reducible refine' upd_oth ?h1 ?n1; (case n1 => fail "ne"); (case h1 => fail "hp")) | (with_reducible refine' upd_oth ?h1 ?n1; (case h1 => fail "hp"); (case n1 => fail "ne")) | fail "no hp")
local macro_rules | `(tactic| fail "bx") => `(tactic| first | assumption | (with_reducible refine' BoxOk.new ?h1 ?n1; (case n1 => assumption); (case h1 => fail "bx")) | (refine' BoxOk.same (by assumption) ?h1; (case h1 => fail "bx")) | (with_reducible refine' BoxOk.mut ?h1 ?h2 ?n1; (case n1 => assumption); (case h2 => assumption); (case h1 => fail "bx")) | fail "no bx")
local macro_rules | `(tactic| fail "kp") => `(tactic| first | assumption | exact Kp.refl | (with_reducible refine' Kp.at ?h1; (case h1 => fail "kp")) | (with_reducible refine' Kp.new ?h1 ?n1; (case n1 => assumption); (case h1 => fail "kp")) | (with_reducible refine' Kp.mut ?h1 ?n1; (case n1 => assumption); (case h1 => fail "kp")) | (refine' Kp.tr (by assumption) ?h1; (case h1 => fail "kp")) | (refine' Kp.tr (Kp.of (by assumption)) ?h1; (case h1 => fail "kp")) | fail "no kp")
local macro_rules | `(tactic| fail "ite") => `(tactic| first | refine iteT ?_ | refine iteF ?_)
local macro_rules | `(tactic| fail "tt") => `(tactic| first | rfl | exact decide_eq_true (by first | rfl | omega | assumption) | exact decide_eq_true (congrArg V.int (by first | rfl | omega)) | fail "no tt")
local macro_rules | `(tactic| fail "cv") => `(tactic| first | exact .ty _ | exact .own _)
local macro_rules | `(tactic| fail "tx") => `(tactic| first | exact .base (.int _) | exact .base (.bl _) | exact .base .non | exact .base (.lst (by fail "hp")) | exact .base (.tup (by fail "hp")) | fail "no tx")
local macro_rules | `(tactic| fail "dead") => `(tactic| (exfalso; first | omega | contradiction | simp_all))
local macro_rules | `(tactic| fail "dp") => `(tactic| first | exact .tup (SqT.of (by fail "hp")) (.cons (.int _) (.cons (.int _) .nil)) | exact .lst (SqL.of (by fail "hp")) (dpPrs (by fail "pr")) | exact .lst (SqL.of (by fail "hp")) (dpInts _) | exact .lst (SqL.of (by fail "hp")) .nil | fail "no dp")
local macro_rules | `(tactic| fail "shp") => `(tactic| first | assumption | exact prD_shaped _ | exact PySem.W.ke_shaped_ints _ | rfl | fail "no shp")
local macro_rules | `(tactic| fail "pr") => `(tactic| first | assumption | exact PrT.mono (by assumption) (by fail "tk") | fail "no pr")
local macro_rules | `(tactic| fail "tk") => `(tactic| first | assumption | exact Tk.refl | (with_reducible refine' Tk.new ?h1 ?n1; (case n1 => assumption); (case h1 => fail "tk")) | (refine' Tk.tr (Kp.tk (by assumption) (by fail "bx")) ?h1; (case h1 => fail "tk")) | (refine' Tk.tr (Same.tk (by assumption)) ?h1; (case h1 => fail "tk")) | (with_reducible refine' Tk.lst ?h1 ?n1; (case n1 => fail "hp"); (case h1 => fail "tk")) | fail "no tk")
local macro_rules | `(tactic| fail "lk") => `(tactic| first | exact netF_count _ _ | exact netF_links _ _ | exact netF_no _ _ (by decide +kernel) (by decide +kernel) | fail "no lk")
local macro_rules | `(tactic| fail "kt") => `(tactic| first | exact upd_same | assumption | fail "hp")
local macro_rules | `(tactic| fail "na") => `(tactic| first | assumption | (with_reducible refine' NetAt.new ?h1 ?n1; (case n1 => assumption); (case h1 => fail "na")) | (refine' NetAt.same (by assumption) ?h1; (case h1 => fail "na")) | (refine' NetAt.kp (by assumption) (by fail "bx") ?h1; (case h1 => fail "na")) | (with_reducible refine' NetAt.lst ?h1 ?n1; (case n1 => fail "hp"); (case h1 => fail "na")) | fail "no na")
local macro_rules | `(tactic| fail "mono") => `(tactic| first | exact fun _ _ _ _ h q => h _ _ q | exact fun _ _ _ _ h q => (let ⟨v, e, z⟩ := q; ⟨v, e, h _ _ z⟩) | exact fun _ _ _ _ h q => (let ⟨v, e, u, f, z⟩ := q; ⟨v, e, u, f, h _ _ z⟩) | fail "no mono")
local macro_rules | `(tactic| fail "sm") => `(tactic| first | assumption | exact Same.refl _ | (with_reducible refine' Same.new ?h1 ?n1; (case n1 => assumption); (case h1 => fail "sm")) | (refine' Same.tr (by assumption) ?h1; (case h1 => fail "sm")) | fail "no sm")
local macro_rules | `(tactic| fail "fld") => `(tactic| first | (show 0 < 1000; decide) | (show 1 < 1000; decide) | fail "no fld")

section
variable {P : Program} {w : World} {K : PySem.W.Frag} {mg : Str → Option Value} {base : Heap} {CN CI CU CL CS : Addr} {mc mu : Value}

structure NTx (K : PySem.W.Frag) (mg : Str → Option Value) (CN : Addr) (mc mu : Value) : Prop extends Txt K mg where
  cl : Cls K CN
  rd : ClX.CRead K CN mc
  most : ClX.CVal K CN mc "MOST" (.int 24) mu
  n_count : NoAttr K CN "count"
  n__links : NoAttr K CN "_links"
  mgNet : mg "Net" = some (.ref CN)
/-- the __init__ of the three errors -/
abbrev sEI : Stmt := inClass (top 3) 0
abbrev sEU : Stmt := inClass (top 4) 0
abbrev sEL : Stmt := inClass (top 5) 0
theorem scEI : FnScope ["self", "link"] ["self", "link"] (defScope sEI) := ⟨rfl, rfl, rfl, by decide +kernel, rfl, by decide +kernel, by decide +kernel⟩
theorem scEU : FnScope ["self", "replica"] ["self", "replica"] (defScope sEU) := ⟨rfl, rfl, rfl, by decide +kernel, rfl, by decide +kernel, by decide +kernel⟩
theorem scEL : FnScope ["self", "source", "reader"] ["self", "source", "reader"] (defScope sEL) := ⟨rfl, rfl, rfl, by decide +kernel, rfl, by decide +kernel, by decide +kernel⟩
theorem ok_EI {C f : Addr} {fd : FuncData} (F : L2.Fun K "__init__" "InvalidNet.__init__" sEI f fd) (ox : OexC K C) (no : PySem.W.findIn K (.ref C) "link" = some none) : FnOk P w K mg base CX0 1 f fd ["self", "link"] (spErr1 C "link") := by
  refine F.ok scEI (fun vs H Q E h => ?_) (fun cdv A outer s H vs Q E hr h => ?_)
  · obtain ⟨a, v, rfl, _⟩ := h
    rfl
  · obtain ⟨a, v, rfl, ha, k⟩ := h
    refine ⟨_, pss_one (ps_ost (pv 0) (pv 1)), ?_⟩
    exact ⟨_, rfl, _, rfl, a, C, rfl, ox, no, .inl ⟨ha, fun dx n ne => k dx n ne⟩⟩
theorem ok_EU {C f : Addr} {fd : FuncData} (F : L2.Fun K "__init__" "UnknownReplica.__init__" sEU f fd) (ox : OexC K C) (no : PySem.W.findIn K (.ref C) "replica" = some none) : FnOk P w K mg base CX0 1 f fd ["self", "replica"] (spErr1 C "replica") := by
  refine F.ok scEU (fun vs H Q E h => ?_) (fun cdv A outer s H vs Q E hr h => ?_)
  · obtain ⟨a, v, rfl, _⟩ := h
    rfl
  · obtain ⟨a, v, rfl, ha, k⟩ := h
    refine ⟨_, pss_one (ps_ost (pv 0) (pv 1)), ?_⟩
    exact ⟨_, rfl, _, rfl, a, C, rfl, ox, no, .inl ⟨ha, fun dx n ne => k dx n ne⟩⟩
theorem ok_EL {C f : Addr} {fd : FuncData} (F : L2.Fun K "__init__" "NotLinked.__init__" sEL f fd) (ox : OexC K C) (no1 : PySem.W.findIn K (.ref C) "source" = some none) (no2 : PySem.W.findIn K (.ref C) "reader" = some none) : FnOk P w K mg base CX0 1 f fd ["self", "source", "reader"] (spErr2 C "source" "reader") := by
  refine F.ok scEL (fun vs H Q E h => ?_) (fun cdv A outer s H vs Q E hr h => ?_)
  · obtain ⟨a, v, u, rfl, _⟩ := h
    rfl
  · obtain ⟨a, v, u, rfl, ha, k⟩ := h
    refine ⟨_, pss_cons (ps_ost (pv 0) (pv 1)) (pss_one (ps_ost (pv 0) (pv 2))), ?_⟩
    refine ⟨_, rfl, _, rfl, a, C, rfl, ox, no1, .inl ⟨ha, fun dx n ne => ?_⟩⟩
    exact ⟨_, rfl, _, rfl, a, C, rfl, ox, no2, .inr ⟨dx, _, upd_same, by rw [upd_ne ne]; exact upd_same, (by simp), k dx n ne⟩⟩
abbrev sCheckCount : Stmt := top 9
theorem scCheckCount : FnScope ["count"] ["count"] (defScope sCheckCount) := ⟨rfl, rfl, rfl, by decide +kernel, rfl, by decide +kernel, by decide +kernel⟩
/-- an InvalidNet leaves, of this link -/
def RaisesI (CI : Addr) (v : V) (H : Hp) (E : XK) : Prop := ∀ (d : Addr) (H' : Hp), H d = none → Same H H' → H' d = some (.xd [("link", v)]) → E (.ref CI) (some d) H'
def spCheckCount (CI : Addr) : Sp := fun vs H Q E => ∃ (n : Int), vs = [.int n] ∧ ((1 ≤ n ∧ n ≤ 24) → ∀ H', Same H H' → Q .non H') ∧ (¬ (1 ≤ n ∧ n ≤ 24) → RaisesI CI .non H E)
theorem ok_CheckCount (D : Df K mg "check_count" sCheckCount ["count"]) (T : NTx K mg CN mc mu) (MInvalidNet : Mke P w K mg base 1 "InvalidNet" CI (spErr1 CI "link")) : CalX P w K mg base 3 "check_count" (spCheckCount CI) := by
  obtain ⟨f, fd, F, hm, hb⟩ := D
  refine ⟨f, fd, ["count"], F.okX scCheckCount (fun vs H Q E h => ?_) (fun cdv A outer s H vs Q E hr h => ?_), hm, F.kp, hb⟩
  · obtain ⟨n, rfl, kG, kB⟩ := h
    rfl
  · obtain ⟨n, rfl, kG, kB⟩ := h
    refine ⟨_, (pss_one (ps_if (pt_cmpR opNotInRng (pv 0) (pe_callTy cr_range2 (by rfl) T.range (by decide +kernel) (pa_cons pe_int (pa_cons (pe_op op_add (ClX.pe_cval (pe_glob (v := .ref CN) rfl T.mgNet rfl)) pe_int) pa_nil))) (by rfl))
        (pss_one (ps_raise rfl (takes_of rfl rfl rfl rfl) (pmk1 MInvalidNet hr (by decide) (by rfl) (pa_cons pe_non pa_nil) (by fail "mono"))))
        pss_nil)), ?_⟩
    -- if count not in range(1, Net.MOST + 1):
    refine ⟨_, rfl, _, _, _, _, rfl, T.rd, T.most, _, _, rfl, rfl, _, _, rfl, fun p1 np1 => ⟨_, _, _, _, rfl, rfl, upd_same, _, rfl, ?_⟩⟩
    refine nifD (fun g2 => ?_) (fun g2 => ?_)
    · -- raise InvalidNet(None)
      refine ⟨_, rfl, fun d3 nd3 => ?_⟩
      have d2 : d3 ≠ p1 := fun z => by rw [z, upd_same] at nd3; cases nd3
      exact kB (by omega) d3 _ (by rw [upd_ne d2] at nd3; exact nd3) (by fail "sm") upd_same
    · exact kG (by omega) _ (by fail "sm")
abbrev sCheckPair : Stmt := top 10
theorem scCheckPair : FnScope ["count", "link", "source", "reader"] ["count", "link"] (defScope sCheckPair) := ⟨rfl, rfl, rfl, by decide +kernel, rfl, by decide +kernel, by decide +kernel⟩
def spCheckPair (CI : Addr) : Sp := fun vs H Q E => ∃ (n : Nat) (t : Addr) (x y : Int), vs = [.int (n : Int), .ref t] ∧ H t = some (.tup [.int x, .int y]) ∧ (Good n (x, y) → ∀ H', Same H H' → Q .non H') ∧ (¬ Good n (x, y) → RaisesI CI (.ref t) H E)
theorem fresh2 {H : Hp} {p d : Addr} {o : HO} (h : upd H p o d = none) : H d = none ∧ d ≠ p := by
  have e : d ≠ p := fun z => by rw [z, upd_same] at h; cases h
  rw [upd_ne e] at h
  exact ⟨h, e⟩
theorem ok_CheckPair (D : Df K mg "check_pair" sCheckPair ["count", "link"]) (T : NTx K mg CN mc mu) (MInvalidNet : Mke P w K mg base 1 "InvalidNet" CI (spErr1 CI "link")) : CalX P w K mg base 3 "check_pair" (spCheckPair CI) := by
  obtain ⟨f, fd, F, hm, hb⟩ := D
  refine ⟨f, fd, ["count", "link"], F.okX scCheckPair (fun vs H Q E h => ?_) (fun cdv A outer s H vs Q E hr h => ?_), hm, F.kp, hb⟩
  · obtain ⟨n, t, x, y, rfl, ht, kG, kB⟩ := h
    rfl
  · obtain ⟨n, t, x, y, rfl, ht, kG, kB⟩ := h
    refine ⟨_, (pss_cons (ps_asg (pv 1) (pg_tup rfl (pgs_cons (pg_name (i := 2) scCheckPair.nd rfl (Or.inl rfl)) (pgs_cons (pg_name (i := 3) scCheckPair.nd rfl (Or.inl rfl)) pgs_nil))))
      (pss_one (ps_if (PW.pt (pw_or (pt_cmpR op_eq (pv 2) (pv 3) (nomark _)) (pw_or (pt_cmpR opNotInRng (pv 2) (pe_callTy crRange1 (by rfl) T.range (by decide +kernel) (pa_cons (pv 0) pa_nil)) (by rfl)) (pw_or1 (pt_cmpR opNotInRng (pv 3) (pe_callTy crRange1 (by rfl) T.range (by decide +kernel) (pa_cons (pv 0) pa_nil)) (by rfl))))))
        (pss_one (ps_raise rfl (takes_of rfl rfl rfl rfl) (pmk1 MInvalidNet hr (by decide) (by rfl) (pa_cons (pv 1) pa_nil) (by fail "mono"))))
        pss_nil))), ?_⟩
    -- source, reader = link
    refine ⟨_, rfl, _, _, rfl, SqT.of (by fail "hp"), rfl, _, _, rfl, _, _, rfl, rfl, ?_⟩
    -- if source == reader or source not in range(count) or reader not in range(count):
    refine ⟨_, rfl, _, rfl, rfl, _, rfl, ?_⟩
    refine ifEqI (fun g1 => ?_) (fun g1 => ?_)
    · fail "ite"
      -- raise InvalidNet(link)
      refine ⟨_, rfl, _, rfl, fun d2 nd2 => ?_⟩
      exact kB (fun z => z.2.2.2.2 g1) _ _ nd2 (by fail "sm") upd_same
    · refine ⟨_, rfl, _, rfl, _, rfl, fun p3 np3 => ⟨_, _, _, _, rfl, rfl, upd_same, _, rfl, ?_⟩⟩
      refine nifD (fun g4 => ?_) (fun g4 => ?_)
      · fail "ite"
        -- raise InvalidNet(link)
        refine ⟨_, rfl, _, rfl, fun d5 nd5 => ?_⟩
        obtain ⟨f1, f2⟩ := fresh2 nd5
        exact kB (fun z => by obtain ⟨z1, z2, _⟩ := z; dsimp only at *; omega) _ _ f1 (by fail "sm") upd_same
      · refine ⟨_, rfl, _, rfl, _, rfl, fun p6 np6 => ⟨_, _, _, _, rfl, rfl, upd_same, _, rfl, ?_⟩⟩
        refine nifD (fun g7 => ?_) (fun g7 => ?_)
        · -- raise InvalidNet(link)
          refine ⟨_, rfl, _, rfl, fun d8 nd8 => ?_⟩
          obtain ⟨f1, f2⟩ := fresh2 nd8
          obtain ⟨f3, f4⟩ := fresh2 f1
          exact kB (fun z => by obtain ⟨z1, z2, z3, z4, _⟩ := z; dsimp only at *; omega) _ _ f3 (by fail "sm") upd_same
        · exact kG ⟨by dsimp only; omega, by dsimp only; omega, by dsimp only; omega, by dsimp only; omega, g1⟩ _ (by fail "sm")
abbrev sCheckReplica : Stmt := top 11
theorem scCheckReplica : FnScope ["net", "replica"] ["net", "replica"] (defScope sCheckReplica) := ⟨rfl, rfl, rfl, by decide +kernel, rfl, by decide +kernel, by decide +kernel⟩
def RaisesU (CU : Addr) (r : Int) (H : Hp) (E : XK) : Prop := ∀ (d : Addr) (H' : Hp), H d = none → Same H H' → H' d = some (.xd [("replica", .int r)]) → E (.ref CU) (some d) H'
def spCheckReplica (CN CU : Addr) : Sp := fun vs H Q E => ∃ (a : Addr) (n : Nat) (R : Rel) (r : Int), vs = [.ref a, .int r] ∧ NetAt CN H a n R ∧ ((0 ≤ r ∧ r < n) → ∀ H', Same H H' → Q .non H') ∧ (¬ (0 ≤ r ∧ r < n) → RaisesU CU r H E)
theorem ok_CheckReplica (D : Df K mg "check_replica" sCheckReplica ["net", "replica"]) (T : NTx K mg CN mc mu) (MUnknownReplica : Mke P w K mg base 1 "UnknownReplica" CU (spErr1 CU "replica")) : CalX P w K mg base 3 "check_replica" (spCheckReplica CN CU) := by
  obtain ⟨f, fd, F, hm, hb⟩ := D
  refine ⟨f, fd, ["net", "replica"], F.okX scCheckReplica (fun vs H Q E h => ?_) (fun cdv A outer s H vs Q E hr h => ?_), hm, F.kp, hb⟩
  · obtain ⟨a, n, R, r, rfl, na, kG, kB⟩ := h
    rfl
  · obtain ⟨a, n, R, r, rfl, na, kG, kB⟩ := h
    obtain ⟨⟨dx, d, ha, hd⟩, _, _, _⟩ := na
    refine ⟨_, (pss_one (ps_if (pt_cmpR opNotInRng (pv 1) (pe_callTy crRange1 (by rfl) T.range (by decide +kernel) (pa_cons (pe_fld (pv 0) (by rfl)) pa_nil)) (by rfl))
        (pss_one (ps_raise rfl (takes_of rfl rfl rfl rfl) (pmk1 MUnknownReplica hr (by decide) (by rfl) (pa_cons (pv 1) pa_nil) (by fail "mono"))))
        pss_nil)), ?_⟩
    -- if replica not in range(net.count):
    refine ⟨_, rfl, _, rfl, _, _, _, _, _, rfl, (by fail "hp"), T.cl, T.n_count, (by fail "lk"), _, rfl, fun p1 np1 => ⟨_, _, _, _, rfl, rfl, upd_same, _, rfl, ?_⟩⟩
    refine nifD (fun g2 => ?_) (fun g2 => ?_)
    · -- raise UnknownReplica(replica)
      refine ⟨_, rfl, _, rfl, fun d3 nd3 => ?_⟩
      obtain ⟨f1, f2⟩ := fresh2 nd3
      exact kB (by omega) _ _ f1 (by fail "sm") upd_same
    · exact kG (by omega) _ (by fail "sm")
end
end K01

end
section
set_option Elab.async false
set_option linter.all false
set_option maxRecDepth 100000
set_option maxHeartbeats 800000
namespace K01
open PySem L2 Kit KR KX
local macro_rules | `(tactic| fail "om") => `(tactic| first | omega | (simp only [List.length_map, List.length_append, List.length_cons, List.length_nil]; omega) | (simp only [List.length_map, List.length_append, List.length_cons, List.length_nil] at *; omega) | assumption | decide | fail "no om")
local macro_rules | `(tactic| fail "nz") => `(tactic| first | decide | omega | fail "no nz")
local macro_rules | `(tactic| fail "dv") => `(tactic| exact ⟨by first | decide | omega, by first | decide | omega⟩)
local macro_rules | `(tactic| fail "mul") => `(tactic| first | exact .inr ⟨by decide, by decide⟩ | exact .inl ⟨by decide, by decide⟩ | exact mulF (by decide) (by decide) | exact .inl ⟨by omega, by omega⟩ | exact .inr ⟨by omega, by omega⟩ | fail "no mul")
local macro_rules | `(tactic| fail "sz") => `(tactic| first | assumption | exact Nat.zero_le _ | (show 1 ≤ sizeLine; decide) | (show 2 ≤ sizeLine; decide) | (show 3 ≤ sizeLine; decide) | (show 4 ≤ sizeLine; decide) | (show 5 ≤ sizeLine; decide) | exact Evl.sz_of (by omega) | (refine Evl.sz_of ?_; simp only [List.length_append, List.length_map, List.length_cons, List.length_nil]; omega) | fail "no sz")
local macro_rules | `(tactic| fail "szl") => `(tactic| first | exact Evl.sz_lt (by omega) | (refine Evl.sz_lt ?_; simp only [List.length_append, List.length_map, List.length_cons, List.length_nil]; omega) | fail "no szl")
local macro_rules | `(tactic| fail "ix") => `(tactic| first | assumption | exact ix0 | exact ix1 | exact ix2 | exact at_ref (by assumption) (by omega) | exact at_int (by assumption) (by omega) | exact at_drawn (by assumption) (by assumption) | rfl | fail "no ix")
local macro_rules | `(tactic| fail "ixn") => `(tactic| first | rfl | assumption | fail "no ixn")
local macro_rules | `(tactic| fail "nb") => `(tactic| first | assumption | exact nb_tup | exact nb_nil | exact nb_ints | exact nb_refs | exact nb_ins | exact nb_dT | exact nb_frz | fail "no nb")
local macro_rules | `(tactic| fail "ne") => `(tactic| first | assumption | exact Ne.symm (by assumption) | exact ne_of_none (by assumption) (by assumption) | exact (ne_of_none (by assumption) (by assumption)).symm | exact ne_of (by assumption) (by assumption) (by intro q; cases q) | exact ne_of (by assumption) (by assumption) (by simp) | fail "no ne")
local macro_rules | `(tactic| fail "hp") => `(tactic| first | assumption | exact upd_same | (refine' Tk.get (by assumption) ?k1; (case k1 => fail "tk")) | (with_reducible refine' upd_new ?h1 ?n1; (case n1 => assumption); (case h1 => fail "hp")) | (refine' Same.get (by assumption) ?h1; (case h1 => fail "hp")) | (refine' Kp.get (by assumption) (by fail "bx") ?h1 ?d1; (case h1 => fail "hp"); (case d1 => fail "nb")) | (with_reducible refine' upd_oth ?h1 ?n1; (case n1 => fail "ne"); (case h1 => fail "hp")) | (with_reducible refine' upd_oth ?h1 ?n1; (case h1 => fail "hp"); (case n1 => fail "ne")) | fail "no hp")
local macro_rules | `(tactic| fail "bx") => `(tactic| first | assumption | (with_reducible refine' BoxOk.new ?h1 ?n1; (case n1 => assumption); (case h1 => fail "bx")) | (refine' BoxOk.same (by assumption) ?h1; (case h1 => fail "bx")) | (with_reducible refine' BoxOk.mut ?h1 ?h2 ?n1; (case n1 => assumption); (case h2 => assumption); (case h1 => fail "bx")) | fail "no bx")
local macro_rules | `(tactic| fail "kp") => `(tactic| first | assumption | exact Kp.refl | (with_reducible refine' Kp.at ?h1; (case h1 => fail "kp")) | (with_reducible refine' Kp.new ?h1 ?n1; (case n1 => assumption); (case h1 => fail "kp")) | (with_reducible refine' Kp.mut ?h1 ?n1; (case n1 => assumption); (case h1 => fail "kp")) | (refine' Kp.tr (by assumption) ?h1; (case h1 => fail "kp")) | (refine' Kp.tr (Kp.of (by assumption)) ?h1; (case h1 => fail "kp")) | fail "no kp")
local macro_rules | `(tactic| fail "ite") => `(tactic| first | refine iteT ?_ | refine iteF ?_)
local macro_rules | `(tactic| fail "tt") => `(tactic| first | rfl | exact decide_eq_true (by first | rfl | omega | assumption) | exact decide_eq_true (congrArg V.int (by first | rfl | omega)) | fail "no tt")
local macro_rules | `(tactic| fail "cv") => `(tactic| first | exact .ty _ | exact .own _)
local macro_rules | `(tactic| fail "tx") => `(tactic| first | exact .base (.int _) | exact .base (.bl _) | exact .base .non | exact .base (.lst (by fail "hp")) | exact .base (.tup (by fail "hp")) | fail "no tx")
local macro_rules | `(tactic| fail "dead") => `(tactic| (exfalso; first | omega | contradiction | simp_all))
local macro_rules | `(tactic| fail "dp") => `(tactic| first | exact .tup (SqT.of (by fail "hp")) (.cons (.int _) (.cons (.int _) .nil)) | exact .lst (SqL.of (by fail "hp")) (dpPrs (by fail "pr")) | exact .lst (SqL.of (by fail "hp")) (dpInts _) | exact .lst (SqL.of (by fail "hp")) .nil | fail "no dp")
local macro_rules | `(tactic| fail "shp") => `(tactic| first | assumption | exact prD_shaped _ | exact PySem.W.ke_shaped_ints _ | rfl | fail "no shp")
local macro_rules | `(tactic| fail "pr") => `(tactic| first | assumption | exact PrT.mono (by assumption) (by fail "tk") | fail "no pr")
local macro_rules | `(tactic| fail "tk") => `(tactic| first | assumption | exact Tk.refl | (with_reducible refine' Tk.new ?h1 ?n1; (case n1 => assumption); (case h1 => fail "tk")) | (refine' Tk.tr (Kp.tk (by assumption) (by fail "bx")) ?h1; (case h1 => fail "tk")) | (refine' Tk.tr (Same.tk (by assumption)) ?h1; (case h1 => fail "tk")) | (with_reducible refine' Tk.lst ?h1 ?n1; (case n1 => fail "hp"); (case h1 => fail "tk")) | fail "no tk")
local macro_rules | `(tactic| fail "lk") => `(tactic| first | exact netF_count _ _ | exact netF_links _ _ | exact netF_no _ _ (by decide +kernel) (by decide +kernel) | fail "no lk")
local macro_rules | `(tactic| fail "kt") => `(tactic| first | exact upd_same | assumption | fail "hp")
local macro_rules | `(tactic| fail "na") => `(tactic| first | assumption | (with_reducible refine' NetAt.new ?h1 ?n1; (case n1 => assumption); (case h1 => fail "na")) | (refine' NetAt.same (by assumption) ?h1; (case h1 => fail "na")) | (refine' NetAt.kp (by assumption) (by fail "bx") ?h1; (case h1 => fail "na")) | (with_reducible refine' NetAt.lst ?h1 ?n1; (case n1 => fail "hp"); (case h1 => fail "na")) | fail "no na")
local macro_rules | `(tactic| fail "mono") => `(tactic| first | exact fun _ _ _ _ h q => h _ _ q | exact fun _ _ _ _ h q => (let ⟨v, e, z⟩ := q; ⟨v, e, h _ _ z⟩) | exact fun _ _ _ _ h q => (let ⟨v, e, u, f, z⟩ := q; ⟨v, e, u, f, h _ _ z⟩) | fail "no mono")
local macro_rules | `(tactic| fail "sm") => `(tactic| first | assumption | exact Same.refl _ | (with_reducible refine' Same.new ?h1 ?n1; (case n1 => assumption); (case h1 => fail "sm")) | (refine' Same.tr (by assumption) ?h1; (case h1 => fail "sm")) | fail "no sm")
local macro_rules | `(tactic| fail "fld") => `(tactic| first | (show 0 < 1000; decide) | (show 1 < 1000; decide) | fail "no fld")

section
variable {P : Program} {w : World} {K : PySem.W.Frag} {mg : Str → Option Value} {base : Heap} {CN CI CU CL CS : Addr} {mc mu : Value}

theorem hu1 {k : Nat} {A : Around} (r : Room k A) : A.units + 1 < cLine := by
  have := r.units
  omega
theorem pe_fldB {X : Cx} {K : PySem.W.Frag} {e : Expr} {f : Str} {pos : Pos} {ta : TE} (he : PE X e ta) (hb : attributeBase e f X.env (eval e X.env) = eval e X.env) (hK : X.K = K) : PE X (.Attribute e f pos) (tFld K ta f) := by
  subst hK
  exact pe_fld he hb
theorem free_back {H H1 : Hp} {d : Addr} (h : H1 d = none) (s : Same H H1) : H d = none := by
  cases e : H d with
  | none => rfl
  | some o => rw [s d o e] at h; cases h
theorem RaisesI.back {CI : Addr} {v : V} {H H1 : Hp} {E : XK} (k : RaisesI CI v H E) (s : Same H H1) : RaisesI CI v H1 E := fun d H' nd sm xd => k d H' (free_back nd s) (s.trans sm) xd
theorem RaisesU.back {CU : Addr} {r : Int} {H H1 : Hp} {E : XK} (k : RaisesU CU r H E) (s : Same H H1) : RaisesU CU r H1 E := fun d H' nd sm xd => k d H' (free_back nd s) (s.trans sm) xd
def RaisesL (CL : Addr) (s r : Int) (H : Hp) (E : XK) : Prop := ∀ (d : Addr) (H' : Hp), H d = none → Same H H' → H' d = some (.xd [("reader", .int r), ("source", .int s)]) → E (.ref CL) (some d) H'
theorem RaisesL.back {CL : Addr} {x y : Int} {H H1 : Hp} {E : XK} (k : RaisesL CL x y H E) (s : Same H H1) : RaisesL CL x y H1 E := fun d H' nd sm xd => k d H' (free_back nd s) (s.trans sm) xd
theorem has_key (n : Nat) (R : Rel) (s r : Int) : (valV (linkKV n R) [.inl s, .inl r]).isSome = decide ((s, r) ∈ ties n R) := find_key _ _ _
theorem has_nat {n : Nat} {R : Rel} {x y : Nat} (hx : x < n) (hy : y < n) : ((((x : Nat) : Int), ((y : Nat) : Int)) ∈ ties n R) ↔ R x y = true := by
  rw [mem_ties]
  constructor
  · rintro ⟨a, b, _, _, r, e⟩
    have e1 : (x : Int) = (a : Int) := congrArg Prod.fst e
    have e2 : (y : Int) = (b : Int) := congrArg Prod.snd e
    obtain rfl : x = a := by omega
    obtain rfl : y = b := by omega
    exact r
  · intro r
    exact ⟨x, y, hx, hy, r, rfl⟩
theorem has_natB (n : Nat) (R : Rel) {x y : Nat} (hx : x < n) (hy : y < n) : decide ((((x : Nat) : Int), ((y : Nat) : Int)) ∈ ties n R) = R x y := by
  cases e : R x y with
  | true => exact decide_eq_true ((has_nat hx hy).mpr e)
  | false => exact decide_eq_false fun z => by rw [(has_nat hx hy).mp z] at e; cases e
/-- the sources of y below j; the readers of x below j -/
def colI (R : Rel) (y j : Nat) : List Int := ((List.range j).filter fun x => R x y).map fun (x : Nat) => (x : Int)
def rowI (R : Rel) (x j : Nat) : List Int := ((List.range j).filter fun y => R x y).map fun (y : Nat) => (y : Int)
theorem colI_len (R : Rel) (y j : Nat) : (colI R y j).length ≤ j := by
  unfold colI
  rw [List.length_map]
  have h := List.length_filter_le (fun x => R x y) (List.range j)
  rw [List.length_range] at h
  exact h
theorem colI_yes {R : Rel} {y j : Nat} (h : R j y = true) : colI R y (j + 1) = colI R y j ++ [(j : Int)] := by
  unfold colI
  rw [List.range_succ, List.filter_append, List.map_append]
  simp [List.filter, h]
theorem colI_no {R : Rel} {y j : Nat} (h : R j y = false) : colI R y (j + 1) = colI R y j := by
  unfold colI
  rw [List.range_succ, List.filter_append, List.map_append]
  simp [List.filter, h]
theorem rowI_col (R : Rel) (x j : Nat) : rowI R x j = colI (fun a b => R b a) x j := rfl
local macro_rules | `(tactic| fail "bad") => `(tactic| first | exact fun z => RaisesI.back (kB z) (by fail "sm") | exact fun z => RaisesU.back (kB z) (by fail "sm") | exact fun z => RaisesL.back (kB z) (by fail "sm") | exact fun z => RaisesI.back (kC z) (by fail "sm") | fail "no bad")

abbrev sNetHasLink : Stmt := inClass (top 8) 10
theorem scNetHasLink : FnScope ["self", "source", "reader"] ["self", "source", "reader"] (defScope sNetHasLink) := ⟨rfl, rfl, rfl, by decide +kernel, rfl, by decide +kernel, by decide +kernel⟩
def spHas (CN : Addr) : Sp := fun vs H Q _ => ∃ (a : Addr) (n : Nat) (R : Rel) (s r : Int), vs = [.ref a, .int s, .int r] ∧ NetAt CN H a n R ∧ ∀ H', Same H H' → Q (.bl (decide ((s, r) ∈ ties n R))) H'
theorem ok_NetHasLink {f : Addr} {fd : FuncData} (F : L2.Fun K "has_link" "Net.has_link" sNetHasLink f fd) (T : NTx K mg CN mc mu) : FnOk P w K mg base CX0 1 f fd ["self", "source", "reader"] (spHas CN) := by
  refine F.ok scNetHasLink (fun vs H Q E h => ?_) (fun cdv A outer s H vs Q E hr h => ?_)
  · obtain ⟨a, n, R, s, r, rfl, na, kQ⟩ := h
    rfl
  · obtain ⟨a, n, R, s, r, rfl, na, kQ⟩ := h
    have na2 := na
    obtain ⟨⟨dx, d, ha, hd⟩, b1, b2, ir⟩ := na2
    refine ⟨_, (pss_one (ps_ret (pe_cmp (pc_din (hu1 hr) (pe_tup (pa_cons (pv 1) (pa_cons (pv 2) pa_nil))) (pe_fld (pv 0) (by rfl))) rfl))), ?_⟩
    -- return (source, reader) in self._links
    refine ⟨_, rfl, _, rfl, (by fail "sz"), fun p1 np1 => ⟨_, rfl, _, _, _, _, _, rfl, (by fail "hp"), T.cl, T.n__links, (by fail "lk"), _, _, rfl, DGet.t (k := [.inl _, .inl _]) (by fail "hp") (by fail "kt"), ?_⟩⟩
    rw [has_key]
    exact kQ _ (by fail "sm")
abbrev sCheckLink : Stmt := top 12
theorem scCheckLink : FnScope ["net", "source", "reader"] ["net", "source", "reader"] (defScope sCheckLink) := ⟨rfl, rfl, rfl, by decide +kernel, rfl, by decide +kernel, by decide +kernel⟩
def spCheckLink (CN CL : Addr) : Sp := fun vs H Q E => ∃ (a : Addr) (n : Nat) (R : Rel) (s r : Int), vs = [.ref a, .int s, .int r] ∧ NetAt CN H a n R ∧ ((s, r) ∈ ties n R → ∀ H', Same H H' → Q .non H') ∧ (¬ (s, r) ∈ ties n R → RaisesL CL s r H E)
theorem ok_CheckLink (D : Df K mg "check_link" sCheckLink ["net", "source", "reader"]) (T : NTx K mg CN mc mu) (MNotLinked : Mke P w K mg base 1 "NotLinked" CL (spErr2 CL "source" "reader")) (Nhas_link : C8.Met P w K mg base 1 CN "has_link" (spHas CN) []) : CalX P w K mg base 3 "check_link" (spCheckLink CN CL) := by
  obtain ⟨f, fd, F, hm, hb⟩ := D
  refine ⟨f, fd, ["net", "source", "reader"], F.okX scCheckLink (fun vs H Q E h => ?_) (fun cdv A outer s H vs Q E hr h => ?_), hm, F.kp, hb⟩
  · obtain ⟨a, n, R, s, r, rfl, na, kG, kB⟩ := h
    rfl
  · obtain ⟨a, n, R, s, r, rfl, na, kG, kB⟩ := h
    have na2 := na
    obtain ⟨⟨dx, d, ha, hd⟩, b1, b2, ir⟩ := na2
    refine ⟨_, (pss_one (ps_if (pt_not (pt_val (C8.pe_mt Nhas_link hr (by decide) (pv 0) (pa_cons (pv 1) (pa_cons (pv 2) pa_nil)))))
        (pss_one (ps_raise rfl (takes_of rfl rfl rfl rfl) (pmk2 MNotLinked hr (by decide) (by rfl) (pa_cons (pv 1) (pa_cons (pv 2) pa_nil)) (by fail "mono"))))
        pss_nil)), ?_⟩
    -- if not net.has_link(source, reader):
    refine ⟨_, rfl, _, _, _, rfl, (by fail "hp"), (by fail "lk"), _, rfl, _, rfl, _, _, _, _, _, rfl, (by fail "na"), fun H1 sm1 => ⟨_, rfl, ?_⟩⟩
    refine nifB (fun g2 => ?_) (fun g2 => ?_)
    · -- raise NotLinked(source, reader)
      refine ⟨_, rfl, _, rfl, _, _, rfl, fun d3 nd3 => ?_⟩
      exact kB (of_decide_eq_false g2) _ _ (free_back nd3 sm1) (by fail "sm") upd_same
    · exact kG (of_decide_eq_true g2) _ (by fail "sm")
abbrev sNetLinks : Stmt := inClass (top 8) 7
theorem scNetLinks : FnScope ["self"] ["self"] (defScope sNetLinks) := ⟨rfl, rfl, rfl, by decide +kernel, rfl, by decide +kernel, by decide +kernel⟩
def spLinks (CN : Addr) : Sp := fun vs H Q _ => ∃ (a : Addr) (n : Nat) (R : Rel), vs = [.ref a] ∧ NetAt CN H a n R ∧ ∀ (p : Addr) (as : List Addr) (H' : Hp), H p = none → Same H H' → H' p = some (.lst (as.map V.ref)) → PrT H' as (ties n R) → Q (.ref p) H'
theorem ok_NetLinks {f : Addr} {fd : FuncData} (F : L2.Fun K "links" "Net.links" sNetLinks f fd) (T : NTx K mg CN mc mu) : FnOk P w K mg base CX0 1 f fd ["self"] (spLinks CN) := by
  refine F.ok scNetLinks (fun vs H Q E h => ?_) (fun cdv A outer s H vs Q E hr h => ?_)
  · obtain ⟨a, n, R, rfl, na, kQ⟩ := h
    rfl
  · obtain ⟨a, n, R, rfl, na, kQ⟩ := h
    have na2 := na
    obtain ⟨⟨dx, d, ha, hd⟩, b1, b2, ir⟩ := na2
    refine ⟨_, (pss_one (ps_ret (pe_callTy (call_list_dT rfl) (by rfl) T.list (by decide +kernel) (pa_cons (pe_fld (pv 0) (by rfl)) pa_nil)))), ?_⟩
    -- return list(self._links)
    refine ⟨_, rfl, _, _, _, _, _, rfl, (by fail "hp"), T.cl, T.n__links, (by fail "lk"), _, _, rfl, .inl (by fail "hp"), fun p1 ks1 np1 ik1 => ?_⟩
    exact kQ _ ks1 _ np1 (by fail "sm") upd_same (PrT.mono (prT_keys ik1) (by fail "tk"))
def spSources (CN CU : Addr) : Sp := fun vs H Q E => ∃ (a : Addr) (n : Nat) (R : Rel) (r : Int), vs = [.ref a, .int r] ∧ NetAt CN H a n R ∧ ((0 ≤ r ∧ r < n) → ∀ (p : Addr) (H' : Hp), H p = none → Same H H' → H' p = some (.lst ((colI R r.toNat n).map V.int)) → Q (.ref p) H') ∧ (¬ (0 ≤ r ∧ r < n) → RaisesU CU r H E)
abbrev sNetReaders : Stmt := inClass (top 8) 9
theorem scNetReaders : FnScope ["self", "source", "reader"] ["self", "source"] (defScope sNetReaders) := ⟨rfl, rfl, rfl, by decide +kernel, rfl, by decide +kernel, by decide +kernel⟩
def spReaders (CN CU : Addr) : Sp := fun vs H Q E => ∃ (a : Addr) (n : Nat) (R : Rel) (r : Int), vs = [.ref a, .int r] ∧ NetAt CN H a n R ∧ ((0 ≤ r ∧ r < n) → ∀ (p : Addr) (H' : Hp), H p = none → Same H H' → H' p = some (.lst ((rowI R r.toNat n).map V.int)) → Q (.ref p) H') ∧ (¬ (0 ≤ r ∧ r < n) → RaisesU CU r H E)
theorem ok_NetReaders {f : Addr} {fd : FuncData} (F : L2.Fun K "readers" "Net.readers" sNetReaders f fd) (T : NTx K mg CN mc mu) (GCheckReplica : CalX P w K mg base 3 "check_replica" (spCheckReplica CN CU)) : FnOk P w K mg base (L2.CX P w) 5 f fd ["self", "source"] (spReaders CN CU) := by
  refine F.okX scNetReaders (fun vs H Q E h => ?_) (fun cdv A outer s H vs Q E hr h => ?_)
  · obtain ⟨a, n, R, r, rfl, na, kG, kB⟩ := h
    rfl
  · obtain ⟨a, n, R, r, rfl, na, kG, kB⟩ := h
    have na2 := na
    obtain ⟨⟨dx, d, ha, hd⟩, b1, b2, ir⟩ := na2
    refine ⟨_, (pss_cons (ps_expr (pe_cX GCheckReplica hr (by decide) (by rfl) (passes_call (takes_of rfl rfl rfl rfl) fun _ _ _ _ h => h) (pa_cons (pv 0) (pa_cons (pv 1) pa_nil))))
      (pss_one (ps_ret (pe_lc (own := [("reader", 2)]) (g := gName 2) rfl scNetReaders.nd (pi_range1 rfl T.range (pa_cons (pe_fld (pv 0) (by rfl)) pa_nil)) (blkOk_by (N := ["self", "source", "reader"]) (sc := defScope sNetReaders) (by decide +kernel)) (fun _ _ _ _ _ => (pg_name (i := 2) scNetReaders.nd rfl (Or.inl rfl))) (fun _ _ _ _ _ => (pts_one (pt_cmp (pc_din (hu1 hr) (pe_tup (pa_cons (pv 1) (pa_cons (pv 2) pa_nil))) (pe_fldB (K := K) (pv 0) (by rfl) (by rfl))) rfl))) (fun _ _ _ _ _ => (pv 2)))))), ?_⟩
    -- check_replica(self, source)
    refine ⟨_, rfl, _, rfl, _, _, _, _, rfl, (by fail "na"), fun gd1 H1 sm1 => ?_, fun z => RaisesU.back (kB z) (by fail "sm")⟩
    obtain ⟨y, rfl, hy⟩ := toN gd1.1 gd1.2
    rw [Int.toNat_natCast] at kG
    -- return [reader for reader in range(self.count) if (source, reader) in self._links]
    refine ⟨_, rfl, _, _, _, _, _, rfl, (by fail "hp"), T.cl, T.n_count, (by fail "lk"), _, rfl, (by fail "om"), (by fail "om"), fun D1 nD1 => lc_range (lo := 0) (n := ((n : Int)).toNat) (fun i H' => Same H1 H' ∧ H' D1 = some (.lst ((rowI R y i).map V.int))) ⟨by fail "sm", upd_same⟩ (fun i H' hi z => by
      obtain ⟨sm, hl⟩ := z
      have hi2 : i < n := by omega
      have hd1 := sm _ _ (sm1 _ _ hd)
      have ha1 := sm _ _ (sm1 _ _ ha)
      have lb : (rowI R y i).length ≤ i := colI_len (fun a b => R b a) y i
      refine ⟨rfl, _, rfl, _, rfl, (by fail "sz"), fun p1 np1 => ⟨_, rfl, _, _, _, _, _, rfl, (by fail "hp"), T.cl, T.n__links, (by fail "lk"), _, _, rfl, DGet.t (k := [.inl _, .inl _]) (by fail "hp") (by fail "kt"), _, rfl, ?_⟩⟩
      rw [has_key, Int.zero_add, has_natB n R hy hi2]
      refine ifB (fun g => ?_) fun g => ?_
      · refine ⟨_, rfl, _, (by fail "hp"), (by fail "szl"), Same.mut (by fail "sm") nD1, ?_⟩
        rw [upd_same, rowI_col, rowI_col, colI_yes (R := fun a b => R b a) g, List.map_append]
        rfl
      · refine ⟨by fail "sm", ?_⟩
        rw [rowI_col, colI_no (R := fun a b => R b a) g, ← rowI_col]
        fail "hp") fun H' z => by
      obtain ⟨sm, hl⟩ := z
      rw [Int.toNat_natCast] at hl
      exact kG gd1 _ _ (free_back nD1 sm1) (sm1.trans sm) hl⟩
    skip
end
end K01

end
section
set_option Elab.async false
set_option linter.all false
set_option maxRecDepth 100000
set_option maxHeartbeats 800000
namespace K01
open PySem L2 Kit KR KX
local macro_rules | `(tactic| fail "om") => `(tactic| first | omega | (simp only [List.length_map, List.length_append, List.length_cons, List.length_nil]; omega) | (simp only [List.length_map, List.length_append, List.length_cons, List.length_nil] at *; omega) | assumption | decide | fail "no om")
local macro_rules | `(tactic| fail "nz") => `(tactic| first | decide | omega | fail "no nz")
local macro_rules | `(tactic| fail "dv") => `(tactic| exact ⟨by first | decide | omega, by first | decide | omega⟩)
local macro_rules | `(tactic| fail "mul") => `(tactic| first | exact .inr ⟨by decide, by decide⟩ | exact .inl ⟨by decide, by decide⟩ | exact mulF (by decide) (by decide) | exact .inl ⟨by omega, by omega⟩ | exact .inr ⟨by omega, by omega⟩ | fail "no mul")
local macro_rules | `(tactic| fail "sz") => `(tactic| first | assumption | exact Nat.zero_le _ | (show 1 ≤ sizeLine; decide) | (show 2 ≤ sizeLine; decide) | (show 3 ≤ sizeLine; decide) | (show 4 ≤ sizeLine; decide) | (show 5 ≤ sizeLine; decide) | exact Evl.sz_of (by omega) | (refine Evl.sz_of ?_; simp only [List.length_append, List.length_map, List.length_cons, List.length_nil]; omega) | fail "no sz")
local macro_rules | `(tactic| fail "szl") => `(tactic| first | exact Evl.sz_lt (by omega) | (refine Evl.sz_lt ?_; simp only [List.length_append, List.length_map, List.length_cons, List.length_nil]; omega) | fail "no szl")
local macro_rules | `(tactic| fail "ix") => `(tactic| first | assumption | exact ix0 | exact ix1 | exact ix2 | exact at_ref (by assumption) (by omega) | exact at_int (by assumption) (by omega) | exact at_drawn (by assumption) (by assumption) | rfl | fail "no ix")
local macro_rules | `(tactic| fail "ixn") => `(tactic| first | rfl | assumption | fail "no ixn")
local macro_rules | `(tactic| fail "nb") => `(tactic| first | assumption | exact nb_tup | exact nb_nil | exact nb_ints | exact nb_refs | exact nb_ins | exact nb_dT | exact nb_frz | fail "no nb")
local macro_rules | `(tactic| fail "ne") => `(tactic| first | assumption | exact Ne.symm (by assumption) | exact ne_of_none (by assumption) (by assumption) | exact (ne_of_none (by assumption) (by assumption)).symm | exact ne_of (by assumption) (by assumption) (by intro q; cases q) | exact ne_of (by assumption) (by assumption) (by simp) | fail "no ne")
local macro_rules | `(tactic| fail "hp") => `(tactic| first | assumption | exact upd_same | (refine' Tk.get (by assumption) ?k1; (case k1 => fail "tk")) | (with_reducible refine' upd_new ?h1 ?n1; (case n1 => assumption); (case h1 => fail "hp")) | (refine' Same.get (by assumption) ?h1; (case h1 => fail "hp")) | (refine' Kp.get (by assumption) (by fail "bx") ?h1 ?d1; (case h1 => fail "hp"); (case d1 => fail "nb")) | (with_reducible refine' upd_oth ?h1 ?n1; (case n1 => fail "ne"); (case h1 => fail "hp")) | (with_reducible refine' upd_oth ?h1 ?n1; (case h1 => fail "hp"); (case n1 => fail "ne")) | fail "no hp")
local macro_rules | `(tactic| fail "bx") => `(tactic| first | assumption | (with_reducible refine' BoxOk.new ?h1 ?n1; (case n1 => assumption); (case h1 => fail "bx")) | (refine' BoxOk.same (by assumption) ?h1; (case h1 => fail "bx")) | (with_reducible refine' BoxOk.mut ?h1 ?h2 ?n1; (case n1 => assumption); (case h2 => assumption); (case h1 => fail "bx")) | fail "no bx")
local macro_rules | `(tactic| fail "kp") => `(tactic| first | assumption | exact Kp.refl | (with_reducible refine' Kp.at ?h1; (case h1 => fail "kp")) | (with_reducible refine' Kp.new ?h1 ?n1; (case n1 => assumption); (case h1 => fail "kp")) | (with_reducible refine' Kp.mut ?h1 ?n1; (case n1 => assumption); (case h1 => fail "kp")) | (refine' Kp.tr (by assumption) ?h1; (case h1 => fail "kp")) | (refine' Kp.tr (Kp.of (by assumption)) ?h1; (case h1 => fail "kp")) | fail "no kp")
local macro_rules | `(tactic| fail "ite") => `(tactic| first | refine iteT ?_ | refine iteF ?_)
local macro_rules | `(tactic| fail "tt") => `(tactic| first | rfl | exact decide_eq_true (by first | rfl | omega | assumption) | exact decide_eq_true (congrArg V.int (by first | rfl | omega)) | fail "no tt")
local macro_rules | `(tactic| fail "cv") => `(tactic| first | exact .ty _ | exact .own _)
local macro_rules | `(tactic| fail "tx") => `(tactic| first | exact .base (.int _) | exact .base (.bl _) | exact .base .non | exact .base (.lst (by fail "hp")) | exact .base (.tup (by fail "hp")) | fail "no tx")
local macro_rules | `(tactic| fail "dead") => `(tactic| (exfalso; first | omega | contradiction | simp_all))
local macro_rules | `(tactic| fail "dp") => `(tactic| first | exact .tup (SqT.of (by fail "hp")) (.cons (.int _) (.cons (.int _) .nil)) | exact .lst (SqL.of (by fail "hp")) (dpPrs (by fail "pr")) | exact .lst (SqL.of (by fail "hp")) (dpInts _) | exact .lst (SqL.of (by fail "hp")) .nil | fail "no dp")
local macro_rules | `(tactic| fail "shp") => `(tactic| first | assumption | exact prD_shaped _ | exact PySem.W.ke_shaped_ints _ | rfl | fail "no shp")
local macro_rules | `(tactic| fail "pr") => `(tactic| first | assumption | exact PrT.mono (by assumption) (by fail "tk") | fail "no pr")
local macro_rules | `(tactic| fail "tk") => `(tactic| first | assumption | exact Tk.refl | (with_reducible refine' Tk.new ?h1 ?n1; (case n1 => assumption); (case h1 => fail "tk")) | (refine' Tk.tr (Kp.tk (by assumption) (by fail "bx")) ?h1; (case h1 => fail "tk")) | (refine' Tk.tr (Same.tk (by assumption)) ?h1; (case h1 => fail "tk")) | (with_reducible refine' Tk.lst ?h1 ?n1; (case n1 => fail "hp"); (case h1 => fail "tk")) | fail "no tk")
local macro_rules | `(tactic| fail "lk") => `(tactic| first | exact netF_count _ _ | exact netF_links _ _ | exact netF_no _ _ (by decide +kernel) (by decide +kernel) | fail "no lk")
local macro_rules | `(tactic| fail "kt") => `(tactic| first | exact upd_same | assumption | fail "hp")
local macro_rules | `(tactic| fail "na") => `(tactic| first | assumption | (with_reducible refine' NetAt.new ?h1 ?n1; (case n1 => assumption); (case h1 => fail "na")) | (refine' NetAt.same (by assumption) ?h1; (case h1 => fail "na")) | (refine' NetAt.kp (by assumption) (by fail "bx") ?h1; (case h1 => fail "na")) | (with_reducible refine' NetAt.lst ?h1 ?n1; (case n1 => fail "hp"); (case h1 => fail "na")) | fail "no na")
local macro_rules | `(tactic| fail "mono") => `(tactic| first | exact fun _ _ _ _ h q => h _ _ q | exact fun _ _ _ _ h q => (let ⟨v, e, z⟩ := q; ⟨v, e, h _ _ z⟩) | exact fun _ _ _ _ h q => (let ⟨v, e, u, f, z⟩ := q; ⟨v, e, u, f, h _ _ z⟩) | fail "no mono")
local macro_rules | `(tactic| fail "sm") => `(tactic| first | assumption | exact Same.refl _ | (with_reducible refine' Same.new ?h1 ?n1; (case n1 => assumption); (case h1 => fail "sm")) | (refine' Same.tr (by assumption) ?h1; (case h1 => fail "sm")) | fail "no sm")
local macro_rules | `(tactic| fail "fld") => `(tactic| first | (show 0 < 1000; decide) | (show 1 < 1000; decide) | fail "no fld")

section
variable {P : Program} {w : World} {K : PySem.W.Frag} {mg : Str → Option Value} {base : Heap} {CN CI CU CL CS : Addr} {mc mu : Value}

/-- of these links, held at these addresses, the first one that is not good for n replicas is refused -/
def BadRow (CI : Addr) (n : Nat) (as : List Addr) (ps : List (Int × Int)) (H : Hp) (E : XK) : Prop := ∀ (j : Nat) (t : Addr) (p : Int × Int), as[j]? = some t → ps[j]? = some p → ¬ Good n p → (∀ i q, i < j → ps[i]? = some q → Good n q) → RaisesI CI (.ref t) H E
theorem BadRow.back {CI : Addr} {n : Nat} {as : List Addr} {ps : List (Int × Int)} {H H1 : Hp} {E : XK} (k : BadRow CI n as ps H E) (s : Same H H1) : BadRow CI n as ps H1 E := fun j t p h1 h2 h3 h4 => (k j t p h1 h2 h3 h4).back s
def In24 (c : Int) : Prop := 1 ≤ c ∧ c ≤ 24
def spInit (CN CI : Addr) : Sp := fun vs H Q E => ∃ (a dx : Addr) (c : Int) (l : Addr) (as : List Addr) (ps : List (Int × Int)), vs = [.ref a, .int c, .ref l] ∧ H a = some (.ins CN dx []) ∧ H l = some (.lst (as.map V.ref)) ∧ PrT H as ps ∧ as.length < 1200 ∧
  (∀ n : Nat, c = n → 1 ≤ n → n ≤ 24 → (∀ p ∈ ps, Good n p) → ∀ H', Kp a H H' → NetAt CN H' a n (relP ps false) → Q .non H') ∧ (¬ (1 ≤ c ∧ c ≤ 24) → RaisesI CI .non H E) ∧ (∀ n : Nat, c = n → 1 ≤ n → n ≤ 24 → BadRow CI n as ps H E)
/-- a net is made of a count and a list -/
def spMk (CN CI : Addr) : Sp := fun vs H Q E => ∃ (c : Int) (l : Addr) (as : List Addr) (ps : List (Int × Int)), vs = [.int c, .ref l] ∧ H l = some (.lst (as.map V.ref)) ∧ PrT H as ps ∧ as.length < 1200 ∧
  (∀ n : Nat, c = n → 1 ≤ n → n ≤ 24 → (∀ p ∈ ps, Good n p) → ∀ a H', H a = none → Same H H' → NetAt CN H' a n (relP ps false) → Q (.ref a) H') ∧ (¬ (1 ≤ c ∧ c ≤ 24) → RaisesI CI .non H E) ∧ (∀ n : Nat, c = n → 1 ≤ n → n ≤ 24 → BadRow CI n as ps H E)
theorem mk_init {CN CI : Addr} {vs : List V} {H : Hp} {Q : VK} {E : XK} (h : spMk CN CI vs H Q E) : ∀ x dx, H x = none → H dx = none → dx ≠ x → spInit CN CI (.ref x :: (vs ++ [])) (upd (upd H dx (.own x)) x (.ins CN dx [])) (fun v H2 => v = .non ∧ Q (.ref x) H2) E := by
  obtain ⟨c, l, as, ps, rfl, hl, pa, few, kG, kB, kC⟩ := h
  intro x dx nx ndx ne
  have s1 : Same H (upd H dx (.own x)) := Same.new (Same.refl H) ndx
  have n1 : upd H dx (.own x) x = none := by rw [upd_ne (Ne.symm ne)]; exact nx
  have s2 : Same H (upd (upd H dx (.own x)) x (.ins CN dx [])) := Same.new s1 n1
  refine ⟨x, dx, c, l, as, ps, rfl, upd_same, s2 _ _ hl, pa.mono (Same.tk s2), few, fun n e b1 b2 g H' k na => ⟨rfl, kG n e b1 b2 g x H' nx (fun b o hb => k b o (ne_of_none hb nx) (s2 _ _ hb)) na⟩, fun z => (kB z).back s2, fun n e b1 b2 => (kC n e b1 b2).back s2⟩
theorem mem_rowT {R : Rel} {x : Nat} : ∀ {j : Nat} {p : Int × Int}, p ∈ rowT R x j → ∃ y : Nat, y < j ∧ p = ((x : Int), (y : Int)) := by
  intro j p h
  unfold rowT at h
  obtain ⟨y, hy, e⟩ := List.mem_map.mp h
  exact ⟨y, List.mem_range.mp (List.mem_filter.mp hy).1, e.symm⟩
theorem nd_snoc {α : Type} {l : List α} {a : α} (h : l.Nodup) (n : a ∉ l) : (l ++ [a]).Nodup := by
  refine List.nodup_append.mpr ⟨h, List.nodup_cons.mpr ⟨List.not_mem_nil, List.nodup_nil⟩, fun x hx y hy e => ?_⟩
  rw [List.mem_singleton] at hy
  rw [e, hy] at hx
  exact n hx
theorem rowT_nd (R : Rel) (x : Nat) : ∀ j, (rowT R x j).Nodup
  | 0 => List.nodup_nil
  | j + 1 => by
    cases e : R x j with
    | false => rw [rowT_no e]; exact rowT_nd R x j
    | true =>
      rw [rowT_yes e]
      refine nd_snoc (rowT_nd R x j) fun h => ?_
      obtain ⟨y, hy, e2⟩ := mem_rowT h
      have e3 : (j : Int) = (y : Int) := congrArg Prod.snd e2
      omega
theorem mem_tiesTo {n : Nat} {R : Rel} {i : Nat} {p : Int × Int} (h : p ∈ tiesTo n R i) : ∃ x : Nat, x < i ∧ p.1 = (x : Int) := by
  unfold tiesTo at h
  obtain ⟨x, hx, h2⟩ := List.mem_flatMap.mp h
  obtain ⟨y, _, e⟩ := mem_rowT h2
  exact ⟨x, List.mem_range.mp hx, by rw [e]⟩
theorem tiesTo_nd (n : Nat) (R : Rel) : ∀ i, (tiesTo n R i).Nodup
  | 0 => List.nodup_nil
  | i + 1 => by
    rw [tiesTo_succ]
    refine List.nodup_append.mpr ⟨tiesTo_nd n R i, rowT_nd R i n, fun a ha b hb e => ?_⟩
    obtain ⟨x, hx, e1⟩ := mem_tiesTo ha
    obtain ⟨y, _, e2⟩ := mem_rowT hb
    have e3 : b.1 = (i : Int) := by rw [e2]
    rw [← e, e1] at e3
    omega
theorem nd_take {α : Type} {l : List α} {i : Nat} {a : α} (h : l.Nodup) (e : l[i]? = some a) : a ∉ l.take i := by
  intro m
  rw [← List.take_append_drop i l] at h
  refine (List.nodup_append.mp h).2.2 a m a ?_ rfl
  refine List.mem_of_getElem? (i := 0) ?_
  rw [List.getElem?_drop]
  exact e
abbrev kvP (p : Int × Int) : List Key × V := ([.inl p.1, .inl p.2], V.bl true)
theorem put_tie {n : Nat} {R : Rel} {i : Nat} {x y : Int} (e : (ties n R)[i]? = some (x, y)) : putK (((ties n R).take i).map kvP) [.inl x, .inl y] (V.bl true) = ((ties n R).take (i + 1)).map kvP := by
  have h : (valV (((ties n R).take i).map kvP) [.inl x, .inl y]).isSome = false := by
    rw [find_key]
    exact decide_eq_false (nd_take (tiesTo_nd n R n) e)
  rw [putK_new _ (Option.not_isSome_iff_eq_none.mp (by rw [h]; exact Bool.false_ne_true)), take_more' e, List.map_append]
  rfl
theorem dc_list {K : PySem.W.Frag} {a : Addr} {xs : List V} {g : TG} {tk tv : TE} {vs : List Nat} {σ : L2.St} {H1 : Hp} {D : Addr} {Qd : Hp → Prop} (Pv : Nat → Hp → Prop) (h0 : Pv 0 (upd H1 D (.dT []))) (hl : ∀ i H, i ≤ xs.length → Pv i H → SqL K H a xs)
    (hs : ∀ i x H, xs[i]? = some x → Pv i H → g x (wipe σ vs) H fun σ2 H2 => wipe σ2 vs = wipe σ vs ∧ tk σ2 H2 fun y H4 => tv σ2 H4 fun z H5 =>
      ∃ (kvs : List (List Key × V)) (k : List Key) (t : Addr), y = .ref t ∧ H5 t = some (.tup (k.map kV)) ∧ H5 D = some (.dT kvs) ∧ kvs.length < sizeLine ∧ Pv (i + 1) (upd H5 D (.dT (putK kvs k z)))) (hd : ∀ H, Pv xs.length H → Qd H) :
    ∃ W : Nat → Nat → Hp → Prop, (∃ m, W 0 m (upd H1 D (.dT []))) ∧ ∀ i m H, W i m H →
      ((Itl K a).stop i H ∧ Qd H) ∨ ((Itl K a).go i H ∧ ∃ Nx : Hp → Prop, (∀ H', Nx H' → ∃ m', m' < m ∧ W (i + 1) m' H') ∧ ∀ x H', (Itl K a).yld i H x H' → g x (wipe σ vs) H' fun σ2 H2 => wipe σ2 vs = wipe σ vs ∧ tk σ2 H2 fun y H4 => tv σ2 H4 fun z H5 =>
        ∃ (kvs : List (List Key × V)) (k : List Key) (t : Addr), y = .ref t ∧ H5 t = some (.tup (k.map kV)) ∧ H5 D = some (.dT kvs) ∧ kvs.length < sizeLine ∧ Nx (upd H5 D (.dT (putK kvs k z)))) := by
  refine ⟨fun i m H => (m = xs.length - i ∧ i ≤ xs.length) ∧ Pv i H, ⟨xs.length, ⟨by omega, Nat.zero_le _⟩, h0⟩, ?_⟩
  intro i m H w
  obtain ⟨⟨e, hi⟩, p⟩ := w
  rcases Nat.lt_or_ge i xs.length with hlt | hge
  · right
    have sq := hl i H hi p
    refine ⟨⟨xs, xs[i], sq, List.getElem?_eq_getElem hlt⟩, Pv (i + 1), fun H' p' => ⟨xs.length - (i + 1), by omega, ⟨rfl, hlt⟩, p'⟩, fun x H' y => ?_⟩
    obtain ⟨rfl, y⟩ := y
    exact hs i x _ (y xs sq) p
  · left
    obtain rfl : i = xs.length := by omega
    exact ⟨⟨xs, hl _ H hi p, Nat.le_refl _⟩, hd H p⟩
abbrev sNetInit : Stmt := inClass (top 8) 1
theorem scNetInit : FnScope ["self", "count", "links", "link"] ["self", "count", "links"] (defScope sNetInit) := ⟨rfl, rfl, rfl, by decide +kernel, rfl, by decide +kernel, by decide +kernel⟩
theorem ok_NetInit {f : Addr} {fd : FuncData} (F : L2.Fun K "__init__" "Net.__init__" sNetInit f fd) (T : NTx K mg CN mc mu) (GCheckCount : CalX P w K mg base 3 "check_count" (spCheckCount CI)) (GCheckPair : CalX P w K mg base 3 "check_pair" (spCheckPair CI)) : FnOk P w K mg base (L2.CX P w) 5 f fd ["self", "count", "links"] (spInit CN CI) := by
  refine F.okX scNetInit (fun vs H Q E h => ?_) (fun cdv A outer s H vs Q E hr h => ?_)
  · obtain ⟨a, dx, c, l, as, ps, rfl, ha, hl, pa, few, kG, kB, kD⟩ := h
    rfl
  · obtain ⟨a, dx, c, l, as, ps, rfl, ha, hl, pa, few, kG, kB, kD⟩ := h
    refine ⟨_, (pss_cons (ps_expr (pe_cX GCheckCount hr (by decide) (by rfl) (passes_call (takes_of rfl rfl rfl rfl) fun _ _ _ _ h => h) (pa_cons (pv 1) pa_nil)))
      (pss_cons (ps_for (passes_of rfl) rfl (pi_list (pv 2)) (pg_name (i := 3) scNetInit.nd rfl (Or.inl rfl))
        (pss_one (ps_expr (pe_cX GCheckPair hr (by decide) (by rfl) (passes_call (takes_of rfl rfl rfl rfl) fun _ _ _ _ h => h) (pa_cons (pv 1) (pa_cons (pv 3) pa_nil))))))
      (pss_cons (ps_fld (pv 0) (pv 1) rfl)
      (pss_one (ps_fld (pv 0) (pe_dcT (own := [("link", 3)]) (g := gName 3) hr.units0 rfl scNetInit.nd (pi_list (pe_sortSet rfl hr.units (by rfl) T.sorted (by rfl) T.set (pv 2))) (blkOk_by (N := ["self", "count", "links", "link"]) (sc := defScope sNetInit) (by decide +kernel)) (fun _ _ _ _ _ => (pg_name (i := 3) scNetInit.nd rfl (Or.inl rfl))) (fun _ _ _ _ _ => (pv 3)) (fun _ _ _ _ _ => pe_bl)) rfl))))), ?_⟩
    -- check_count(count)
    refine ⟨_, rfl, _, rfl, fun gd1 H1 sm1 => ?_, fun z => RaisesI.back (kB z) (by fail "sm")⟩
    obtain ⟨n, rfl, b1, b2⟩ : ∃ n : Nat, c = n ∧ 1 ≤ n ∧ n ≤ 24 := ⟨c.toNat, by omega, by omega, by omega⟩
    -- for link in links:
    refine ⟨_, rfl, _, rfl, ⟨_, SqL.of (by fail "hp")⟩, for_list (K := K) (a := l) (xs := as.map V.ref) (fun i σ H' => Same H H' ∧ (∀ j q, j < i → ps[j]? = some q → Good n q) ∧ ∃ v, σ = [some (.ref a), some (.int (n : Int)), some (.ref l), v]) ⟨sm1, fun j q h => absurd h (by omega), none, rfl⟩ (fun i σ H' _ z => SqL.of (z.1 _ _ hl)) ?_ ?_⟩
    · rintro i y σ H' hi ⟨sm, hg, v, rfl⟩
      obtain ⟨a0, x0, y0, rfl, e1, e2, e3⟩ := pa.item hi
      have e4 := sm _ _ e3
      have kC : ¬ Good n (x0, y0) → RaisesI CI (.ref a0) H E := fun z => kD n rfl b1 b2 i a0 _ e1 e2 z hg
      -- check_pair(count, link)
      refine ⟨_, rfl, _, rfl, _, _, _, _, rfl, (by fail "hp"), fun gd2 H2 sm2 => ?_, fun z => RaisesI.back (kC z) (by fail "sm")⟩
      refine ⟨sm.trans sm2, fun j q hj hq => ?_, _, rfl⟩
      by_cases hji : j = i
      · subst hji
        rw [e2] at hq
        cases hq
        exact gd2
      · exact hg j q (by omega) hq
    · rintro σ H'0 ⟨sm, hg, v, rfl⟩
      have good : ∀ p ∈ ps, Good n p := fun p hp => by
        obtain ⟨j, hj⟩ := List.getElem?_of_mem hp
        refine hg j p ?_ hj
        rw [List.length_map, pa.1]
        exact (List.getElem?_eq_some_iff.mp hj).1
      have ha1 := sm _ _ ha
      have hl1 := sm _ _ hl
      have pa1 := pa.mono (Same.tk sm)
      -- self.count = count
      refine ⟨_, rfl, _, rfl, _, _, _, _, rfl, (by fail "hp"), T.cl, T.n_count, (by fail "fld"), ?_⟩
      have pa2 : PrT (upd H'0 a (.ins CN dx (putF "count" (.int (n : Int)) []))) as ps := pa1.mono (fun t xs h => by rw [upd_ne (ne_of h ha1 (by intro q; cases q))]; exact h)
      have hl2 : upd H'0 a (.ins CN dx (putF "count" (.int (n : Int)) [])) l = some (.lst (as.map V.ref)) := by rw [upd_ne (ne_of hl1 ha1 (by intro q; cases q))]; exact hl1
      -- self._links = {link: True for link in sorted(set(links))}
      refine ⟨_, rfl, _, _, _, _, rfl, (by fail "hp"), (by fail "pr"), few, (by fail "om"), (by assumption), fun p3 bs3 H3 sm3 np3 hp3 pb3 => ⟨_, rfl, ⟨_, SqL.of (by fail "hp")⟩, fun D1 nD1 => dc_list (K := K) (a := p3) (xs := bs3.map V.ref) (fun i H' => Same H3 H' ∧ H' D1 = some (.dT (((ties n (relP ps false)).take i).map kvP))) ⟨Same.new (Same.refl _) nD1, upd_same⟩ (fun i H' _ z => SqL.of (z.1 _ _ hp3)) (fun i x H' hx z => by
      obtain ⟨sm4, hD⟩ := z
      obtain ⟨t, x, y, rfl, e1, e2, e3⟩ := pb3.item hx
      have e4 := sm4 _ _ e3
      have lt := ties_len (relP ps false) b2
      refine ⟨rfl, _, rfl, _, [.inl x, .inl y], _, rfl, e4, hD, ?_, Same.mut sm4 nD1, ?_⟩
      · refine Evl.sz_lt ?_
        rw [List.length_map, List.length_take]
        omega
      · rw [upd_same, put_tie e2]) fun H' z => by
      obtain ⟨sm4, hD⟩ := z
      have hD2 : H' D1 = some (.dT (linkKV n (relP ps false))) := by
        rw [hD, List.length_map, pb3.1, List.take_length]
        rfl
      have ha3 : H' a = some (.ins CN dx (putF "count" (.int (n : Int)) [])) := sm4 _ _ (sm3 _ _ upd_same)
      have ne : D1 ≠ a := ne_of hD2 ha3 (by intro q; cases q)
      refine ⟨_, rfl, _, _, _, _, rfl, ha3, T.cl, T.n__links, (by fail "fld"), ?_⟩
      refine kG n rfl b1 b2 good _ ?_ ⟨⟨dx, D1, upd_same, by rw [upd_ne ne]; exact hD2⟩, b1, b2, fun x y hx hy r => ?_⟩
      · refine Kp.at fun q o hq h => sm4 _ _ (sm3 _ _ ?_)
        rw [upd_ne hq]
        exact sm _ _ h
      · obtain h | h := relP_iff.mp r
        · have g := (good _ h).2.2.2.2
          intro e
          exact g (by rw [e])
        · exact absurd h.1 Bool.false_ne_true⟩⟩
      skip
end
end K01

end
section
set_option Elab.async false
set_option linter.all false
set_option maxRecDepth 100000
set_option maxHeartbeats 800000
namespace K01
open PySem L2 Kit KR KX
local macro_rules | `(tactic| fail "om") => `(tactic| first | omega | (simp only [List.length_map, List.length_append, List.length_cons, List.length_nil]; omega) | (simp only [List.length_map, List.length_append, List.length_cons, List.length_nil] at *; omega) | assumption | decide | fail "no om")
local macro_rules | `(tactic| fail "nz") => `(tactic| first | decide | omega | fail "no nz")
local macro_rules | `(tactic| fail "dv") => `(tactic| exact ⟨by first | decide | omega, by first | decide | omega⟩)
local macro_rules | `(tactic| fail "mul") => `(tactic| first | exact .inr ⟨by decide, by decide⟩ | exact .inl ⟨by decide, by decide⟩ | exact mulF (by decide) (by decide) | exact .inl ⟨by omega, by omega⟩ | exact .inr ⟨by omega, by omega⟩ | fail "no mul")
local macro_rules | `(tactic| fail "sz") => `(tactic| first | assumption | exact Nat.zero_le _ | (show 1 ≤ sizeLine; decide) | (show 2 ≤ sizeLine; decide) | (show 3 ≤ sizeLine; decide) | (show 4 ≤ sizeLine; decide) | (show 5 ≤ sizeLine; decide) | exact Evl.sz_of (by omega) | (refine Evl.sz_of ?_; simp only [List.length_append, List.length_map, List.length_cons, List.length_nil]; omega) | fail "no sz")
local macro_rules | `(tactic| fail "szl") => `(tactic| first | exact Evl.sz_lt (by omega) | (refine Evl.sz_lt ?_; simp only [List.length_append, List.length_map, List.length_cons, List.length_nil]; omega) | fail "no szl")
local macro_rules | `(tactic| fail "ix") => `(tactic| first | assumption | exact ix0 | exact ix1 | exact ix2 | exact at_ref (by assumption) (by omega) | exact at_int (by assumption) (by omega) | exact at_drawn (by assumption) (by assumption) | rfl | fail "no ix")
local macro_rules | `(tactic| fail "ixn") => `(tactic| first | rfl | assumption | fail "no ixn")
local macro_rules | `(tactic| fail "nb") => `(tactic| first | assumption | exact nb_tup | exact nb_nil | exact nb_ints | exact nb_refs | exact nb_ins | exact nb_dT | exact nb_frz | fail "no nb")
local macro_rules | `(tactic| fail "ne") => `(tactic| first | assumption | exact Ne.symm (by assumption) | exact ne_of_none (by assumption) (by assumption) | exact (ne_of_none (by assumption) (by assumption)).symm | exact ne_of (by assumption) (by assumption) (by intro q; cases q) | exact ne_of (by assumption) (by assumption) (by simp) | fail "no ne")
local macro_rules | `(tactic| fail "hp") => `(tactic| first | assumption | exact upd_same | (refine' Tk.get (by assumption) ?k1; (case k1 => fail "tk")) | (with_reducible refine' upd_new ?h1 ?n1; (case n1 => assumption); (case h1 => fail "hp")) | (refine' Same.get (by assumption) ?h1; (case h1 => fail "hp")) | (refine' Kp.get (by assumption) (by fail "bx") ?h1 ?d1; (case h1 => fail "hp"); (case d1 => fail "nb")) | (with_reducible refine' upd_oth ?h1 ?n1; (case n1 => fail "ne"); (case h1 => fail "hp")) | (with_reducible refine' upd_oth ?h1 ?n1; (case h1 => fail "hp"); (case n1 => fail "ne")) | fail "no hp")
local macro_rules | `(tactic| fail "bx") => `(tactic| first | assumption | (with_reducible refine' BoxOk.new ?h1 ?n1; (case n1 => assumption); (case h1 => fail "bx")) | (refine' BoxOk.same (by assumption) ?h1; (case h1 => fail "bx")) | (with_reducible refine' BoxOk.mut ?h1 ?h2 ?n1; (case n1 => assumption); (case h2 => assumption); (case h1 => fail "bx")) | fail "no bx")
local macro_rules | `(tactic| fail "kp") => `(tactic| first | assumption | exact Kp.refl | (with_reducible refine' Kp.at ?h1; (case h1 => fail "kp")) | (with_reducible refine' Kp.new ?h1 ?n1; (case n1 => assumption); (case h1 => fail "kp")) | (with_reducible refine' Kp.mut ?h1 ?n1; (case n1 => assumption); (case h1 => fail "kp")) | (refine' Kp.tr (by assumption) ?h1; (case h1 => fail "kp")) | (refine' Kp.tr (Kp.of (by assumption)) ?h1; (case h1 => fail "kp")) | fail "no kp")
local macro_rules | `(tactic| fail "ite") => `(tactic| first | refine iteT ?_ | refine iteF ?_)
local macro_rules | `(tactic| fail "tt") => `(tactic| first | rfl | exact decide_eq_true (by first | rfl | omega | assumption) | exact decide_eq_true (congrArg V.int (by first | rfl | omega)) | fail "no tt")
local macro_rules | `(tactic| fail "cv") => `(tactic| first | exact .ty _ | exact .own _)
local macro_rules | `(tactic| fail "tx") => `(tactic| first | exact .base (.int _) | exact .base (.bl _) | exact .base .non | exact .base (.lst (by fail "hp")) | exact .base (.tup (by fail "hp")) | fail "no tx")
local macro_rules | `(tactic| fail "dead") => `(tactic| (exfalso; first | omega | contradiction | simp_all))
local macro_rules | `(tactic| fail "dp") => `(tactic| first | exact .tup (SqT.of (by fail "hp")) (.cons (.int _) (.cons (.int _) .nil)) | exact .lst (SqL.of (by fail "hp")) (dpPrs (by fail "pr")) | exact .lst (SqL.of (by fail "hp")) (dpInts _) | exact .lst (SqL.of (by fail "hp")) .nil | fail "no dp")
local macro_rules | `(tactic| fail "shp") => `(tactic| first | assumption | exact prD_shaped _ | exact PySem.W.ke_shaped_ints _ | rfl | fail "no shp")
local macro_rules | `(tactic| fail "pr") => `(tactic| first | assumption | exact PrT.mono (by assumption) (by fail "tk") | fail "no pr")
local macro_rules | `(tactic| fail "tk") => `(tactic| first | assumption | exact Tk.refl | (with_reducible refine' Tk.new ?h1 ?n1; (case n1 => assumption); (case h1 => fail "tk")) | (refine' Tk.tr (Kp.tk (by assumption) (by fail "bx")) ?h1; (case h1 => fail "tk")) | (refine' Tk.tr (Same.tk (by assumption)) ?h1; (case h1 => fail "tk")) | (with_reducible refine' Tk.lst ?h1 ?n1; (case n1 => fail "hp"); (case h1 => fail "tk")) | fail "no tk")
local macro_rules | `(tactic| fail "lk") => `(tactic| first | exact netF_count _ _ | exact netF_links _ _ | exact netF_no _ _ (by decide +kernel) (by decide +kernel) | fail "no lk")
local macro_rules | `(tactic| fail "kt") => `(tactic| first | exact upd_same | assumption | fail "hp")
local macro_rules | `(tactic| fail "na") => `(tactic| first | assumption | (with_reducible refine' NetAt.new ?h1 ?n1; (case n1 => assumption); (case h1 => fail "na")) | (refine' NetAt.same (by assumption) ?h1; (case h1 => fail "na")) | (refine' NetAt.kp (by assumption) (by fail "bx") ?h1; (case h1 => fail "na")) | (with_reducible refine' NetAt.lst ?h1 ?n1; (case n1 => fail "hp"); (case h1 => fail "na")) | fail "no na")
local macro_rules | `(tactic| fail "mono") => `(tactic| first | exact fun _ _ _ _ h q => h _ _ q | exact fun _ _ _ _ h q => (let ⟨v, e, z⟩ := q; ⟨v, e, h _ _ z⟩) | exact fun _ _ _ _ h q => (let ⟨v, e, u, f, z⟩ := q; ⟨v, e, u, f, h _ _ z⟩) | fail "no mono")
local macro_rules | `(tactic| fail "sm") => `(tactic| first | assumption | exact Same.refl _ | (with_reducible refine' Same.new ?h1 ?n1; (case n1 => assumption); (case h1 => fail "sm")) | (refine' Same.tr (by assumption) ?h1; (case h1 => fail "sm")) | fail "no sm")
local macro_rules | `(tactic| fail "fld") => `(tactic| first | (show 0 < 1000; decide) | (show 1 < 1000; decide) | fail "no fld")

section
variable {P : Program} {w : World} {K : PySem.W.Frag} {mg : Str → Option Value} {base : Heap} {CN CI CU CL CS : Addr} {mc mu : Value}

def RaisesP (CI : Addr) (p : Int × Int) (H : Hp) (E : XK) : Prop := ∀ (d t : Addr) (H' : Hp), H d = none → Same H H' → H' t = some (.tup [.int p.1, .int p.2]) → H' d = some (.xd [("link", .ref t)]) → E (.ref CI) (some d) H'
theorem RaisesP.back {CI : Addr} {p : Int × Int} {H H1 : Hp} {E : XK} (k : RaisesP CI p H E) (s : Same H H1) : RaisesP CI p H1 E := fun d t H' nd sm h xd => k d t H' (free_back nd s) (s.trans sm) h xd
theorem RaisesP.at {CI t : Addr} {x y : Int} {H H1 : Hp} {E : XK} (k : RaisesP CI (x, y) H E) (s : Same H H1) (h : H1 t = some (.tup [.int x, .int y])) : RaisesI CI (.ref t) H1 E := fun d H' nd sm xd => k d t H' (free_back nd s) (s.trans sm) (sm _ _ h) xd
/-- the first of these that is not good is refused -/
def BadP (CI : Addr) (n : Nat) (ps : List (Int × Int)) (H : Hp) (E : XK) : Prop := ∀ (j : Nat) (p : Int × Int), ps[j]? = some p → ¬ Good n p → (∀ i q, i < j → ps[i]? = some q → Good n q) → RaisesP CI p H E
theorem BadP.row {CI : Addr} {n : Nat} {as : List Addr} {ps : List (Int × Int)} {H H1 : Hp} {E : XK} (k : BadP CI n ps H E) (s : Same H H1) (pa : PrT H1 as ps) : BadRow CI n as ps H1 E := fun j t p h1 h2 h3 h4 => RaisesP.at (x := p.1) (y := p.2) (k j p h2 h3 h4) s (pa.2 j t p h1 h2)
theorem BadRow.none {CI : Addr} {n : Nat} {as : List Addr} {ps : List (Int × Int)} {H : Hp} {E : XK} (g : ∀ p ∈ ps, Good n p) : BadRow CI n as ps H E := fun _ _ p _ h2 h3 _ => absurd (g p (List.mem_of_getElem? h2)) h3
theorem BadP.none {CI : Addr} {n : Nat} {ps : List (Int × Int)} {H : Hp} {E : XK} (g : ∀ p ∈ ps, Good n p) : BadP CI n ps H E := fun _ p h2 h3 _ => absurd (g p (List.mem_of_getElem? h2)) h3
theorem NetAt.congr {C : Addr} {H : Hp} {a : Addr} {n : Nat} {R R' : Rel} (h : NetAt C H a n R) (e : ∀ x y, x < n → y < n → R x y = R' x y) : NetAt C H a n R' := by
  obtain ⟨⟨dx, d, h1, h2⟩, b1, b2, ir⟩ := h
  refine ⟨⟨dx, d, h1, ?_⟩, b1, b2, fun x y hx hy r => ir x y hx hy (by rw [e x y hx hy]; exact r)⟩
  rw [h2]
  unfold linkKV
  rw [ties_congr e]
/-- both ways -/
def dbl (ps : List (Int × Int)) : List (Int × Int) := ps.flatMap fun p => [(p.1, p.2), (p.2, p.1)]
theorem dbl_snoc (ps : List (Int × Int)) (x y : Int) : dbl (ps ++ [(x, y)]) = dbl ps ++ [(x, y)] ++ [(y, x)] := by
  unfold dbl
  rw [List.flatMap_append, List.append_assoc]
  rfl
theorem dbl_len (ps : List (Int × Int)) : (dbl ps).length = 2 * ps.length := by
  induction ps with
  | nil => rfl
  | cons p t ih =>
    show (dbl t).length + 1 + 1 = 2 * (t.length + 1)
    omega
theorem dbl_at : ∀ (ps : List (Int × Int)) (i : Nat), (dbl ps)[2 * i]? = ps[i]? ∧ (dbl ps)[2 * i + 1]? = (ps[i]?).map fun p => (p.2, p.1)
  | [], i => ⟨by simp [dbl], by simp [dbl]⟩
  | p :: t, 0 => ⟨rfl, rfl⟩
  | p :: t, i + 1 => by
    have h := dbl_at t i
    refine ⟨?_, ?_⟩
    · have e : 2 * (i + 1) = 2 * i + 1 + 1 := by omega
      rw [e]
      exact h.1
    · have e : 2 * (i + 1) + 1 = 2 * i + 1 + 1 + 1 := by omega
      rw [e]
      exact h.2
theorem good_swap {n : Nat} {x y : Int} (g : Good n (x, y)) : Good n (y, x) := ⟨g.2.2.1, g.2.2.2.1, g.1, g.2.1, fun e => g.2.2.2.2 e.symm⟩
theorem mem_dbl {ps : List (Int × Int)} {x y : Int} : (x, y) ∈ dbl ps ↔ (x, y) ∈ ps ∨ (y, x) ∈ ps := by
  unfold dbl
  rw [List.mem_flatMap]
  constructor
  · rintro ⟨⟨a, b⟩, h, m⟩
    rcases List.mem_cons.mp m with e | m
    · cases e
      exact .inl h
    · cases List.mem_singleton.mp m
      exact .inr h
  · rintro (h | h)
    · exact ⟨_, h, List.mem_cons_self⟩
    · exact ⟨_, h, List.mem_cons_of_mem _ List.mem_cons_self⟩
theorem dbl_good {n : Nat} {ps : List (Int × Int)} (g : ∀ p ∈ dbl ps, Good n p) : ∀ p ∈ ps, Good n p := fun p h => g p (mem_dbl.mpr (.inl h))
theorem good_dbl {n : Nat} {ps : List (Int × Int)} (g : ∀ p ∈ ps, Good n p) : ∀ p ∈ dbl ps, Good n p := fun p h => by
  obtain ⟨x, y⟩ := p
  rcases mem_dbl.mp h with h | h
  · exact g _ h
  · exact good_swap (g _ h)
theorem dbl_rel (ps : List (Int × Int)) : relP (dbl ps) false = relP ps true := by
  funext x y
  rw [Bool.eq_iff_iff, relP_iff, relP_iff, mem_dbl]
  simp
theorem dbl_bad {CI : Addr} {n : Nat} {bs : List Addr} {ps : List (Int × Int)} {H H1 : Hp} {E : XK} (k : BadP CI n ps H E) (s : Same H H1) (pa : PrT H1 bs (dbl ps)) : BadRow CI n bs (dbl ps) H1 E := by
  intro j t p h1 h2 h3 h4
  have ht := pa.2 j t p h1 h2
  obtain ⟨i, e | e⟩ : ∃ i, j = 2 * i ∨ j = 2 * i + 1 := ⟨j / 2, by omega⟩
  · subst e
    rw [(dbl_at ps i).1] at h2
    exact RaisesP.at (x := p.1) (y := p.2) (k i p h2 h3 fun i' q hi hq => h4 (2 * i') q (by omega) (by rw [(dbl_at ps i').1]; exact hq)) s ht
  · subst e
    rw [(dbl_at ps i).2] at h2
    cases q : ps[i]? with
    | none => rw [q] at h2; cases h2
    | some z =>
      rw [q] at h2
      cases h2
      exact absurd (good_swap (h4 (2 * i) z (by omega) (by rw [(dbl_at ps i).1]; exact q))) h3
def spBoth (CN CI : Addr) : Sp := fun vs H Q E => ∃ (c : Int) (l : Addr) (as : List Addr) (ps : List (Int × Int)), vs = [.ref CN, .int c, .ref l] ∧ H l = some (.lst (as.map V.ref)) ∧ PrT H as ps ∧ as.length ≤ 500 ∧
  (∀ n : Nat, c = n → 1 ≤ n → n ≤ 24 → (∀ p ∈ ps, Good n p) → ∀ a H', H a = none → Same H H' → NetAt CN H' a n (relP ps true) → Q (.ref a) H') ∧ (¬ (1 ≤ c ∧ c ≤ 24) → RaisesI CI .non H E) ∧ (∀ n : Nat, c = n → 1 ≤ n → n ≤ 24 → BadP CI n ps H E)
theorem ne_of_none' {H : Hp} {p q : Addr} {o : HO} (n : H p = none) (h : H q = some o) : p ≠ q := fun z => by
  rw [z, h] at n
  cases n
/-- a net of one count, always the same -/
def spNamed (CN CI : Addr) (S : Nat → Rel) : Sp := fun vs H Q E => ∃ (c : Int), vs = [.ref CN, .int c] ∧ (∀ n : Nat, c = n → 1 ≤ n → n ≤ 24 → ∀ a H', H a = none → Same H H' → NetAt CN H' a n (S n) → Q (.ref a) H') ∧ (¬ (1 ≤ c ∧ c ≤ 24) → RaisesI CI .non H E)
def lineR (_ : Nat) : Rel := fun x y => decide (y = x + 1 ∨ x = y + 1)
def starR (_ : Nat) : Rel := fun x y => decide (x ≠ y ∧ (x = 0 ∨ y = 0))
def wholeR (_ : Nat) : Rel := fun x y => decide (x ≠ y)
def ringR (n : Nat) : Rel := fun x y => decide (x ≠ y ∧ y = (x + 1) % n)
theorem rel_map {n : Nat} {R : Rel} {both : Bool} {k : Nat} {f : Nat → Int × Int} (h : ∀ x y, x < n → y < n → (R x y = true ↔ ((∃ i, i < k ∧ f i = ((x : Int), (y : Int))) ∨ (both = true ∧ ∃ i, i < k ∧ f i = ((y : Int), (x : Int)))))) : ∀ x y, x < n → y < n → relP ((List.range k).map f) both x y = R x y := by
  intro x y hx hy
  rw [Bool.eq_iff_iff, relP_iff, h x y hx hy]
  simp only [List.mem_map, List.mem_range]
theorem good_map {n k : Nat} {f : Nat → Int × Int} (h : ∀ i, i < k → Good n (f i)) : ∀ p ∈ (List.range k).map f, Good n p := by
  intro p hp
  obtain ⟨i, hi, rfl⟩ := List.mem_map.mp hp
  exact h i (List.mem_range.mp hi)
theorem ring_step {n i : Nat} (h2 : 2 ≤ n) (hi : i < n) : (i + 1) % n < n ∧ (i + 1) % n ≠ i := by
  refine ⟨Nat.mod_lt _ (by omega), ?_⟩
  by_cases h : i + 1 < n
  · rw [Nat.mod_eq_of_lt h]
    omega
  · have e : i + 1 = n := by omega
    rw [e, Nat.mod_self]
    omega
theorem ring_int (n i : Nat) : ((0 : Int) + (i : Int) + 1).fmod (n : Int) = (((i + 1) % n : Nat) : Int) := by
  rw [Int.fmod_eq_emod_of_nonneg _ (by omega), show (0 : Int) + (i : Int) + 1 = ((i + 1 : Nat) : Int) by omega]
  rfl
theorem relP_nil (both : Bool) (x y : Nat) : relP [] both x y = false := rfl
abbrev sNetRing : Stmt := inClass (top 8) 6
theorem scNetRing : FnScope ["cls", "count", "x"] ["cls", "count"] (defScope sNetRing) := ⟨rfl, rfl, rfl, by decide +kernel, rfl, by decide +kernel, by decide +kernel⟩
theorem ok_NetRing {f : Addr} {fd : FuncData} (F : L2.Fun K "ring" "Net.ring" sNetRing f fd) (T : NTx K mg CN mc mu) (GCheckCount : CalX P w K mg base 3 "check_count" (spCheckCount CI)) (KNet : MakX P w K mg base 5 "Net" CN (spInit CN CI)) : FnOk P w K mg base (L2.CX P w) 7 f fd ["cls", "count"] (spNamed CN CI ringR) := by
  refine F.okX scNetRing (fun vs H Q E h => ?_) (fun cdv A outer s H vs Q E hr h => ?_)
  · obtain ⟨c, rfl, kG, kB⟩ := h
    rfl
  · obtain ⟨c, rfl, kG, kB⟩ := h
    refine ⟨_, (pss_cons (ps_expr (pe_cX GCheckCount hr (by decide) (by rfl) (passes_call (takes_of rfl rfl rfl rfl) fun _ _ _ _ h => h) (pa_cons (pv 1) pa_nil)))
      (pss_cons (ps_if (pt_cmpR op_eq (pv 1) pe_int (nomark _))
        (pss_one (ps_ret (pe_mkL (i := 0) KNet hr (by decide) (passes_call (takes_of rfl rfl rfl rfl) fun _ _ _ _ h => h) rfl (Or.inl rfl) (pa_cons (pv 1) (pa_cons (pe_lst pa_nil) pa_nil)))))
        pss_nil)
      (pss_one (ps_ret (pe_mkL (i := 0) KNet hr (by decide) (passes_call (takes_of rfl rfl rfl rfl) fun _ _ _ _ h => h) rfl (Or.inl rfl) (pa_cons (pv 1) (pa_cons (pe_lc (own := [("x", 2)]) (g := gName 2) (tt := tYes) rfl scNetRing.nd (pi_range1 rfl T.range (pa_cons (pv 1) pa_nil)) (blkOk_by (N := ["cls", "count", "x"]) (sc := defScope sNetRing) (by decide +kernel)) (fun _ _ _ _ _ => (pg_name (i := 2) scNetRing.nd rfl (Or.inl rfl))) (fun _ _ _ _ _ => pts_nil) (fun _ _ _ _ _ => (pe_tup (pa_cons (pv 2) (pa_cons (pe_op op_modN (pe_op op_add (pv 2) pe_int) (pv 1)) pa_nil))))) pa_nil))))))), ?_⟩
    -- check_count(count)
    refine ⟨_, rfl, _, rfl, fun gd1 H1 sm1 => ?_, fun z => RaisesI.back (kB z) (by fail "sm")⟩
    obtain ⟨n, rfl, b1, b2⟩ : ∃ n : Nat, c = n ∧ 1 ≤ n ∧ n ≤ 24 := ⟨c.toNat, by omega, by omega, by omega⟩
    -- if count == 1:
    refine ⟨_, rfl, rfl, _, rfl, ?_⟩
    refine ifEqI (fun g2 => ?_) (fun g2 => ?_)
    · -- return cls(count, [])
      refine ⟨rfl, _, rfl, (by fail "sz"), fun p4 np4 => mk_init ⟨_, _, [], [], rfl, upd_same, PrT.nil, (by decide), fun n3 e3 c3 d3 g3 a3 H3 na3 sm3 nt3 => ?_, fun z => absurd gd1 z, fun _ _ _ _ => BadRow.none (fun p hp => absurd hp List.not_mem_nil)⟩⟩
      obtain rfl : n = n3 := by omega
      refine kG n rfl b1 b2 a3 H3 (free_back na3 (Same.new sm1 np4)) (Same.trans (Same.new sm1 np4) sm3) (NetAt.congr nt3 fun x y hx hy => ?_)
      rw [relP_nil]
      unfold ringR
      exact (decide_eq_false (by omega)).symm
    · -- return cls(count, [(x, (x + 1) % count) for x in range(count)])
      refine ⟨rfl, _, rfl, _, rfl, _, rfl, (by fail "om"), (by fail "om"), fun D1 nD1 => lc_range (lo := 0) (n := ((n : Int)).toNat) (fun i H' => ∃ as : List Addr, Same H1 H' ∧ H' D1 = some (.lst (as.map V.ref)) ∧ PrT H' as ((List.range i).map (fun (i : Nat) => (((0 : Int) + (i : Int), ((0 : Int) + (i : Int) + 1).fmod (n : Int)) : Int × Int)))) ⟨[], Same.new (Same.refl _) nD1, upd_same, PrT.nil⟩ (fun i H' hi z => by
      obtain ⟨as, sm, hD, pa⟩ := z
      have lb : as.length = i := by rw [pa.1, List.length_map, List.length_range]
      have hn : i < n := by omega
      refine ⟨rfl, ?_⟩
      unfold tYes
      refine iteT ?_
      refine ⟨_, rfl, _, rfl, _, _, rfl, rfl, _, rfl, _, _, rfl, rfl, (by fail "nz"), (by fail "sz"), fun p np => ⟨_, (by fail "hp"), (by fail "szl"), as ++ [p], Same.mut (by fail "sm") nD1, ?_, ?_⟩⟩
      · rw [upd_same, List.map_append]
        rfl
      · rw [List.range_succ, List.map_append]
        refine PrT.snoc (PrT.mono pa (by fail "tk")) ?_
        have q : p ≠ D1 := ne_of_none' np hD
        rw [upd_ne q, upd_same]) fun H' z => by
      obtain ⟨as, sm, hD, pa⟩ := z
      rw [show ((n : Int)).toNat = n by omega] at pa
      have la : as.length ≤ 24 := by rw [pa.1, List.length_map, List.length_range]; omega
      refine mk_init ⟨_, _, _, _, rfl, (by fail "hp"), (by fail "pr"), (by omega), fun n5 e5 c5 d5 g5 a5 H5 na5 sm5 nt5 => ?_, fun z => absurd gd1 z, fun m e _ _ => BadRow.none (good_map fun i hi => by obtain rfl : n = m := (by omega); obtain ⟨q1, q2⟩ := ring_step (by omega) hi; refine ⟨by dsimp only; omega, by dsimp only; omega, by dsimp only; rw [ring_int]; omega, by dsimp only; rw [ring_int]; omega, by dsimp only; rw [ring_int]; omega⟩)⟩
      obtain rfl : n = n5 := by omega
      refine kG n rfl b1 b2 a5 H5 (free_back na5 (sm1.trans sm)) ((sm1.trans sm).trans sm5) (NetAt.congr nt5 (rel_map fun x y hx hy => ?_))
      have h2 : 2 ≤ n := by omega
      unfold ringR
      rw [decide_eq_true_eq]
      constructor
      · rintro ⟨e, h⟩
        exact .inl ⟨x, hx, Prod.ext (by show (0 : Int) + (x : Int) = x; omega) (by show ((0 : Int) + (x : Int) + 1).fmod (n : Int) = y; rw [ring_int, h])⟩
      · rintro (⟨i, hi, e⟩ | ⟨h, _⟩)
        · have e1 : (0 : Int) + (i : Int) = x := congrArg Prod.fst e
          have e2 : ((0 : Int) + (i : Int) + 1).fmod (n : Int) = y := congrArg Prod.snd e
          rw [ring_int] at e2
          obtain rfl : i = x := by omega
          obtain ⟨q1, q2⟩ := ring_step h2 hi
          exact ⟨by omega, by omega⟩
        · exact absurd h Bool.false_ne_true⟩
      skip
end
end K01

end
section
set_option Elab.async false
set_option linter.all false
set_option maxRecDepth 100000
set_option maxHeartbeats 800000
namespace K01
open PySem L2 Kit KR KX
local macro_rules | `(tactic| fail "om") => `(tactic| first | omega | (simp only [List.length_map, List.length_append, List.length_cons, List.length_nil]; omega) | (simp only [List.length_map, List.length_append, List.length_cons, List.length_nil] at *; omega) | assumption | decide | fail "no om")
local macro_rules | `(tactic| fail "nz") => `(tactic| first | decide | omega | fail "no nz")
local macro_rules | `(tactic| fail "dv") => `(tactic| exact ⟨by first | decide | omega, by first | decide | omega⟩)
local macro_rules | `(tactic| fail "mul") => `(tactic| first | exact .inr ⟨by decide, by decide⟩ | exact .inl ⟨by decide, by decide⟩ | exact mulF (by decide) (by decide) | exact .inl ⟨by omega, by omega⟩ | exact .inr ⟨by omega, by omega⟩ | fail "no mul")
local macro_rules | `(tactic| fail "sz") => `(tactic| first | assumption | exact Nat.zero_le _ | (show 1 ≤ sizeLine; decide) | (show 2 ≤ sizeLine; decide) | (show 3 ≤ sizeLine; decide) | (show 4 ≤ sizeLine; decide) | (show 5 ≤ sizeLine; decide) | exact Evl.sz_of (by omega) | (refine Evl.sz_of ?_; simp only [List.length_append, List.length_map, List.length_cons, List.length_nil]; omega) | fail "no sz")
local macro_rules | `(tactic| fail "szl") => `(tactic| first | exact Evl.sz_lt (by omega) | (refine Evl.sz_lt ?_; simp only [List.length_append, List.length_map, List.length_cons, List.length_nil]; omega) | fail "no szl")
local macro_rules | `(tactic| fail "ix") => `(tactic| first | assumption | exact ix0 | exact ix1 | exact ix2 | exact at_ref (by assumption) (by omega) | exact at_int (by assumption) (by omega) | exact at_drawn (by assumption) (by assumption) | rfl | fail "no ix")
local macro_rules | `(tactic| fail "ixn") => `(tactic| first | rfl | assumption | fail "no ixn")
local macro_rules | `(tactic| fail "nb") => `(tactic| first | assumption | exact nb_tup | exact nb_nil | exact nb_ints | exact nb_refs | exact nb_ins | exact nb_dT | exact nb_frz | fail "no nb")
local macro_rules | `(tactic| fail "ne") => `(tactic| first | assumption | exact Ne.symm (by assumption) | exact ne_of_none (by assumption) (by assumption) | exact (ne_of_none (by assumption) (by assumption)).symm | exact ne_of (by assumption) (by assumption) (by intro q; cases q) | exact ne_of (by assumption) (by assumption) (by simp) | fail "no ne")
local macro_rules | `(tactic| fail "hp") => `(tactic| first | assumption | exact upd_same | (refine' Tk.get (by assumption) ?k1; (case k1 => fail "tk")) | (with_reducible refine' upd_new ?h1 ?n1; (case n1 => assumption); (case h1 => fail "hp")) | (refine' Same.get (by assumption) ?h1; (case h1 => fail "hp")) | (refine' Kp.get (by assumption) (by fail "bx") ?h1 ?d1; (case h1 => fail "hp"); (case d1 => fail "nb")) | (with_reducible refine' upd_oth ?h1 ?n1; (case n1 => fail "ne"); (case h1 => fail "hp")) | (with_reducible refine' upd_oth ?h1 ?n1; (case h1 => fail "hp"); (case n1 => fail "ne")) | fail "no hp")
local macro_rules | `(tactic| fail "bx") => `(tactic| first | assumption | (with_reducible refine' BoxOk.new ?h1 ?n1; (case n1 => assumption); (case h1 => fail "bx")) | (refine' BoxOk.same (by assumption) ?h1; (case h1 => fail "bx")) | (with_reducible refine' BoxOk.mut ?h1 ?h2 ?n1; (case n1 => assumption); (case h2 => assumption); (case h1 => fail "bx")) | fail "no bx")
local macro_rules | `(tactic| fail "kp") => `(tactic| first | assumption | exact Kp.refl | (with_reducible refine' Kp.at ?h1; (case h1 => fail "kp")) | (with_reducible refine' Kp.new ?h1 ?n1; (case n1 => assumption); (case h1 => fail "kp")) | (with_reducible refine' Kp.mut ?h1 ?n1; (case n1 => assumption); (case h1 => fail "kp")) | (refine' Kp.tr (by assumption) ?h1; (case h1 => fail "kp")) | (refine' Kp.tr (Kp.of (by assumption)) ?h1; (case h1 => fail "kp")) | fail "no kp")
local macro_rules | `(tactic| fail "ite") => `(tactic| first | refine iteT ?_ | refine iteF ?_)
local macro_rules | `(tactic| fail "tt") => `(tactic| first | rfl | exact decide_eq_true (by first | rfl | omega | assumption) | exact decide_eq_true (congrArg V.int (by first | rfl | omega)) | fail "no tt")
local macro_rules | `(tactic| fail "cv") => `(tactic| first | exact .ty _ | exact .own _)
local macro_rules | `(tactic| fail "tx") => `(tactic| first | exact .base (.int _) | exact .base (.bl _) | exact .base .non | exact .base (.lst (by fail "hp")) | exact .base (.tup (by fail "hp")) | fail "no tx")
local macro_rules | `(tactic| fail "dead") => `(tactic| (exfalso; first | omega | contradiction | simp_all))
local macro_rules | `(tactic| fail "dp") => `(tactic| first | exact .tup (SqT.of (by fail "hp")) (.cons (.int _) (.cons (.int _) .nil)) | exact .lst (SqL.of (by fail "hp")) (dpPrs (by fail "pr")) | exact .lst (SqL.of (by fail "hp")) (dpInts _) | exact .lst (SqL.of (by fail "hp")) .nil | fail "no dp")
local macro_rules | `(tactic| fail "shp") => `(tactic| first | assumption | exact prD_shaped _ | exact PySem.W.ke_shaped_ints _ | rfl | fail "no shp")
local macro_rules | `(tactic| fail "pr") => `(tactic| first | assumption | exact PrT.mono (by assumption) (by fail "tk") | fail "no pr")
local macro_rules | `(tactic| fail "tk") => `(tactic| first | assumption | exact Tk.refl | (with_reducible refine' Tk.new ?h1 ?n1; (case n1 => assumption); (case h1 => fail "tk")) | (refine' Tk.tr (Kp.tk (by assumption) (by fail "bx")) ?h1; (case h1 => fail "tk")) | (refine' Tk.tr (Same.tk (by assumption)) ?h1; (case h1 => fail "tk")) | (with_reducible refine' Tk.lst ?h1 ?n1; (case n1 => fail "hp"); (case h1 => fail "tk")) | fail "no tk")
local macro_rules | `(tactic| fail "lk") => `(tactic| first | exact netF_count _ _ | exact netF_links _ _ | exact netF_no _ _ (by decide +kernel) (by decide +kernel) | fail "no lk")
local macro_rules | `(tactic| fail "kt") => `(tactic| first | exact upd_same | assumption | fail "hp")
local macro_rules | `(tactic| fail "na") => `(tactic| first | assumption | (with_reducible refine' NetAt.new ?h1 ?n1; (case n1 => assumption); (case h1 => fail "na")) | (refine' NetAt.same (by assumption) ?h1; (case h1 => fail "na")) | (refine' NetAt.kp (by assumption) (by fail "bx") ?h1; (case h1 => fail "na")) | (with_reducible refine' NetAt.lst ?h1 ?n1; (case n1 => fail "hp"); (case h1 => fail "na")) | fail "no na")
local macro_rules | `(tactic| fail "mono") => `(tactic| first | exact fun _ _ _ _ h q => h _ _ q | exact fun _ _ _ _ h q => (let ⟨v, e, z⟩ := q; ⟨v, e, h _ _ z⟩) | exact fun _ _ _ _ h q => (let ⟨v, e, u, f, z⟩ := q; ⟨v, e, u, f, h _ _ z⟩) | fail "no mono")
local macro_rules | `(tactic| fail "sm") => `(tactic| first | assumption | exact Same.refl _ | (with_reducible refine' Same.new ?h1 ?n1; (case n1 => assumption); (case h1 => fail "sm")) | (refine' Same.tr (by assumption) ?h1; (case h1 => fail "sm")) | fail "no sm")
local macro_rules | `(tactic| fail "fld") => `(tactic| first | (show 0 < 1000; decide) | (show 1 < 1000; decide) | fail "no fld")

section
variable {P : Program} {w : World} {K : PySem.W.Frag} {mg : Str → Option Value} {base : Heap} {CN CI CU CL CS : Addr} {mc mu : Value}

theorem rel_ties {n : Nat} (R : Rel) : ∀ x y, x < n → y < n → relP (ties n R) false x y = R x y := by
  intro x y hx hy
  rw [Bool.eq_iff_iff, relP_iff, has_nat hx hy]
  simp
theorem good_ties {n : Nat} {R : Rel} (ir : ∀ x y, x < n → y < n → R x y = true → x ≠ y) : ∀ p ∈ ties n R, Good n p := by
  intro p hp
  obtain ⟨x, y, hx, hy, r, rfl⟩ := mem_ties.mp hp
  have := ir x y hx hy r
  exact ⟨by dsimp only; omega, by dsimp only; omega, by dsimp only; omega, by dsimp only; omega, by dsimp only; omega⟩
abbrev sNetComplete : Stmt := inClass (top 8) 5
theorem scNetComplete : FnScope ["cls", "count", "x", "y"] ["cls", "count"] (defScope sNetComplete) := ⟨rfl, rfl, rfl, by decide +kernel, rfl, by decide +kernel, by decide +kernel⟩
theorem ok_NetComplete {f : Addr} {fd : FuncData} (F : L2.Fun K "complete" "Net.complete" sNetComplete f fd) (T : NTx K mg CN mc mu) (GCheckCount : CalX P w K mg base 3 "check_count" (spCheckCount CI)) (KNet : MakX P w K mg base 5 "Net" CN (spInit CN CI)) : FnOk P w K mg base (L2.CX P w) 7 f fd ["cls", "count"] (spNamed CN CI wholeR) := by
  refine F.okX scNetComplete (fun vs H Q E h => ?_) (fun cdv A outer s H vs Q E hr h => ?_)
  · obtain ⟨c, rfl, kG, kB⟩ := h
    rfl
  · obtain ⟨c, rfl, kG, kB⟩ := h
    refine ⟨_, (pss_cons (ps_expr (pe_cX GCheckCount hr (by decide) (by rfl) (passes_call (takes_of rfl rfl rfl rfl) fun _ _ _ _ h => h) (pa_cons (pv 1) pa_nil)))
      (pss_one (ps_ret (pe_mkL (i := 0) KNet hr (by decide) (passes_call (takes_of rfl rfl rfl rfl) fun _ _ _ _ h => h) rfl (Or.inl rfl) (pa_cons (pv 1) (pa_cons (pe_lc2 (own := [("x", 2), ("y", 3)]) (vs1 := [3]) (g := gName 2) (g1 := gName 3) (tt := tYes) rfl scNetComplete.nd (pi_range1 rfl T.range (pa_cons (pv 1) pa_nil)) (blkOk_by (N := ["cls", "count", "x", "y"]) (sc := defScope sNetComplete) (by decide +kernel)) (by decide) (fun _ _ _ _ _ => (pg_name (i := 2) scNetComplete.nd rfl (Or.inl rfl))) (fun _ _ _ _ _ => pts_nil) (fun _ _ _ _ _ => (pi_range1 rfl T.range (pa_cons (pv 1) pa_nil))) (fun _ _ _ _ _ => (pg_name (i := 3) scNetComplete.nd rfl (Or.inl rfl))) (fun _ _ _ _ _ => (pts_one (pt_cmpR op_ne (pv 2) (pv 3) (nomark _)))) (fun _ _ _ _ _ => (pe_tup (pa_cons (pv 2) (pa_cons (pv 3) pa_nil))))) pa_nil)))))), ?_⟩
    -- check_count(count)
    refine ⟨_, rfl, _, rfl, fun gd1 H1 sm1 => ?_, fun z => RaisesI.back (kB z) (by fail "sm")⟩
    obtain ⟨n, rfl, b1, b2⟩ : ∃ n : Nat, c = n ∧ 1 ≤ n ∧ n ≤ 24 := ⟨c.toNat, by omega, by omega, by omega⟩
    -- return cls(count, [(x, y) for x in range(count) for y in range(count) if x != y])
    refine ⟨rfl, _, rfl, _, rfl, _, rfl, (by fail "om"), (by fail "om"), fun D1 nD1 => ⟨fun i m H' => (m = n - i ∧ i ≤ n) ∧ ∃ as : List Addr, Same H1 H' ∧ H' D1 = some (.lst (as.map V.ref)) ∧ PrT H' as (tiesTo n (wholeR n) i), ⟨n, ⟨by omega, Nat.zero_le _⟩, [], Same.new (Same.refl _) nD1, upd_same, PrT.nil⟩, fun i m H' z => by
      obtain ⟨⟨rfl, hi⟩, as, sm, hD, pa⟩ := z
      by_cases hlt : i < n
      · right
        refine ⟨by show i < ((n : Int)).toNat; omega, fun H' => ∃ as : List Addr, Same H1 H' ∧ H' D1 = some (.lst (as.map V.ref)) ∧ PrT H' as (tiesTo n (wholeR n) (i + 1)), fun H' z => ⟨n - (i + 1), by omega, ⟨rfl, hlt⟩, z⟩, fun x H2 y => ?_⟩
        obtain ⟨ex, ey⟩ := y
        subst ex
        subst ey
        refine ⟨rfl, ?_⟩
        unfold tYes
        refine iteT ?_
        refine ⟨_, rfl, _, rfl, (by fail "om"), (by fail "om"), ?_⟩
        refine ⟨fun j k H' => (k = n - j ∧ j ≤ n) ∧ ∃ as : List Addr, Same H1 H' ∧ H' D1 = some (.lst (as.map V.ref)) ∧ PrT H' as (tiesTo n (wholeR n) i ++ rowT (wholeR n) i j), ⟨n, ⟨by omega, Nat.zero_le _⟩, as, sm, hD, by show PrT _ as (_ ++ []); rw [List.append_nil]; exact pa⟩, fun j k H3 z => ?_⟩
        obtain ⟨⟨rfl, hj⟩, as, sm, hD, pa⟩ := z
        by_cases hjl : j < n
        · right
          have lb : as.length ≤ 1200 := by
            have q1 := tiesTo_len n (wholeR n) i
            have q2 := rowT_len (wholeR n) i j
            have q3 : i * n ≤ 24 * 24 := Nat.mul_le_mul (by omega) b2
            rw [pa.1, List.length_append]
            omega
          refine ⟨by show j < ((n : Int)).toNat; omega, fun H' => ∃ as : List Addr, Same H1 H' ∧ H' D1 = some (.lst (as.map V.ref)) ∧ PrT H' as (tiesTo n (wholeR n) i ++ rowT (wholeR n) i (j + 1)), fun H' z => ⟨n - (j + 1), by omega, ⟨rfl, hjl⟩, z⟩, fun x H4 y => ?_⟩
          obtain ⟨ex, ey⟩ := y
          subst ex
          subst ey
          refine ⟨rfl, _, rfl, _, rfl, rfl, _, rfl, ?_⟩
          refine ifNeI (fun g => ?_) fun g => ?_
          · refine ⟨_, rfl, _, rfl, (by fail "sz"), fun p np => ⟨_, (by fail "hp"), (by fail "szl"), as ++ [p], Same.mut (by fail "sm") nD1, ?_, ?_⟩⟩
            · rw [upd_same, List.map_append]
              rfl
            · rw [rowT_yes (decide_eq_true (by omega)), ← List.append_assoc]
              refine PrT.snoc (PrT.mono pa (by fail "tk")) ?_
              rw [upd_ne (ne_of_none' np hD), upd_same, Int.zero_add, Int.zero_add]
          · refine ⟨as, sm, hD, ?_⟩
            rw [rowT_no (decide_eq_false (by omega))]
            exact pa
        · left
          have e : j = n := by omega
          subst e
          refine ⟨by show ((j : Int)).toNat ≤ j; omega, as, sm, hD, ?_⟩
          rw [tiesTo_succ]
          exact pa
      · left
        have e : i = n := by omega
        subst e
        refine ⟨by show ((i : Int)).toNat ≤ i; omega, ?_⟩
        have la : as.length ≤ 600 := by
          have := tiesTo_len i (wholeR i) i
          have h2 : i * i ≤ 24 * 24 := Nat.mul_le_mul b2 b2
          rw [pa.1]
          omega
        refine mk_init ⟨_, _, _, _, rfl, (by fail "hp"), (by fail "pr"), (by omega), fun n2 e2 c2 d2 g2 a2 H2 na2 sm2 nt2 => ?_, fun z => absurd gd1 z, fun m e _ _ => BadRow.none (fun p hp => (show i = m by omega) ▸ good_ties (R := wholeR i) (fun x y _ _ r => of_decide_eq_true r) p hp)⟩
        obtain rfl : i = n2 := by omega
        exact kG i rfl b1 b2 a2 H2 (free_back na2 (sm1.trans sm)) ((sm1.trans sm).trans sm2) (NetAt.congr nt2 (rel_ties _))⟩⟩
    skip
theorem op_neDB {X : Cx} {K : PySem.W.Frag} (hu : X.A.units + 64 < cLine) (hK : X.K = K) : OpR X (compareOp .NotEq) (rNeD K) := by
  subst hK
  exact op_neD hu
theorem op_eqDB {X : Cx} {K : PySem.W.Frag} (hu : X.A.units + 64 < cLine) (hK : X.K = K) : OpR X (compareOp .Eq) (rEqD K) := by
  subst hK
  exact op_eqD hu
theorem eqv_two (x y s r : Int) : PyData.eqv (.tuple [.int x, .int y]) (.tuple [.int s, .int r]) = decide ((x, y) = (s, r)) := by
  show (x == s && (y == r && true)) = _
  rw [Bool.eq_iff_iff]
  simp
/-- a net is made with one link more; with one less -/
def moreR (R : Rel) (p : Int × Int) : Rel := fun x y => R x y || hitP p x y
def lessR (R : Rel) (p : Int × Int) : Rel := fun x y => R x y && !hitP p x y
theorem hit_iff {p : Int × Int} {x y : Nat} : hitP p x y = true ↔ ((x : Int), (y : Int)) = p := by
  obtain ⟨a, b⟩ := p
  unfold hitP
  rw [decide_eq_true_eq]
  constructor
  · rintro ⟨h1, h2⟩
    exact Prod.ext h1.symm h2.symm
  · intro h
    exact ⟨(congrArg Prod.fst h).symm, (congrArg Prod.snd h).symm⟩
theorem rel_more {n : Nat} (R : Rel) (p : Int × Int) : ∀ x y, x < n → y < n → relP (ties n R ++ [p]) false x y = moreR R p x y := by
  intro x y hx hy
  unfold moreR
  rw [Bool.eq_iff_iff, relP_iff, Bool.or_eq_true, hit_iff, List.mem_append, has_nat hx hy, List.mem_singleton]
  simp
theorem rel_less {n : Nat} (R : Rel) (p : Int × Int) : ∀ x y, x < n → y < n → relP ((ties n R).filter fun q => !decide (q = p)) false x y = lessR R p x y := by
  intro x y hx hy
  unfold lessR
  rw [Bool.eq_iff_iff, relP_iff, Bool.and_eq_true, List.mem_filter, has_nat hx hy, Bool.not_eq_true', Bool.not_eq_true', ← Bool.not_eq_true, ← Bool.not_eq_true, hit_iff, decide_eq_true_eq]
  simp
theorem more_bad {CI : Addr} {n : Nat} {R : Rel} {p : Int × Int} {H : Hp} {E : XK} (g : ∀ q ∈ ties n R, Good n q) (k : ¬ Good n p → RaisesP CI p H E) : BadP CI n (ties n R ++ [p]) H E := by
  intro j q h2 h3 _
  rcases List.mem_append.mp (List.mem_of_getElem? h2) with h | h
  · exact absurd (g q h) h3
  · rw [List.mem_singleton] at h
    subst h
    exact k h3
def spWith (CN CI : Addr) : Sp := fun vs H Q E => ∃ (a : Addr) (n : Nat) (R : Rel) (s r : Int), vs = [.ref a, .int s, .int r] ∧ NetAt CN H a n R ∧ (Good n (s, r) → ∀ a2 H', H a2 = none → Same H H' → NetAt CN H' a2 n (moreR R (s, r)) → Q (.ref a2) H') ∧ (¬ Good n (s, r) → RaisesP CI (s, r) H E)
def spWithout (CN CL : Addr) : Sp := fun vs H Q E => ∃ (a : Addr) (n : Nat) (R : Rel) (s r : Int), vs = [.ref a, .int s, .int r] ∧ NetAt CN H a n R ∧ ((s, r) ∈ ties n R → ∀ a2 H', H a2 = none → Same H H' → NetAt CN H' a2 n (lessR R (s, r)) → Q (.ref a2) H') ∧ (¬ (s, r) ∈ ties n R → RaisesL CL s r H E)
theorem snocR {as : List Addr} {p : Addr} : as.map V.ref ++ [V.ref p] = (as ++ [p]).map V.ref := by
  rw [List.map_append]
  rfl
abbrev sNetWithLink : Stmt := inClass (top 8) 11
theorem scNetWithLink : FnScope ["self", "source", "reader"] ["self", "source", "reader"] (defScope sNetWithLink) := ⟨rfl, rfl, rfl, by decide +kernel, rfl, by decide +kernel, by decide +kernel⟩
theorem ok_NetWithLink {f : Addr} {fd : FuncData} (F : L2.Fun K "with_link" "Net.with_link" sNetWithLink f fd) (T : NTx K mg CN mc mu) (KNet : MakX P w K mg base 5 "Net" CN (spInit CN CI)) (PLinks : PropC P w K mg base 1 CN "links" (spLinks CN)) : FnOk P w K mg base (L2.CX P w) 7 f fd ["self", "source", "reader"] (spWith CN CI) := by
  refine F.okX scNetWithLink (fun vs H Q E h => ?_) (fun cdv A outer s H vs Q E hr h => ?_)
  · obtain ⟨a, n, R, s0, r, rfl, na, kG, kB⟩ := h
    rfl
  · obtain ⟨a, n, R, s0, r, rfl, na, kG, kB⟩ := h
    have na2 := na
    obtain ⟨⟨dx, d, ha, hd⟩, b1, b2, ir⟩ := na2
    refine ⟨_, (pss_one (ps_ret (pe_mkX KNet hr (by decide) (by rfl) (passes_call (takes_of rfl rfl rfl rfl) fun _ _ _ _ h => h) (pa_cons (pe_fld (pv 0) (by rfl)) (pa_cons (pe_op op_cat (pe_pr PLinks hr (by decide) (pv 0)) (pe_lst (pa_cons (pe_tup (pa_cons (pv 1) (pa_cons (pv 2) pa_nil))) pa_nil))) pa_nil))))), ?_⟩
    -- return Net(self.count, self.links + [(source, reader)])
    refine ⟨_, rfl, _, _, _, _, _, rfl, (by fail "hp"), T.cl, T.n_count, (by fail "lk"), _, rfl, _, _, _, rfl, (by fail "hp"), _, _, _, rfl, (by fail "na"), fun l5 as5 H5 nl5 sm5 hl5 pl5 => ⟨_, rfl, _, rfl, (by fail "sz"), fun p4 np4 => ⟨(by fail "sz"), fun p3 np3 => ⟨_, _, _, _, rfl, rfl, (by fail "hp"), (by fail "hp"), Evl.sz_of (by have := pl5.1; have := ties_len R b2; simp only [List.length_map, List.length_cons, List.length_nil]; omega), fun p2 np2 => mk_init ⟨_, _, as5 ++ [p4], ties n R ++ [(s0, r)], rfl, by rw [upd_same, snocR], PrT.snoc (PrT.mono pl5 (by fail "tk")) (by fail "hp"), (by have := pl5.1; have := ties_len R b2; simp only [List.length_append, List.length_cons, List.length_nil]; omega), fun n1 e1 c1 d1 g1 a1 H1 na1 sm1 nt1 => ?_, fun z => absurd (show (1 : Int) ≤ (n : Int) ∧ (n : Int) ≤ 24 by omega) z, fun m e _ _ => by obtain rfl : n = m := (by omega); exact BadP.row (more_bad (good_ties ir) kB) (by fail "sm") (PrT.snoc (t := p4) (PrT.mono pl5 (by fail "tk")) (by fail "hp"))⟩⟩⟩⟩⟩
    obtain rfl : n = n1 := by omega
    have smX : Same H (upd (upd (upd H5 p4 (.tup [.int s0, .int r])) p3 (.lst [.ref p4])) p2 (.lst (as5.map V.ref ++ [.ref p4]))) := by fail "sm"
    exact kG (g1 _ (List.mem_append_right _ List.mem_cons_self)) a1 H1 (free_back na1 smX) (smX.trans sm1) (NetAt.congr nt1 (rel_more R _))
abbrev sNetWithoutLink : Stmt := inClass (top 8) 12
theorem scNetWithoutLink : FnScope ["self", "source", "reader", "link"] ["self", "source", "reader"] (defScope sNetWithoutLink) := ⟨rfl, rfl, rfl, by decide +kernel, rfl, by decide +kernel, by decide +kernel⟩
theorem ok_NetWithoutLink {f : Addr} {fd : FuncData} (F : L2.Fun K "without_link" "Net.without_link" sNetWithoutLink f fd) (T : NTx K mg CN mc mu) (KNet : MakX P w K mg base 5 "Net" CN (spInit CN CI)) (PLinks : PropC P w K mg base 1 CN "links" (spLinks CN)) (GCheckLink : CalX P w K mg base 3 "check_link" (spCheckLink CN CL)) : FnOk P w K mg base (L2.CX P w) 7 f fd ["self", "source", "reader"] (spWithout CN CL) := by
  refine F.okX scNetWithoutLink (fun vs H Q E h => ?_) (fun cdv A outer s H vs Q E hr h => ?_)
  · obtain ⟨a, n, R, s0, r, rfl, na, kG, kB⟩ := h
    rfl
  · obtain ⟨a, n, R, s0, r, rfl, na, kG, kB⟩ := h
    have na2 := na
    obtain ⟨⟨dx, d, ha, hd⟩, b1, b2, ir⟩ := na2
    refine ⟨_, (pss_cons (ps_expr (pe_cX GCheckLink hr (by decide) (by rfl) (passes_call (takes_of rfl rfl rfl rfl) fun _ _ _ _ h => h) (pa_cons (pv 0) (pa_cons (pv 1) (pa_cons (pv 2) pa_nil)))))
      (pss_one (ps_ret (pe_mkX KNet hr (by decide) (by rfl) (passes_call (takes_of rfl rfl rfl rfl) fun _ _ _ _ h => h) (pa_cons (pe_fld (pv 0) (by rfl)) (pa_cons (pe_lc (own := [("link", 3)]) (g := gName 3) rfl scNetWithoutLink.nd (pi_list (pe_pr PLinks hr (by decide) (pv 0))) (blkOk_by (N := ["self", "source", "reader", "link"]) (sc := defScope sNetWithoutLink) (by decide +kernel)) (fun _ _ _ _ _ => (pg_name (i := 3) scNetWithoutLink.nd rfl (Or.inl rfl))) (fun _ _ _ _ _ => (pts_one (pt_cmpR (op_neDB (K := K) hr.units (by rfl)) (pv 3) (pe_tup (pa_cons (pv 1) (pa_cons (pv 2) pa_nil))) (nomark _)))) (fun _ _ _ _ _ => (pv 3))) pa_nil)))))), ?_⟩
    -- check_link(self, source, reader)
    refine ⟨_, rfl, _, rfl, _, rfl, _, _, _, _, _, rfl, (by fail "na"), fun gd1 H1 sm1 => ?_, fun z => RaisesL.back (kB z) (by fail "sm")⟩
    -- return Net(self.count, [link for link in self.links if link != (source, reader)])
    refine ⟨_, rfl, _, _, _, _, _, rfl, (by fail "hp"), T.cl, T.n_count, (by fail "lk"), _, rfl, _, _, _, rfl, (by fail "hp"), _, _, _, rfl, (by fail "na"), fun l3 as3 H3 nl3 sm3 hl3 pl3 => ⟨_, rfl, ⟨_, SqL.of (by fail "hp")⟩, fun D1 nD1 => lc_list (K := K) (a := l3) (xs := as3.map V.ref) (fun i H' => ∃ bs : List Addr, Same H3 H' ∧ H' D1 = some (.lst (bs.map V.ref)) ∧ PrT H' bs (((ties n R).take i).filter fun q => !decide (q = (s0, r)))) ⟨[], Same.new (Same.refl _) nD1, upd_same, PrT.nil⟩ (fun i H' _ z => by obtain ⟨bs, sm, _⟩ := z; exact SqL.of (sm _ _ hl3)) (fun i x H' hx z => by
      obtain ⟨bs, sm, hD, pb⟩ := z
      obtain ⟨t, x, y, rfl, e1, e2, e3⟩ := pl3.item hx
      have e4 := sm _ _ e3
      have lt := ties_len R b2
      have lb : bs.length ≤ 600 := by
        have q := List.length_filter_le (fun q => !decide (q = (s0, r))) ((ties n R).take i)
        rw [List.length_take] at q
        rw [pb.1]
        omega
      refine ⟨rfl, _, rfl, _, rfl, _, rfl, (by fail "sz"), fun p np => ⟨_, _, (by fail "dp"), (by fail "dp"), (by fail "shp"), (by fail "shp"), _, rfl, ?_⟩⟩
      rw [eqv_two]
      refine ifB (fun g => ?_) fun g => ?_
      · refine ⟨_, rfl, _, (by fail "hp"), (by fail "szl"), bs ++ [t], Same.mut (by fail "sm") nD1, ?_, ?_⟩
        · rw [upd_same, snocR]
        · rw [take_more' e2, List.filter_append]
          show PrT _ _ (_ ++ List.filter _ [(x, y)])
          rw [List.filter_cons_of_pos (p := fun q => !decide (q = (s0, r))) g, List.filter_nil]
          exact PrT.snoc (PrT.mono pb (by fail "tk")) (by fail "hp")
      · refine ⟨bs, by fail "sm", by fail "hp", ?_⟩
        rw [take_more' e2, List.filter_append, List.filter_cons_of_neg (p := fun q => !decide (q = (s0, r))) (by rw [g]; exact Bool.false_ne_true), List.filter_nil, List.append_nil]
        exact PrT.mono pb (by fail "tk")) fun H' z => by
      obtain ⟨bs, sm, hD, pb⟩ := z
      rw [List.length_map, pl3.1, List.take_length] at pb
      have smX : Same H H' := sm1.trans (sm3.trans sm)
      have gg : ∀ p ∈ (ties n R).filter (fun q => !decide (q = (s0, r))), Good n p := fun p hp => good_ties ir p (List.mem_filter.mp hp).1
      refine mk_init ⟨_, _, _, _, rfl, (by fail "hp"), (by fail "pr"), (by have := ties_len R b2; have := List.length_filter_le (fun q => !decide (q = (s0, r))) (ties n R); rw [pb.1]; omega), fun n2 e2 c2 d2 g2 a2 H2 na2 sm2 nt2 => ?_, fun z => absurd (show (1 : Int) ≤ (n : Int) ∧ (n : Int) ≤ 24 by omega) z, fun m e _ _ => by obtain rfl : n = m := (by omega); exact BadRow.none gg⟩
      obtain rfl : n = n2 := by omega
      exact kG gd1 a2 H2 (free_back na2 smX) (smX.trans sm2) (NetAt.congr nt2 (rel_less R _))⟩⟩
    skip
end
end K01

end
section
set_option Elab.async false
set_option linter.all false
set_option maxRecDepth 100000
set_option maxHeartbeats 4000000
/- lists of ints: slices, sums of lists, items, methods; members of a table; what is kept beside a table -/
namespace KI
open PySem L2 Kit KR
theorem cut_to {ns : List Int} {n : Int} (h : 0 ≤ n) : cutV (ns.map V.int) none (some n) = (ns.take n.toNat).map V.int := by
  have e : HT.sIx (ns.map V.int).length (ns.map V.int).length (some n) = min n.toNat ns.length := by
    show (if n < 0 then _ else _) = _
    rw [if_neg (by omega), List.length_map]
  unfold cutV
  rw [e]
  show ((ns.map V.int).drop 0).take (min n.toNat ns.length - 0) = _
  have e2 : ns.take (min n.toNat ns.length) = ns.take n.toNat := List.take_eq_take_iff.mpr (by omega)
  rw [List.drop_zero, Nat.sub_zero, ← List.map_take, e2]
theorem cut_from {ns : List Int} {n : Int} (h : 0 ≤ n) : cutV (ns.map V.int) (some n) none = (ns.drop n.toNat).map V.int := by
  have e : HT.sIx (ns.map V.int).length 0 (some n) = min n.toNat ns.length := by
    show (if n < 0 then _ else _) = _
    rw [if_neg (by omega), List.length_map]
  unfold cutV
  rw [e]
  show ((ns.map V.int).drop (min n.toNat ns.length)).take ((ns.map V.int).length - min n.toNat ns.length) = _
  rw [← List.map_drop, ← List.map_take]
  congr 1
  by_cases q : n.toNat ≤ ns.length
  · rw [Nat.min_eq_left q, List.take_of_length_le (by rw [List.length_map, List.length_drop]; omega)]
  · rw [Nat.min_eq_right (by omega), List.drop_of_length_le (Nat.le_refl _), List.drop_of_length_le (by omega), List.take_nil]
theorem cut_mid {ns : List Int} {m n : Int} (h : 0 ≤ m) (h2 : m ≤ n) : cutV (ns.map V.int) (some m) (some n) = ((ns.drop m.toNat).take (n.toNat - m.toNat)).map V.int := by
  have e : ∀ z : Int, 0 ≤ z → ∀ d, HT.sIx (ns.map V.int).length d (some z) = min z.toNat ns.length := fun z hz d => by
    show (if z < 0 then _ else _) = _
    rw [if_neg (by omega), List.length_map]
  unfold cutV
  rw [e m h, e n (by omega)]
  rw [← List.map_drop, ← List.map_take]
  congr 1
  by_cases q : m.toNat ≤ ns.length
  · rw [Nat.min_eq_left q, List.take_eq_take_iff.mpr]
    rw [List.length_drop]
    omega
  · have e1 : ns.drop (min m.toNat ns.length) = [] := List.drop_of_length_le (by omega)
    have e2 : ns.drop m.toNat = [] := List.drop_of_length_le (by omega)
    rw [e1, e2, List.take_nil, List.take_nil]
def rTo (K : PySem.W.Frag) : V → Option Int → Option Int → Hp → VK → Prop := fun x lo hi H Q => ∃ (a : Addr) (ns : List Int) (n : Int), x = .ref a ∧ lo = none ∧ hi = some n ∧ 0 ≤ n ∧ SqL K H a (ns.map V.int) ∧ ∀ p, H p = none → Q (.ref p) (upd H p (.lst ((ns.take n.toNat).map V.int)))
def rFrom (K : PySem.W.Frag) : V → Option Int → Option Int → Hp → VK → Prop := fun x lo hi H Q => ∃ (a : Addr) (ns : List Int) (n : Int), x = .ref a ∧ lo = some n ∧ hi = none ∧ 0 ≤ n ∧ SqL K H a (ns.map V.int) ∧ ∀ p, H p = none → Q (.ref p) (upd H p (.lst ((ns.drop n.toNat).map V.int)))
def rMid (K : PySem.W.Frag) : V → Option Int → Option Int → Hp → VK → Prop := fun x lo hi H Q => ∃ (a : Addr) (ns : List Int) (m n : Int), x = .ref a ∧ lo = some m ∧ hi = some n ∧ 0 ≤ m ∧ m ≤ n ∧ SqL K H a (ns.map V.int) ∧ ∀ p, H p = none → Q (.ref p) (upd H p (.lst (((ns.drop m.toNat).take (n.toNat - m.toNat)).map V.int)))
theorem sl_to {X : Cx} : SlR X (rTo X.K) := by
  intro pins s σ H x v vl vu lo hi sl Q I rv hs pl pu h
  obtain ⟨a, ns, n, rfl, rfl, rfl, hn, hq, k⟩ := h
  refine sl_list pins s σ H _ v vl vu none (some n) sl Q I rv hs pl pu ⟨a, _, rfl, hq, ?_⟩
  rw [cut_to hn]
  exact k
theorem sl_from {X : Cx} : SlR X (rFrom X.K) := by
  intro pins s σ H x v vl vu lo hi sl Q I rv hs pl pu h
  obtain ⟨a, ns, n, rfl, rfl, rfl, hn, hq, k⟩ := h
  refine sl_list pins s σ H _ v vl vu (some n) none sl Q I rv hs pl pu ⟨a, _, rfl, hq, ?_⟩
  rw [cut_from hn]
  exact k
theorem sl_mid {X : Cx} : SlR X (rMid X.K) := by
  intro pins s σ H x v vl vu lo hi sl Q I rv hs pl pu h
  obtain ⟨a, ns, m, n, rfl, rfl, rfl, hm, hn, hq, k⟩ := h
  refine sl_list pins s σ H _ v vl vu (some m) (some n) sl Q I rv hs pl pu ⟨a, _, rfl, hq, ?_⟩
  rw [cut_mid hm hn]
  exact k
theorem eqv_cons (a b : Int) (as bs : List Int) : PyData.eqv (.list ((a :: as).map PyData.int)) (.list ((b :: bs).map PyData.int)) = (decide (a = b) && PyData.eqv (.list (as.map PyData.int)) (.list (bs.map PyData.int))) := by
  have e : PyData.eqv (.list ((a :: as).map PyData.int)) (.list ((b :: bs).map PyData.int)) = ((a == b) && PyData.eqv (.list (as.map PyData.int)) (.list (bs.map PyData.int))) := rfl
  rw [e]
  congr 1
theorem eqv_ii : ∀ (as bs : List Int), PyData.eqv (.list (as.map PyData.int)) (.list (bs.map PyData.int)) = decide (as = bs)
  | [], [] => rfl
  | [], b :: bs => rfl
  | a :: as, [] => rfl
  | a :: as, b :: bs => by
    rw [eqv_cons, eqv_ii as bs]
    by_cases h : a = b <;> by_cases g : as = bs <;> simp [h, g]
/-- an item of a written list of ints -/
theorem at_lit {ns : List Int} {d : Int} (h0 : 0 ≤ d) (h1 : d < ((ns.length : Nat) : Int)) : atI (ns.map V.int) d = some (V.int (ns.getD d.toNat 0)) := by
  have h : d.toNat < ns.length := by omega
  refine at_int (i := d.toNat) ?_ (by omega)
  rw [List.getD_eq_getElem?_getD, List.getElem?_eq_getElem h]
  rfl
theorem getD_some {ns : List Int} {d : Int} (h0 : 0 ≤ d) (h1 : d < ((ns.length : Nat) : Int)) : ns[d.toNat]? = some (ns.getD d.toNat 0) := by
  have h : d.toNat < ns.length := by omega
  rw [List.getD_eq_getElem?_getD, List.getElem?_eq_getElem h]
  rfl
theorem op_catI {X : Cx} : OpR X (binaryOp .Add) (fun x y H Q => ∃ (a b : Addr) (as bs : List Int), x = V.ref a ∧ y = V.ref b ∧ H a = some (.lst (as.map V.int)) ∧ H b = some (.lst (bs.map V.int)) ∧ as.length + bs.length ≤ sizeLine ∧ ∀ p, H p = none → Q (.ref p) (upd H p (.lst ((as ++ bs).map V.int)))) := by
  intro pins s σ H x y v u Q I rx ry h
  obtain ⟨a, b, as, bs, rfl, rfl, ha, hb, hs, k⟩ := h
  refine op_cat pins s σ H _ _ v u Q I rx ry ⟨a, b, _, _, rfl, rfl, ha, hb, by rw [List.length_map, List.length_map]; exact hs, ?_⟩
  rw [← List.map_append]
  exact k
theorem call_lenI {X : Cx} : CallR X (.builtin "len") (fun vs H Q => ∃ (a : Addr) (ns : List Int), vs = [V.ref a] ∧ H a = some (.lst (ns.map V.int)) ∧ Q (.int ((ns.length : Nat) : Int)) H) := by
  intro pins s σ H vs us Q I r h
  obtain ⟨a, ns, rfl, ha, k⟩ := h
  refine call_len_seq pins s σ H _ us Q I r ⟨a, _, rfl, .inl (SqL.of ha), ?_⟩
  rw [List.length_map]
  exact k
theorem ix_I {X : Cx} : IxR X (fun x y H Q => ∃ (a : Addr) (ns : List Int) (i : Int) (v : V), x = V.ref a ∧ y = V.int i ∧ H a = some (.lst (ns.map V.int)) ∧ atI (ns.map V.int) i = some v ∧ Q v H) := by
  intro ev es pins s σ H x y v u Q I rx ry h
  obtain ⟨a, ns, i, z, rfl, rfl, ha, hx, k⟩ := h
  exact ix_list ev es pins s σ H _ _ v u Q I rx ry ⟨a, _, i, z, rfl, rfl, SqL.of ha, hx, k⟩
theorem eq_nil {es : List Int} (h : PyData.eqv (.list (es.map PyData.int)) (.list []) = false) : 1 ≤ es.length := by
  cases es with
  | nil => cases h
  | cons a r => exact Nat.le_add_left 1 _
theorem lit0 {H : Hp} {p : Addr} : upd H p (.lst []) p = some (.lst (([] : List Int).map V.int)) := upd_same
theorem lit1 {H : Hp} {p : Addr} {a : Int} : upd H p (.lst [V.int a]) p = some (.lst ([a].map V.int)) := upd_same
theorem lit3 {H : Hp} {p : Addr} {a b c : Int} : upd H p (.lst [V.int a, V.int b, V.int c]) p = some (.lst ([a, b, c].map V.int)) := upd_same
theorem lit2 {H : Hp} {p : Addr} {a b : Int} : upd H p (.lst [V.int a, V.int b]) p = some (.lst ([a, b].map V.int)) := upd_same
theorem lit7 {H : Hp} {p : Addr} {a b c d e f g : Int} : upd H p (.lst [V.int a, V.int b, V.int c, V.int d, V.int e, V.int f, V.int g]) p = some (.lst ([a, b, c, d, e, f, g].map V.int)) := upd_same
theorem lit9 {H : Hp} {p : Addr} {a b c d e f g h i : Int} : upd H p (.lst [V.int a, V.int b, V.int c, V.int d, V.int e, V.int f, V.int g, V.int h, V.int i]) p = some (.lst ([a, b, c, d, e, f, g, h, i].map V.int)) := upd_same
theorem drop3 {cs : List Int} {n : Nat} (h : n + 3 ≤ cs.length) : ∃ a b c r, cs.drop n = a :: b :: c :: r := by
  have hl : (cs.drop n).length = cs.length - n := List.length_drop
  match e : cs.drop n, hl with
  | a :: b :: c :: r, _ => exact ⟨a, b, c, r, rfl⟩
  | [], hl => simp at hl; omega
  | [_], hl => simp at hl; omega
  | [_, _], hl => simp at hl; omega

theorem mt_appendI {X : Cx} : MtM X "list.append" (fun x vs H Q => ∃ (l : Addr) (ns : List Int) (y : Int), x = V.ref l ∧ vs = [V.int y] ∧ H l = some (.lst (ns.map V.int)) ∧ ns.length < sizeLine ∧ Q .non (upd H l (.lst ((ns ++ [y]).map V.int)))) := by
  intro pins s σ H x xs v us Q I rx r h
  obtain ⟨l, ns, y, rfl, rfl, hl, hs, k⟩ := h
  refine mt_append pins s σ H _ _ v us Q I rx r ⟨l, _, _, rfl, rfl, hl, by rw [List.length_map]; exact hs, ?_⟩
  rw [List.map_append] at k
  exact k
theorem mt_popI {X : Cx} : MtM X "list.pop" (fun x vs H Q => ∃ (l : Addr) (ns : List Int) (i : Int), x = V.ref l ∧ vs = [V.int i] ∧ H l = some (.lst (ns.map V.int)) ∧ 0 ≤ i ∧ i < ((ns.length : Nat) : Int) ∧ i < 2 ^ 63 ∧ Q (.int (ns.getD i.toNat 0)) (upd H l (.lst ((ns.eraseIdx i.toNat).map V.int)))) := by
  intro pins s σ H x xs v us Q I rx r h
  obtain ⟨l, ns, i, rfl, rfl, hl, h0, h1, h2, k⟩ := h
  have e := getD_some h0 h1
  refine mt_popAt pins s σ H _ _ v us Q I rx r ⟨l, _, i, i.toNat, _, rfl, rfl, hl, by omega, h2, ?_, by rw [List.getElem?_map, e]; rfl, ?_⟩
  · unfold seqIndex?
    rw [List.length_map]
    first
      | (simp only [h0, h1, if_true, if_pos]; done)
      | (simp; omega)
  · rw [List.eraseIdx_eq_take_drop_succ, List.map_append, List.map_take, List.map_drop] at k
    rw [List.eraseIdx_eq_take_drop_succ]
    exact k
theorem mt_popR {X : Cx} : MtM X "list.pop" (fun x vs H Q => ∃ (l : Addr) (as : List Addr) (i : Int), x = V.ref l ∧ vs = [V.int i] ∧ H l = some (.lst (as.map V.ref)) ∧ 0 ≤ i ∧ i < ((as.length : Nat) : Int) ∧ i < 2 ^ 63 ∧ Q (.ref (as.getD i.toNat 0)) (upd H l (.lst ((as.eraseIdx i.toNat).map V.ref)))) := by
  intro pins s σ H x xs v us Q I rx r h
  obtain ⟨l, as, i, rfl, rfl, hl, h0, h1, h2, k⟩ := h
  have e : as[i.toNat]? = some (as.getD i.toNat 0) := getD_at h0 (by rw [List.length_map]; exact h1)
  refine mt_popAt pins s σ H _ _ v us Q I rx r ⟨l, _, i, i.toNat, _, rfl, rfl, hl, by omega, h2, ?_, by rw [List.getElem?_map, e]; rfl, ?_⟩
  · unfold seqIndex?
    rw [List.length_map]
    first
      | (simp only [h0, h1, if_true, if_pos]; done)
      | (simp; omega)
  · rw [List.eraseIdx_eq_take_drop_succ, List.map_append, List.map_take, List.map_drop] at k
    rw [List.eraseIdx_eq_take_drop_succ]
    exact k
theorem PrT.erase {H : Hp} {as : List Addr} {ps : List (Int × Int)} (x : PrT H as ps) (k : Nat) : PrT H (as.eraseIdx k) (ps.eraseIdx k) := by
  rw [List.eraseIdx_eq_take_drop_succ, List.eraseIdx_eq_take_drop_succ]
  exact (x.take k).append (x.drop (k + 1))
theorem mt_insertI {X : Cx} : MtR X "list.insert" (fun x vs H Q => ∃ (l : Addr) (ns : List Int) (i y : Int), x = V.ref l ∧ vs = [V.int i, V.int y] ∧ H l = some (.lst (ns.map V.int)) ∧ ns.length < sizeLine ∧ 0 ≤ i ∧ i < 2 ^ 63 ∧ Q .non (upd H l (.lst ((ns.take i.toNat ++ [y] ++ ns.drop i.toNat).map V.int)))) := by
  intro pins s σ H x xs v us Q I rx r h
  obtain ⟨l, ns, i, y, rfl, rfl, hl, hs, h0, h1, k⟩ := h
  refine mt_insert pins s σ H _ _ v us Q I rx r ⟨l, _, i, _, rfl, rfl, hl, by rw [List.length_map]; exact hs, h0, h1, ?_⟩
  rw [List.map_append, List.map_append, List.map_take, List.map_drop] at k
  exact k
theorem set_I {X : Cx} : PSet X (fun o i v H Q => ∃ (p : Addr) (ns : List Int) (k v' : Int) (j : Nat), o = .ref p ∧ i = .int k ∧ v = .int v' ∧ H p = some (.lst (ns.map V.int)) ∧ ixN ns.length k = some j ∧ Q (upd H p (.lst ((ns.set j v').map V.int)))) := by
  intro pins s σ H o i v ov iv u Q I ro ri rv h
  obtain ⟨p, ns, k, v', j, rfl, rfl, rfl, hp, hj, q⟩ := h
  refine set_list pins s σ H _ _ _ ov iv u Q I ro ri rv ⟨p, _, k, j, rfl, rfl, hp, by rw [List.length_map]; exact hj, ?_⟩
  rw [List.map_set] at q
  exact q
theorem flat_ints : ∀ ns : List Int, (ns.map V.int).all flatV = true
  | [] => rfl
  | n :: r => by
    show (flatV (V.int n) && (r.map V.int).all flatV) = true
    rw [flat_ints r]
    rfl
theorem in_ints (x : Int) : ∀ ns : List Int, inV (V.int x) (ns.map V.int) = decide (x ∈ ns)
  | [] => rfl
  | n :: r => by
    show (eqV (V.int n) (V.int x) || inV (V.int x) (r.map V.int)) = _
    rw [in_ints x r]
    have e : eqV (V.int n) (V.int x) = decide (n = x) := rfl
    rw [e]
    by_cases h : n = x
    · rw [decide_eq_true h, decide_eq_true (List.mem_cons.mpr (.inl h.symm)), Bool.true_or]
    · rw [decide_eq_false h, Bool.false_or]
      by_cases g : x ∈ r
      · rw [decide_eq_true g, decide_eq_true (List.mem_cons_of_mem _ g)]
      · rw [decide_eq_false g, decide_eq_false fun q => (List.mem_cons.mp q).elim (fun z => h z.symm) g]
theorem op_inI {X : Cx} : OpR X (compareOp .In) (fun x y H Q => ∃ (k : Int) (p : Addr) (ns : List Int), x = V.int k ∧ y = V.ref p ∧ H p = some (.lst (ns.map V.int)) ∧ Q (.bl (decide (k ∈ ns))) H) := by
  intro pins s σ H x y v u Q I rx ry h
  obtain ⟨k, p, ns, rfl, rfl, hp, q⟩ := h
  refine op_in_seq pins s σ H _ _ v u Q I rx ry ⟨p, _, rfl, .inl (SqL.of hp), rfl, flat_ints ns, ?_⟩
  rw [← in_ints] at q
  exact q
theorem op_notInI {X : Cx} : OpR X (compareOp .NotIn) (fun x y H Q => ∃ (k : Int) (p : Addr) (ns : List Int), x = V.int k ∧ y = V.ref p ∧ H p = some (.lst (ns.map V.int)) ∧ Q (.bl (!decide (k ∈ ns))) H) := by
  intro pins s σ H x y v u Q I rx ry h
  obtain ⟨k, p, ns, rfl, rfl, hp, q⟩ := h
  refine op_notIn_seq pins s σ H _ _ v u Q I rx ry ⟨p, _, rfl, .inl (SqL.of hp), rfl, flat_ints ns, ?_⟩
  rw [← in_ints] at q
  exact q
/-- different replicas -/
structure MemOk (n : Nat) (ms : List Int) : Prop where
  nd : ms.Nodup
  rg : ∀ x ∈ ms, 0 ≤ x ∧ x < (n : Int)
theorem MemOk.at {n : Nat} {ms : List Int} (h : MemOk n ms) {i : Int} (h0 : 0 ≤ i) (h1 : i < ((ms.length : Nat) : Int)) : ∃ x : Nat, atI (ms.map V.int) i = some (V.int (x : Int)) ∧ x < n ∧ ms[i.toNat]? = some (x : Int) := by
  have e := getD_some h0 h1
  have r := h.rg _ (List.mem_of_getElem? e)
  refine ⟨(ms.getD i.toNat 0).toNat, ?_, by omega, ?_⟩
  · rw [at_lit h0 h1]
    congr 2
    omega
  · rw [e]
    congr 1
    omega
theorem MemOk.ne {n : Nat} {ms : List Int} (h : MemOk n ms) {i j : Nat} {x y : Nat} (e1 : ms[i]? = some (x : Int)) (e2 : ms[j]? = some (y : Int)) (ne : i ≠ j) : x ≠ y := fun z => by
  subst z
  obtain ⟨h1, v1⟩ := List.getElem?_eq_some_iff.mp e1
  obtain ⟨h2, v2⟩ := List.getElem?_eq_some_iff.mp e2
  have pw := List.pairwise_iff_getElem.mp h.nd
  rcases Nat.lt_or_gt_of_ne ne with q | q
  · exact pw i j h1 h2 q (v1.trans v2.symm)
  · exact pw j i h2 h1 q (v2.trans v1.symm)
theorem MemOk.sub {n : Nat} {ms ks : List Int} (h : MemOk n ms) (s : List.Sublist ks ms) : MemOk n ks := ⟨h.nd.sublist s, fun x hx => h.rg x (s.subset hx)⟩
theorem MemOk.take {n : Nat} {ms : List Int} (h : MemOk n ms) (k : Nat) : MemOk n (ms.take k) := h.sub (List.take_sublist k ms)
theorem MemOk.drop {n : Nat} {ms : List Int} (h : MemOk n ms) (k : Nat) : MemOk n (ms.drop k) := h.sub (List.drop_sublist k ms)
def every (n : Nat) : List Int := (List.range n).map fun (x : Nat) => (x : Int)
theorem every_len (n : Nat) : (every n).length = n := by unfold every; rw [List.length_map, List.length_range]
theorem mem_every {n : Nat} {x : Int} : x ∈ every n ↔ 0 ≤ x ∧ x < (n : Int) := by
  unfold every
  rw [List.mem_map]
  constructor
  · rintro ⟨k, hk, rfl⟩
    have := List.mem_range.mp hk
    omega
  · rintro ⟨h0, h1⟩
    exact ⟨x.toNat, List.mem_range.mpr (by omega), by omega⟩
theorem every_ok (n : Nat) : MemOk n (every n) := ⟨by
  unfold every
  refine List.Pairwise.map (S := fun a b => a ≠ b) _ (fun a b (h : a ≠ b) => ?_) List.nodup_range
  omega, fun x hx => mem_every.mp hx⟩
theorem every_succ (n : Nat) : every (n + 1) = every n ++ [(n : Int)] := by
  unfold every
  rw [List.range_succ, List.map_append]
  rfl
/-- a table of some net -/
def TabI (n : Nat) (T : List Int) : Prop := ∃ R : Rel, IsTab n T R ∧ ∀ x y, x < n → y < n → R x y = true → x ≠ y
theorem TabI.len {n : Nat} {T : List Int} (h : TabI n T) : T.length = n * n := by
  obtain ⟨R, t, _⟩ := h
  exact t.len
theorem TabI.zero (n : Nat) : TabI n (List.replicate (n * n) 0) := ⟨_, IsTab.zero n, fun _ _ _ _ h => nomatch h⟩
theorem TabI.put {n : Nat} {T : List Int} (h : TabI n T) {x y : Nat} (hx : x < n) (hy : y < n) (ne : x ≠ y) : TabI n (T.set (x * n + y) 1) := by
  obtain ⟨R, t, ir⟩ := h
  refine ⟨_, t.set hx hy true (v := 1) rfl, fun a b ha hb r => ?_⟩
  by_cases e : a = x ∧ b = y
  · rw [e.1, e.2]
    exact ne
  · simp only [if_neg e] at r
    exact ir a b ha hb r
theorem TabI.cut {n : Nat} {T : List Int} (h : TabI n T) {x y : Nat} (hx : x < n) (hy : y < n) : TabI n (T.set (x * n + y) 0) := by
  obtain ⟨R, t, ir⟩ := h
  refine ⟨_, t.set hx hy false (v := 0) rfl, fun a b ha hb r => ?_⟩
  by_cases e : a = x ∧ b = y
  · simp only [if_pos e] at r
    cases r
  · simp only [if_neg e] at r
    exact ir a b ha hb r
theorem ixT {n x y : Nat} {T : List Int} (hT : T.length = n * n) (hx : x < n) (hy : y < n) : ixN T.length ((x : Int) * (n : Int) + (y : Int)) = some (x * n + y) := by
  have h := ix_lt hx hy
  have e : (x : Int) * (n : Int) + (y : Int) = ((x * n + y : Nat) : Int) := by rw [Int.natCast_add, Int.natCast_mul]
  unfold ixN
  rw [e, hT]
  rw [if_pos (by omega), if_pos (by omega)]
  rfl
/-- all is kept but what stands at b and at t -/
def Kq (b t : Addr) (H H' : Hp) : Prop := ∀ a o, a ≠ b → a ≠ t → H a = some o → H' a = some o
theorem Kq.refl {b t : Addr} {H : Hp} : Kq b t H H := fun _ _ _ _ h => h
theorem Kq.trans {b t : Addr} {H H1 H2 : Hp} (x : Kq b t H H1) (y : Kq b t H1 H2) : Kq b t H H2 := fun a o n m h => y a o n m (x a o n m h)
theorem Kq.of {b t : Addr} {H H1 : Hp} (x : Kp b H H1) : Kq b t H H1 := fun a o n _ h => x a o n h
theorem Kq.ofS {b t : Addr} {H H1 : Hp} (x : Same H H1) : Kq b t H H1 := fun a o _ _ h => x a o h
theorem Kq.new {b t p : Addr} {H H1 : Hp} {o : HO} (x : Kq b t H H1) (n : H1 p = none) : Kq b t H (upd H1 p o) := fun a u m k h => by
  have e := x a u m k h
  rw [upd_ne (ne_of_none e n)]
  exact e
theorem Kq.at {b t : Addr} {H H1 : Hp} {o : HO} (x : Kq b t H H1) : Kq b t H (upd H1 t o) := fun a u m k h => by
  rw [upd_ne k]
  exact x a u m k h
theorem Kq.mut {b t p : Addr} {H H1 : Hp} {o : HO} (x : Kq b t H H1) (n : H p = none) : Kq b t H (upd H1 p o) := fun a u m k h => by
  rw [upd_ne (ne_of_none h n)]
  exact x a u m k h
theorem prd_nil {ps : List (Int × Int)} (h : PyData.eqv (.list (ps.map prD)) (.list []) = false) : 1 ≤ ps.length := by
  cases ps with
  | nil => cases h
  | cons a r => exact Nat.le_add_left 1 _
theorem Kq.kp {b t : Addr} {H0 H H1 : Hp} (x : Kq b t H H1) (k : Kp b H0 H) (n : H0 t = none) : Kp b H0 H1 := fun a u m h => x a u m (ne_of_none h n) (k a u m h)
theorem Kq.get {b c t a : Addr} {H H' : Hp} {o : HO} (k : Kq b t H H') (x : BoxOk H b c) (h : H a = some o) (d : NB o) (m : a ≠ t) : H' a = some o := k a o (x.ne h d) m h
theorem BoxOk.tab {H : Hp} {b c t : Addr} {xs : List V} {ns : List Int} {o : HO} (x : BoxOk H b c) (h : H t = some (.lst (ns.map V.int))) (nc : t ≠ c) : BoxOk (upd H t o) b c := by
  have nb : t ≠ b := x.ne h nb_ints
  obtain ⟨ms, x1, x2, x3, x4, hb, hc, r⟩ := x
  exact ⟨ms, x1, x2, x3, x4, by rw [upd_ne nb.symm]; exact hb, by rw [upd_ne nc.symm]; exact hc, r⟩
end KI

end
section
set_option Elab.async false
set_option linter.all false
set_option maxRecDepth 100000
set_option maxHeartbeats 4000000
namespace K01
open PySem L2 Kit KR KX KI
local macro_rules | `(tactic| fail "om") => `(tactic| first | omega | (simp only [List.length_map, List.length_append, List.length_cons, List.length_nil]; omega) | (simp only [List.length_map, List.length_append, List.length_cons, List.length_nil] at *; omega) | assumption | decide | (simp only [List.length_take, List.length_drop]; omega) | (rw [every_len]; omega) | fail "no om")
local macro_rules | `(tactic| fail "nz") => `(tactic| first | decide | omega | fail "no nz")
local macro_rules | `(tactic| fail "dv") => `(tactic| exact ⟨by first | decide | omega, by first | decide | omega⟩)
local macro_rules | `(tactic| fail "mul") => `(tactic| first | exact .inr ⟨by decide, by decide⟩ | exact .inl ⟨by decide, by decide⟩ | exact mulF (by decide) (by decide) | exact .inl ⟨by omega, by omega⟩ | exact .inr ⟨by omega, by omega⟩ | fail "no mul")
local macro_rules | `(tactic| fail "sz") => `(tactic| first | assumption | exact Nat.zero_le _ | (show 1 ≤ sizeLine; decide) | (show 2 ≤ sizeLine; decide) | (show 3 ≤ sizeLine; decide) | (show 4 ≤ sizeLine; decide) | (show 5 ≤ sizeLine; decide) | exact Evl.sz_of (by omega) | (refine Evl.sz_of ?_; simp only [List.length_append, List.length_map, List.length_cons, List.length_nil]; omega) | (refine Evl.sz_of ?_; simp only [List.length_append, List.length_map, List.length_cons, List.length_nil, List.length_take, List.length_drop]; omega) | fail "no sz")
local macro_rules | `(tactic| fail "szl") => `(tactic| first | exact Evl.sz_lt (by omega) | (refine Evl.sz_lt ?_; simp only [List.length_append, List.length_map, List.length_cons, List.length_nil]; omega) | fail "no szl")
local macro_rules | `(tactic| fail "ix") => `(tactic| first | assumption | exact ix0 | exact ix1 | exact ix2 | exact at_ref (by assumption) (by omega) | exact at_int (by assumption) (by omega) | exact at_drawn (by assumption) (by assumption) | exact at_lit (by first | assumption | omega) (by fail "om") | rfl | fail "no ix")
local macro_rules | `(tactic| fail "ixn") => `(tactic| first | rfl | assumption | fail "no ixn")
local macro_rules | `(tactic| fail "nb") => `(tactic| first | assumption | exact nb_tup | exact nb_nil | exact nb_ints | exact nb_refs | exact nb_ins | exact nb_dT | exact nb_frz | fail "no nb")
local macro_rules | `(tactic| fail "ne") => `(tactic| first | assumption | exact Ne.symm (by assumption) | exact ne_of_none (by assumption) (by assumption) | exact (ne_of_none (by assumption) (by assumption)).symm | exact ne_of (by assumption) (by assumption) (by intro q; cases q) | exact ne_of (by assumption) (by assumption) (by simp) | fail "no ne")
local macro_rules | `(tactic| fail "hp") => `(tactic| first | assumption | exact upd_same | exact lit0 | exact lit1 | exact lit3 | exact lit2 | (refine' Tk.get (by assumption) ?k1; (case k1 => fail "tk")) | (with_reducible refine' upd_new ?h1 ?n1; (case n1 => assumption); (case h1 => fail "hp")) | (refine' Same.get (by assumption) ?h1; (case h1 => fail "hp")) | (refine' Kp.get (by assumption) (by fail "bx") ?h1 ?d1; (case h1 => fail "hp"); (case d1 => fail "nb")) | (with_reducible refine' upd_oth ?h1 ?n1; (case n1 => fail "ne"); (case h1 => fail "hp")) | (with_reducible refine' upd_oth ?h1 ?n1; (case h1 => fail "hp"); (case n1 => fail "ne")) | (refine' Kq.get (by assumption) (by fail "bx") ?h1 ?d1 (by fail "ne"); (case h1 => fail "hp"); (case d1 => fail "nb")) | fail "no hp")
local macro_rules | `(tactic| fail "bx") => `(tactic| first | assumption | (with_reducible refine' BoxOk.new ?h1 ?n1; (case n1 => assumption); (case h1 => fail "bx")) | (refine' BoxOk.same (by assumption) ?h1; (case h1 => fail "bx")) | (with_reducible refine' BoxOk.mut ?h1 ?h2 ?n1; (case n1 => assumption); (case h2 => assumption); (case h1 => fail "bx")) | fail "no bx")
local macro_rules | `(tactic| fail "kp") => `(tactic| first | assumption | exact Kp.refl | (with_reducible refine' Kp.at ?h1; (case h1 => fail "kp")) | (with_reducible refine' Kp.new ?h1 ?n1; (case n1 => assumption); (case h1 => fail "kp")) | (with_reducible refine' Kp.mut ?h1 ?n1; (case n1 => assumption); (case h1 => fail "kp")) | (refine' Kp.tr (by assumption) ?h1; (case h1 => fail "kp")) | (refine' Kp.tr (Kp.of (by assumption)) ?h1; (case h1 => fail "kp")) | (refine' Kq.kp (by assumption) ?h1 (by assumption); (case h1 => fail "kp")) | fail "no kp")
local macro_rules | `(tactic| fail "ite") => `(tactic| first | refine iteT ?_ | refine iteF ?_)
local macro_rules | `(tactic| fail "tt") => `(tactic| first | rfl | exact decide_eq_true (by first | rfl | omega | assumption) | exact decide_eq_true (congrArg V.int (by first | rfl | omega)) | fail "no tt")
local macro_rules | `(tactic| fail "cv") => `(tactic| first | exact .ty _ | exact .own _)
local macro_rules | `(tactic| fail "tx") => `(tactic| first | exact .base (.int _) | exact .base (.bl _) | exact .base .non | exact .base (.lst (by fail "hp")) | exact .base (.tup (by fail "hp")) | fail "no tx")
local macro_rules | `(tactic| fail "dead") => `(tactic| (exfalso; first | omega | contradiction | simp_all))
local macro_rules | `(tactic| fail "dp") => `(tactic| first | exact .tup (SqT.of (by fail "hp")) (.cons (.int _) (.cons (.int _) .nil)) | exact .lst (SqL.of (by fail "hp")) (dpPrs (by fail "pr")) | exact .lst (SqL.of (by fail "hp")) (dpInts _) | exact .lst (SqL.of (by fail "hp")) .nil | fail "no dp")
local macro_rules | `(tactic| fail "shp") => `(tactic| first | assumption | exact prD_shaped _ | exact PySem.W.ke_shaped_ints _ | rfl | fail "no shp")
local macro_rules | `(tactic| fail "pr") => `(tactic| first | assumption | exact PrT.mono (by assumption) (by fail "tk") | fail "no pr")
local macro_rules | `(tactic| fail "tk") => `(tactic| first | assumption | exact Tk.refl | (with_reducible refine' Tk.new ?h1 ?n1; (case n1 => assumption); (case h1 => fail "tk")) | (refine' Tk.tr (Kp.tk (by assumption) (by fail "bx")) ?h1; (case h1 => fail "tk")) | (refine' Tk.tr (Same.tk (by assumption)) ?h1; (case h1 => fail "tk")) | (with_reducible refine' Tk.lst ?h1 ?n1; (case n1 => fail "hp"); (case h1 => fail "tk")) | fail "no tk")
local macro_rules | `(tactic| fail "lk") => `(tactic| first | exact netF_count _ _ | exact netF_links _ _ | exact netF_no _ _ (by decide +kernel) (by decide +kernel) | fail "no lk")
local macro_rules | `(tactic| fail "kt") => `(tactic| first | exact upd_same | assumption | fail "hp")
local macro_rules | `(tactic| fail "na") => `(tactic| first | assumption | (with_reducible refine' NetAt.new ?h1 ?n1; (case n1 => assumption); (case h1 => fail "na")) | (refine' NetAt.same (by assumption) ?h1; (case h1 => fail "na")) | (refine' NetAt.kp (by assumption) (by fail "bx") ?h1; (case h1 => fail "na")) | (with_reducible refine' NetAt.lst ?h1 ?n1; (case n1 => fail "hp"); (case h1 => fail "na")) | fail "no na")
local macro_rules | `(tactic| fail "mono") => `(tactic| first | exact fun _ _ _ _ h q => h _ _ q | exact fun _ _ _ _ h q => (let ⟨v, e, z⟩ := q; ⟨v, e, h _ _ z⟩) | exact fun _ _ _ _ h q => (let ⟨v, e, u, f, z⟩ := q; ⟨v, e, u, f, h _ _ z⟩) | fail "no mono")
local macro_rules | `(tactic| fail "sm") => `(tactic| first | assumption | exact Same.refl _ | (with_reducible refine' Same.new ?h1 ?n1; (case n1 => assumption); (case h1 => fail "sm")) | (refine' Same.tr (by assumption) ?h1; (case h1 => fail "sm")) | fail "no sm")
local macro_rules | `(tactic| fail "fld") => `(tactic| first | (show 0 < 1000; decide) | (show 1 < 1000; decide) | fail "no fld")
local macro_rules | `(tactic| fail "kq") => `(tactic| first | assumption | exact Kq.refl | (with_reducible refine' Kq.at ?h1; (case h1 => fail "kq")) | (with_reducible refine' Kq.new ?h1 ?n1; (case n1 => assumption); (case h1 => fail "kq")) | (refine' Kq.trans ?h1 (by assumption); (case h1 => fail "kq")) | (refine' Kq.trans ?h1 (Kq.of (by assumption)); (case h1 => fail "kq")) | (refine' Kq.trans ?h1 (Kq.ofS (by assumption)); (case h1 => fail "kq")) | fail "no kq")
local macro_rules | `(tactic| fail "mo") => `(tactic| first | assumption | exact MemOk.take (by assumption) _ | exact MemOk.drop (by assumption) _ | exact every_ok _ | fail "no mo")

section
variable {P : Program} {w : World} {K : PySem.W.Frag} {mg : Str → Option Value} {base : Heap}

theorem perm_pop {ps os : List Int} {d : Nat} {x : Int} (h : ps[d]? = some x) : (ps.eraseIdx d ++ (os ++ [x])).Perm (ps ++ os) := by
  obtain ⟨hd, hx⟩ := List.getElem?_eq_some_iff.mp h
  have e : ps = ps.take d ++ x :: ps.drop (d + 1) := by
    rw [← hx, ← List.drop_eq_getElem_cons hd, List.take_append_drop]
  have p1 : (ps.eraseIdx d ++ (os ++ [x])).Perm (x :: (ps.eraseIdx d ++ os)) := by
    rw [← List.append_assoc]
    exact List.perm_append_singleton x _
  have p2 : (x :: ps.eraseIdx d).Perm ps := by
    rw [List.eraseIdx_eq_take_drop_succ]
    conv => rhs; rw [e]
    exact List.perm_middle.symm
  exact p1.trans (p2.append_right os)
theorem pop_len {ps : List Int} {d : Nat} (h : d < ps.length) : (ps.eraseIdx d).length + 1 = ps.length := by
  rw [List.length_eraseIdx, if_pos h]
  omega
abbrev sShuffle : Stmt := top 31
theorem scShuffle : FnScope ["box", "count", "k", "pool", "order"] ["box", "count"] (defScope sShuffle) := ⟨rfl, rfl, rfl, by decide +kernel, rfl, by decide +kernel, by decide +kernel⟩
def spShuffle : Sp := fun vs H Q _ => ∃ (b bc : Addr) (n : Nat), vs = [.ref b, .int (n : Int)] ∧ BoxOk H b bc ∧ n ≤ 24 ∧
  ∀ (p : Addr) (ms : List Int) (H' : Hp), MemOk n ms → ms.length = n → Kp b H H' → BoxOk H' b bc → H p = none → H' p = some (.lst (ms.map V.int)) → Q (.ref p) H'
theorem ok_Shuffle (D : Df K mg "_law_shuffle" sShuffle ["box", "count"]) (T : Txt K mg) (GDraw : C8.Cal P w K mg base 1 "_law_draw" spDraw []) : C8.Cal P w K mg base 2 "_law_shuffle" spShuffle [] := by
  obtain ⟨f, fd, F, hm, hb⟩ := D
  refine ⟨f, fd, ["box", "count"], [], F.ok scShuffle (fun vs H Q E h => ?_) (fun cdv A outer s H vs Q E hr h => ?_), hm, F.kp, hb, .nil⟩
  · obtain ⟨b, bc, n, rfl, bx, hn, k⟩ := h
    rfl
  · obtain ⟨b, bc, n, rfl, bx, hn, k⟩ := h
    refine ⟨_, (pss_cons (ps_setLc (i := 3) (own := [("k", 2)]) (g := gName 2) (tt := tYes) rfl scShuffle.nd rfl rfl (sw_true rfl rfl rfl (by decide +kernel)) (pi_range1 rfl T.range (pa_cons (pv 1) pa_nil)) (blkOk_by (N := ["box", "count", "k", "pool", "order"]) (sc := defScope sShuffle) (by decide +kernel)) (fun _ _ _ _ _ => (pg_name (i := 2) scShuffle.nd rfl (Or.inl rfl))) (fun _ _ _ _ _ => pts_nil) (fun _ _ _ _ _ => (pv 2)))
      (pss_cons (ps_set (i := 4) scShuffle.nd rfl (Or.inl rfl) (pe_lst pa_nil))
      (pss_cons (ps_for PassesOwn.never rfl (pi_range1 rfl T.range (pa_cons (pv 1) pa_nil)) (pg_name (i := 2) scShuffle.nd rfl (Or.inl rfl))
        (pss_one (ps_expr (pe_bm PySem.F.plainAttrs_list PySem.F.slot_list_append PySem.F.type_list_append mt_appendI (pv 4) (pa_cons (pe_bm PySem.F.plainAttrs_list PySem.F.slot_list_pop PySem.F.type_list_pop mt_popI (pv 3) (pa_cons (C8.pe_c GDraw hr (by decide) (by rfl) (pa_cons (pv 0) (pa_cons (pe_callB call_lenI (by rfl) T.len (by decide +kernel) (pa_cons (pv 3) pa_nil)) pa_nil))) pa_nil)) pa_nil)))))
      (pss_one (ps_ret (pv 4)))))), ?_⟩
    -- pool = [k for k in range(count)]
    refine ⟨_, rfl, _, rfl, (by fail "om"), (by fail "om"), fun D1 nD1 => lc_range (fun i H' => Same H H' ∧ H' D1 = some (.lst ((every i).map V.int))) ⟨Same.new (Same.refl _) nD1, upd_same⟩ (fun i H' hi z => by
      obtain ⟨sm, hD⟩ := z
      have hl : (every i).length ≤ 24 := by rw [every_len]; omega
      refine ⟨rfl, ?_⟩
      unfold tYes
      refine iteT ?_
      refine ⟨_, rfl, _, hD, Evl.sz_lt (by rw [List.length_map]; omega), Same.mut sm nD1, ?_⟩
      rw [upd_same, every_succ, List.map_append, Int.zero_add]
      rfl) (fun H' z => ?_)⟩
    obtain ⟨smE, hE⟩ := z
    have en : ((n : Int)).toNat = n := by omega
    rw [en] at hE
    -- order = []
    refine ⟨(by fail "sz"), fun p1 np1 => ?_⟩
    -- for k in range(count):
    refine ⟨_, rfl, _, rfl, (by fail "om"), (by fail "om"), for_range (fun i σ H2 => ∃ (v : Option V) (ps os : List Int), σ = [some (.ref b), some (.int (n : Int)), v, some (.ref D1), some (.ref p1)] ∧ Kp b H H2 ∧ BoxOk H2 b bc ∧ H2 D1 = some (.lst (ps.map V.int)) ∧ H2 p1 = some (.lst (os.map V.int)) ∧ (ps ++ os).Perm (every n) ∧ os.length = i ∧ ps.length + os.length = n) ⟨none, every n, [], rfl, Kp.new (Kp.of smE) np1, BoxOk.new (BoxOk.same smE bx) np1, upd_new hE np1, upd_same, by rw [List.append_nil], rfl, by rw [every_len]; rfl⟩ ?_ ?_⟩
    · rintro i σ Hi hi ⟨v, ps, os, rfl, kpi, bxi, hps, hos, pm, lo, ls⟩
      have npd : H p1 = none := free_back np1 smE
      have pne : p1 ≠ D1 := (ne_of_none hE np1).symm
      -- order.append(pool.pop(_law_draw(box, len(pool))))
      refine ⟨_, rfl, .inl ⟨rfl, _, SqL.of (by fail "hp")⟩, _, rfl, .inl ⟨rfl, _, SqL.of (by fail "hp")⟩, _, rfl, _, rfl, _, _, rfl, (by fail "hp"), _, _, _, rfl, (by fail "bx"), (by fail "om"), (by fail "om"), fun d2 H2 da2 db2 kp2 bx2 => ⟨_, _, _, rfl, rfl, (by fail "hp"), (by fail "om"), (by fail "om"), (by fail "om"), _, _, _, rfl, rfl, (by fail "hp"), (by fail "szl"), ?_⟩⟩
      have hdl : d2.toNat < ps.length := by omega
      have gx := getD_some (ns := ps) (d := d2) da2 (by omega)
      refine ⟨_, ps.eraseIdx d2.toNat, os ++ [_], rfl, Kp.mut (Kp.mut (Kp.trans kpi kp2) nD1) npd, BoxOk.mut (BoxOk.mut bx2 bx nD1) bx npd, ?_, upd_same, (perm_pop gx).trans pm, by rw [List.length_append, lo]; rfl, ?_⟩
      · rw [upd_ne pne.symm]
        exact upd_same
      · have := pop_len hdl
        rw [List.length_append]
        show (ps.eraseIdx d2.toNat).length + (os.length + 1) = n
        omega
    · rintro σ Hi ⟨v, ps, os, rfl, kpi, bxi, hps, hos, pm, lo, ls⟩
      have ps0 : ps = [] := List.eq_nil_of_length_eq_zero (by omega)
      subst ps0
      have mo : MemOk n os := ⟨pm.nodup_iff.mpr (every_ok n).nd, fun x hx => (every_ok n).rg x (pm.mem_iff.mp hx)⟩
      -- return order
      refine ⟨_, rfl, ?_⟩
      exact k _ os _ mo (by omega) kpi bxi (free_back np1 smE) hos
def PutQ (b bc t : Addr) (n : Nat) (H : Hp) (Q : VK) : Prop := ∀ (T' : List Int) (H' : Hp), Kq b t H H' → BoxOk H' b bc → H' t = some (.lst (T'.map V.int)) → TabI n T' → Q .non H'
abbrev sPutTree : Stmt := top 33
theorem scPutTree : FnScope ["box", "table", "count", "members", "shape", "k", "at"] ["box", "table", "count", "members"] (defScope sPutTree) := ⟨rfl, rfl, rfl, by decide +kernel, rfl, by decide +kernel, by decide +kernel⟩
def spPutTree : Sp := fun vs H Q _ => ∃ (b bc t m : Addr) (n : Nat) (M ms : List Int), vs = [.ref b, .ref t, .int (n : Int), .ref m] ∧ BoxOk H b bc ∧ 1 ≤ n ∧ n ≤ 24 ∧ H t = some (.lst (M.map V.int)) ∧ TabI n M ∧ t ≠ bc ∧ H m = some (.lst (ms.map V.int)) ∧ MemOk n ms ∧ ms.length ≤ 24 ∧ m ≠ t ∧ PutQ b bc t n H Q
theorem ok_PutTree (D : Df K mg "_law_put_tree" sPutTree ["box", "table", "count", "members"]) (T : Txt K mg) (GDraw : C8.Cal P w K mg base 1 "_law_draw" spDraw []) : C8.Cal P w K mg base 2 "_law_put_tree" spPutTree [] := by
  obtain ⟨f, fd, F, hm, hb⟩ := D
  refine ⟨f, fd, ["box", "table", "count", "members"], [], F.ok scPutTree (fun vs H Q E h => ?_) (fun cdv A outer s H vs Q E hr h => ?_), hm, F.kp, hb, .nil⟩
  · obtain ⟨b, bc, t, m, n, M, ms, rfl, bx, n1, n2, ht, tb, tc, hm, mo, ml, mt, k⟩ := h
    rfl
  · obtain ⟨b, bc, t, m, n, M, ms, rfl, bx, n1, n2, ht, tb, tc, hm, mo, ml, mt, k⟩ := h
    refine ⟨_, (pss_cons (ps_set (i := 4) scPutTree.nd rfl (Or.inl rfl) (C8.pe_c GDraw hr (by decide) (by rfl) (pa_cons (pv 0) (pa_cons pe_int pa_nil))))
      (pss_one (ps_for PassesOwn.never rfl (pi_range2 rfl T.range (pa_cons pe_int (pa_cons (pe_callB call_lenI (by rfl) T.len (by decide +kernel) (pa_cons (pv 3) pa_nil)) pa_nil))) (pg_name (i := 5) scPutTree.nd rfl (Or.inl rfl))
        (pss_cons (ps_set (i := 6) scPutTree.nd rfl (Or.inl rfl) pe_int)
        (C8.pss_cut (ps_if (pt_cmpR op_eq (pv 4) pe_int (nomark _))
          (pss_one (ps_set (i := 6) scPutTree.nd rfl (Or.inl rfl) (pe_op op_sub (pv 5) pe_int)))
          pss_nil)
        (C8.pss_cut (ps_if (pt_cmpR op_eq (pv 4) pe_int (nomark _))
          (pss_one (ps_set (i := 6) scPutTree.nd rfl (Or.inl rfl) (C8.pe_c GDraw hr (by decide) (by rfl) (pa_cons (pv 0) (pa_cons (pv 5) pa_nil)))))
          pss_nil)
        (pss_cons (ps_asg pe_int (pg_sub (pv 1) (pe_op op_add (pe_op op_mul (pe_ix ix_I (pv 3) (pv 6) (fun _ _ => rfl)) (pv 2)) (pe_ix ix_I (pv 3) (pv 5) (fun _ _ => rfl))) set_I))
        (pss_one (ps_asg pe_int (pg_sub (pv 1) (pe_op op_add (pe_op op_mul (pe_ix ix_I (pv 3) (pv 5) (fun _ _ => rfl)) (pv 2)) (pe_ix ix_I (pv 3) (pv 6) (fun _ _ => rfl))) set_I)))))))))), ?_⟩
    -- shape = _law_draw(box, 3)
    refine ⟨_, rfl, _, _, _, rfl, (by fail "bx"), (by fail "om"), (by fail "om"), fun d1 H1 da1 db1 kp1 bx1 => ?_⟩
    -- for k in range(1, len(members)):
    refine ⟨_, rfl, _, _, rfl, (by fail "hp"), _, _, rfl, ⟨by fail "om", by fail "om", by fail "om", by fail "om"⟩, for_range (fun i σ H2 => ∃ (v u : Option V) (Ti : List Int), σ = [some (.ref b), some (.ref t), some (.int (n : Int)), some (.ref m), some (.int d1), v, u] ∧ Kq b t H H2 ∧ BoxOk H2 b bc ∧ H2 t = some (.lst (Ti.map V.int)) ∧ TabI n Ti) ⟨none, none, M, rfl, Kq.of kp1, bx1, kp1.get bx ht nb_ints, tb⟩ ?_ ?_⟩
    · rintro i σ Hi hi ⟨v, u, Ti, rfl, kqi, bxi, hti, tbi⟩
      have hi2 : (i : Int) + 1 < ((ms.length : Nat) : Int) := by omega
      -- at = 0
      refine ⟨fun σ H2 => H2 = Hi ∧ ∃ a : Int, 0 ≤ a ∧ a < 1 + (i : Int) ∧ σ = [some (.ref b), some (.ref t), some (.int (n : Int)), some (.ref m), some (.int d1), some (.int (1 + (i : Int))), some (.int a)], ?_, ?_⟩
      · -- if shape == 1:
        refine ⟨_, rfl, rfl, _, rfl, ?_⟩
        refine ifEqI (fun g2 => ?_) (fun g2 => ?_)
        · -- at = k - 1
          refine ⟨_, rfl, _, _, rfl, rfl, ?_⟩
          exact ⟨rfl, _, by omega, by omega, rfl⟩
        · exact ⟨rfl, _, by omega, by omega, rfl⟩
      · rintro σ Hj ⟨rfl, a0, ha0, hb0, rfl⟩
        refine ⟨fun σ H2 => Kp b Hj H2 ∧ BoxOk H2 b bc ∧ ∃ a : Int, 0 ≤ a ∧ a < 1 + (i : Int) ∧ σ = [some (.ref b), some (.ref t), some (.int (n : Int)), some (.ref m), some (.int d1), some (.int (1 + (i : Int))), some (.int a)], ?_, ?_⟩
        · -- if shape == 2:
          refine ⟨_, rfl, rfl, _, rfl, ?_⟩
          refine ifEqI (fun g3 => ?_) (fun g3 => ?_)
          · -- at = _law_draw(box, k)
            refine ⟨_, rfl, _, rfl, _, _, _, rfl, (by fail "bx"), (by fail "om"), (by fail "om"), fun d4 H4 da4 db4 kp4 bx4 => ?_⟩
            exact ⟨by fail "kp", by fail "bx", _, by assumption, by omega, rfl⟩
          · exact ⟨Kp.refl, bxi, _, ha0, hb0, rfl⟩
        · rintro σ Hk ⟨kpj, bxj, a1, ha1, hb1, rfl⟩
          obtain ⟨x, ix1, hx, ex⟩ := mo.at (i := a1) ha1 (by omega)
          obtain ⟨y, ix2, hy, ey⟩ := mo.at (i := 1 + (i : Int)) (by omega) (by omega)
          have ne := mo.ne ex ey (by omega)
          have in1 := ixT tbi.len hx hy
          have in2 := ixT (tbi.put hx hy ne).len hy hx
          have tb2 := (tbi.put hx hy ne).put hy hx ne.symm
          have hmj : Hk m = some (.lst (ms.map V.int)) := kpj.get bxi (kqi.get bx hm nb_ints mt) nb_ints
          have htj : Hk t = some (.lst (Ti.map V.int)) := kpj.get bxi hti nb_ints
          -- table[members[at] * count + members[k]] = 1
          refine ⟨_, rfl, _, rfl, _, rfl, _, _, _, _, rfl, rfl, (by fail "hp"), (by fail "ix"), _, rfl, _, _, rfl, rfl, (by fail "mul"), _, rfl, _, rfl, _, _, _, _, rfl, rfl, (by fail "hp"), (by fail "ix"), _, _, rfl, rfl, _, _, _, _, _, rfl, rfl, rfl, (by fail "hp"), (by fail "ixn"), ?_⟩
          -- table[members[k] * count + members[at]] = 1
          refine ⟨_, rfl, _, rfl, _, rfl, _, _, _, _, rfl, rfl, (by fail "hp"), (by fail "ix"), _, rfl, _, _, rfl, rfl, (by fail "mul"), _, rfl, _, rfl, _, _, _, _, rfl, rfl, (by fail "hp"), (by fail "ix"), _, _, rfl, rfl, _, _, _, _, _, rfl, rfl, rfl, (by fail "hp"), (by fail "ixn"), ?_⟩
          exact ⟨_, _, _, rfl, Kq.at (Kq.at (kqi.trans (Kq.of kpj))), BoxOk.tab (xs := []) (BoxOk.tab (xs := []) bxj htj tc) upd_same tc, upd_same, tb2⟩
    · rintro σ Hi ⟨v, u, Ti, rfl, kqi, bxi, hti, tbi⟩
      exact k Ti _ kqi bxi hti tbi
end
end K01

end
section
set_option Elab.async false
set_option linter.all false
set_option maxRecDepth 100000
set_option maxHeartbeats 4000000
namespace K01
open PySem L2 Kit KR KX KI
local macro_rules | `(tactic| fail "om") => `(tactic| first | omega | (simp only [List.length_map, List.length_append, List.length_cons, List.length_nil]; omega) | (simp only [List.length_map, List.length_append, List.length_cons, List.length_nil] at *; omega) | assumption | decide | (simp only [List.length_take, List.length_drop]; omega) | (rw [every_len]; omega) | fail "no om")
local macro_rules | `(tactic| fail "nz") => `(tactic| first | decide | omega | fail "no nz")
local macro_rules | `(tactic| fail "dv") => `(tactic| exact ⟨by first | decide | omega, by first | decide | omega⟩)
local macro_rules | `(tactic| fail "mul") => `(tactic| first | exact .inr ⟨by decide, by decide⟩ | exact .inl ⟨by decide, by decide⟩ | exact mulF (by decide) (by decide) | exact .inl ⟨by omega, by omega⟩ | exact .inr ⟨by omega, by omega⟩ | fail "no mul")
local macro_rules | `(tactic| fail "sz") => `(tactic| first | assumption | exact Nat.zero_le _ | (show 1 ≤ sizeLine; decide) | (show 2 ≤ sizeLine; decide) | (show 3 ≤ sizeLine; decide) | (show 4 ≤ sizeLine; decide) | (show 5 ≤ sizeLine; decide) | exact Evl.sz_of (by omega) | (refine Evl.sz_of ?_; simp only [List.length_append, List.length_map, List.length_cons, List.length_nil]; omega) | (refine Evl.sz_of ?_; simp only [List.length_append, List.length_map, List.length_cons, List.length_nil, List.length_take, List.length_drop]; omega) | fail "no sz")
local macro_rules | `(tactic| fail "szl") => `(tactic| first | exact Evl.sz_lt (by omega) | (refine Evl.sz_lt ?_; simp only [List.length_append, List.length_map, List.length_cons, List.length_nil]; omega) | fail "no szl")
local macro_rules | `(tactic| fail "ix") => `(tactic| first | assumption | exact ix0 | exact ix1 | exact ix2 | exact at_ref (by assumption) (by omega) | exact at_int (by assumption) (by omega) | exact at_drawn (by assumption) (by assumption) | exact at_lit (by first | assumption | omega) (by fail "om") | rfl | fail "no ix")
local macro_rules | `(tactic| fail "ixn") => `(tactic| first | rfl | assumption | fail "no ixn")
local macro_rules | `(tactic| fail "nb") => `(tactic| first | assumption | exact nb_tup | exact nb_nil | exact nb_ints | exact nb_refs | exact nb_ins | exact nb_dT | exact nb_frz | fail "no nb")
local macro_rules | `(tactic| fail "ne") => `(tactic| first | assumption | exact Ne.symm (by assumption) | exact ne_of_none (by assumption) (by assumption) | exact (ne_of_none (by assumption) (by assumption)).symm | exact ne_of (by assumption) (by assumption) (by intro q; cases q) | exact ne_of (by assumption) (by assumption) (by simp) | fail "no ne")
local macro_rules | `(tactic| fail "hp") => `(tactic| first | assumption | exact upd_same | exact lit0 | exact lit1 | exact lit3 | exact lit2 | (refine' Tk.get (by assumption) ?k1; (case k1 => fail "tk")) | (with_reducible refine' upd_new ?h1 ?n1; (case n1 => assumption); (case h1 => fail "hp")) | (refine' Same.get (by assumption) ?h1; (case h1 => fail "hp")) | (refine' Kp.get (by assumption) (by fail "bx") ?h1 ?d1; (case h1 => fail "hp"); (case d1 => fail "nb")) | (with_reducible refine' upd_oth ?h1 ?n1; (case n1 => fail "ne"); (case h1 => fail "hp")) | (with_reducible refine' upd_oth ?h1 ?n1; (case h1 => fail "hp"); (case n1 => fail "ne")) | (refine' Kq.get (by assumption) (by fail "bx") ?h1 ?d1 (by fail "ne"); (case h1 => fail "hp"); (case d1 => fail "nb")) | fail "no hp")
local macro_rules | `(tactic| fail "bx") => `(tactic| first | assumption | (with_reducible refine' BoxOk.new ?h1 ?n1; (case n1 => assumption); (case h1 => fail "bx")) | (refine' BoxOk.same (by assumption) ?h1; (case h1 => fail "bx")) | (with_reducible refine' BoxOk.mut ?h1 ?h2 ?n1; (case n1 => assumption); (case h2 => assumption); (case h1 => fail "bx")) | fail "no bx")
local macro_rules | `(tactic| fail "kp") => `(tactic| first | assumption | exact Kp.refl | (with_reducible refine' Kp.at ?h1; (case h1 => fail "kp")) | (with_reducible refine' Kp.new ?h1 ?n1; (case n1 => assumption); (case h1 => fail "kp")) | (with_reducible refine' Kp.mut ?h1 ?n1; (case n1 => assumption); (case h1 => fail "kp")) | (refine' Kp.tr (by assumption) ?h1; (case h1 => fail "kp")) | (refine' Kp.tr (Kp.of (by assumption)) ?h1; (case h1 => fail "kp")) | (refine' Kq.kp (by assumption) ?h1 (by assumption); (case h1 => fail "kp")) | fail "no kp")
local macro_rules | `(tactic| fail "ite") => `(tactic| first | refine iteT ?_ | refine iteF ?_)
local macro_rules | `(tactic| fail "tt") => `(tactic| first | rfl | exact decide_eq_true (by first | rfl | omega | assumption) | exact decide_eq_true (congrArg V.int (by first | rfl | omega)) | fail "no tt")
local macro_rules | `(tactic| fail "cv") => `(tactic| first | exact .ty _ | exact .own _)
local macro_rules | `(tactic| fail "tx") => `(tactic| first | exact .base (.int _) | exact .base (.bl _) | exact .base .non | exact .base (.lst (by fail "hp")) | exact .base (.tup (by fail "hp")) | fail "no tx")
local macro_rules | `(tactic| fail "dead") => `(tactic| (exfalso; first | omega | contradiction | simp_all))
local macro_rules | `(tactic| fail "dp") => `(tactic| first | exact .tup (SqT.of (by fail "hp")) (.cons (.int _) (.cons (.int _) .nil)) | exact .lst (SqL.of (by fail "hp")) (dpPrs (by fail "pr")) | exact .lst (SqL.of (by fail "hp")) (dpInts _) | exact .lst (SqL.of (by fail "hp")) .nil | fail "no dp")
local macro_rules | `(tactic| fail "shp") => `(tactic| first | assumption | exact prD_shaped _ | exact PySem.W.ke_shaped_ints _ | rfl | fail "no shp")
local macro_rules | `(tactic| fail "pr") => `(tactic| first | assumption | exact PrT.mono (by assumption) (by fail "tk") | fail "no pr")
local macro_rules | `(tactic| fail "tk") => `(tactic| first | assumption | exact Tk.refl | (with_reducible refine' Tk.new ?h1 ?n1; (case n1 => assumption); (case h1 => fail "tk")) | (refine' Tk.tr (Kp.tk (by assumption) (by fail "bx")) ?h1; (case h1 => fail "tk")) | (refine' Tk.tr (Same.tk (by assumption)) ?h1; (case h1 => fail "tk")) | (with_reducible refine' Tk.lst ?h1 ?n1; (case n1 => fail "hp"); (case h1 => fail "tk")) | fail "no tk")
local macro_rules | `(tactic| fail "lk") => `(tactic| first | exact netF_count _ _ | exact netF_links _ _ | exact netF_no _ _ (by decide +kernel) (by decide +kernel) | fail "no lk")
local macro_rules | `(tactic| fail "kt") => `(tactic| first | exact upd_same | assumption | fail "hp")
local macro_rules | `(tactic| fail "na") => `(tactic| first | assumption | (with_reducible refine' NetAt.new ?h1 ?n1; (case n1 => assumption); (case h1 => fail "na")) | (refine' NetAt.same (by assumption) ?h1; (case h1 => fail "na")) | (refine' NetAt.kp (by assumption) (by fail "bx") ?h1; (case h1 => fail "na")) | (with_reducible refine' NetAt.lst ?h1 ?n1; (case n1 => fail "hp"); (case h1 => fail "na")) | fail "no na")
local macro_rules | `(tactic| fail "mono") => `(tactic| first | exact fun _ _ _ _ h q => h _ _ q | exact fun _ _ _ _ h q => (let ⟨v, e, z⟩ := q; ⟨v, e, h _ _ z⟩) | exact fun _ _ _ _ h q => (let ⟨v, e, u, f, z⟩ := q; ⟨v, e, u, f, h _ _ z⟩) | fail "no mono")
local macro_rules | `(tactic| fail "sm") => `(tactic| first | assumption | exact Same.refl _ | (with_reducible refine' Same.new ?h1 ?n1; (case n1 => assumption); (case h1 => fail "sm")) | (refine' Same.tr (by assumption) ?h1; (case h1 => fail "sm")) | fail "no sm")
local macro_rules | `(tactic| fail "fld") => `(tactic| first | (show 0 < 1000; decide) | (show 1 < 1000; decide) | fail "no fld")
local macro_rules | `(tactic| fail "kq") => `(tactic| first | assumption | exact Kq.refl | (with_reducible refine' Kq.at ?h1; (case h1 => fail "kq")) | (with_reducible refine' Kq.new ?h1 ?n1; (case n1 => assumption); (case h1 => fail "kq")) | (refine' Kq.trans ?h1 (by assumption); (case h1 => fail "kq")) | (refine' Kq.trans ?h1 (Kq.of (by assumption)); (case h1 => fail "kq")) | (refine' Kq.trans ?h1 (Kq.ofS (by assumption)); (case h1 => fail "kq")) | fail "no kq")
local macro_rules | `(tactic| fail "mo") => `(tactic| first | assumption | exact MemOk.take (by assumption) _ | exact MemOk.drop (by assumption) _ | exact every_ok _ | fail "no mo")

section
variable {P : Program} {w : World} {K : PySem.W.Frag} {mg : Str → Option Value} {base : Heap}

theorem tab_bit {n x y : Nat} {M : List Int} {R : Rel} (t : IsTab n M R) (hx : x < n) (hy : y < n) : atI (M.map V.int) ((x : Int) * (n : Int) + (y : Int)) = some (V.int (if R x y = true then 1 else 0)) := at_int (t.get x y hx hy) (by rw [Int.natCast_add, Int.natCast_mul])
def bitI (R : Rel) (x y : Nat) : Int := if R x y = true then 1 else 0
/-- the pairs of x with members below -/
def rowP (R : Rel) (th : Int) (x : Int) (ks : List Int) : List (Int × Int) := (ks.filter fun y => decide (x ≠ y) && decide (bitI R x.toNat y.toNat = th)).map fun y => (x, y)
def prs (R : Rel) (th : Int) (ms ks : List Int) : List (Int × Int) := ms.flatMap fun x => rowP R th x ks
theorem rowP_yes {R : Rel} {th x y : Int} {ks : List Int} (h1 : x ≠ y) (h2 : bitI R x.toNat y.toNat = th) : rowP R th x (ks ++ [y]) = rowP R th x ks ++ [(x, y)] := by
  unfold rowP
  rw [List.filter_append, List.map_append, List.filter_cons_of_pos (by rw [decide_eq_true h1, decide_eq_true h2]; rfl)]
  rfl
theorem rowP_no {R : Rel} {th x y : Int} {ks : List Int} (h : ¬ (x ≠ y ∧ bitI R x.toNat y.toNat = th)) : rowP R th x (ks ++ [y]) = rowP R th x ks := by
  unfold rowP
  rw [List.filter_append, List.map_append, List.filter_cons_of_neg (by intro q; rw [Bool.and_eq_true] at q; exact h ⟨of_decide_eq_true q.1, of_decide_eq_true q.2⟩)]
  exact List.append_nil _
theorem rowP_len (R : Rel) (th x : Int) (ks : List Int) : (rowP R th x ks).length ≤ ks.length := by
  unfold rowP
  rw [List.length_map]
  exact List.length_filter_le _ _
theorem prs_snoc (R : Rel) (th : Int) (ms ks : List Int) (x : Int) : prs R th (ms ++ [x]) ks = prs R th ms ks ++ rowP R th x ks := by
  unfold prs
  rw [List.flatMap_append]
  show _ ++ (rowP R th x ks ++ []) = _
  rw [List.append_nil]
theorem prs_len (R : Rel) (th : Int) (ks : List Int) : ∀ ms : List Int, (prs R th ms ks).length ≤ ms.length * ks.length
  | [] => by rw [List.length_nil, Nat.zero_mul]; exact Nat.le_refl 0
  | x :: r => by
    show (rowP R th x ks ++ prs R th r ks).length ≤ (r.length + 1) * ks.length
    rw [List.length_append, Nat.add_mul, Nat.one_mul]
    have := rowP_len R th x ks
    have := prs_len R th ks r
    omega
theorem mem_prs {R : Rel} {th : Int} {ms ks : List Int} {q : Int × Int} : q ∈ prs R th ms ks ↔ q.1 ∈ ms ∧ q.2 ∈ ks ∧ q.1 ≠ q.2 ∧ bitI R q.1.toNat q.2.toNat = th := by
  unfold prs rowP
  rw [List.mem_flatMap]
  constructor
  · rintro ⟨x, hx, hq⟩
    obtain ⟨y, hy, rfl⟩ := List.mem_map.mp hq
    obtain ⟨hy1, hy2⟩ := List.mem_filter.mp hy
    rw [Bool.and_eq_true] at hy2
    exact ⟨hx, hy1, of_decide_eq_true hy2.1, of_decide_eq_true hy2.2⟩
  · rintro ⟨h1, h2, h3, h4⟩
    exact ⟨q.1, h1, List.mem_map.mpr ⟨q.2, List.mem_filter.mpr ⟨h2, by rw [decide_eq_true h3, decide_eq_true h4]; rfl⟩, rfl⟩⟩
theorem take_at {α : Type} {l : List α} {i : Nat} {x : α} (h : l[i]? = some x) : l.take (i + 1) = l.take i ++ [x] := take_more' h
theorem item_of {ms : List Int} {i : Nat} {x : V} (h : (ms.map V.int)[i]? = some x) : ∃ k, ms[i]? = some k ∧ x = V.int k := by
  rw [List.getElem?_map] at h
  cases e : ms[i]? with
  | none => rw [e] at h; cases h
  | some k => rw [e] at h; exact ⟨k, rfl, (Option.some.inj h).symm⟩
theorem mul24 {a b : Nat} (h1 : a ≤ 24) (h2 : b ≤ 24) : a * b ≤ 576 := Nat.le_trans (Nat.mul_le_mul h1 h2) (by decide)
theorem ring_ne {s k : Int} (h1 : 1 < s) (h0 : 0 ≤ k) (hk : k < s) : (k + 1).fmod s ≠ k := by
  rw [Int.fmod_eq_emod_of_nonneg _ (by omega)]
  by_cases h : k + 1 < s
  · rw [Int.emod_eq_of_lt (by omega) h]
    omega
  · rw [show k + 1 = s from by omega, Int.emod_self]
    omega
abbrev sPairs : Stmt := top 32
theorem scPairs : FnScope ["count", "table", "members", "there", "pairs", "x", "y"] ["count", "table", "members", "there"] (defScope sPairs) := ⟨rfl, rfl, rfl, by decide +kernel, rfl, by decide +kernel, by decide +kernel⟩
def spPairs : Sp := fun vs H Q _ => ∃ (t m : Addr) (n : Nat) (M ms : List Int) (R : Rel) (th : Int), vs = [.int (n : Int), .ref t, .ref m, .int th] ∧ n ≤ 24 ∧ H t = some (.lst (M.map V.int)) ∧ IsTab n M R ∧ H m = some (.lst (ms.map V.int)) ∧ MemOk n ms ∧ ms.length ≤ 24 ∧
  ∀ (p : Addr) (as : List Addr) (H' : Hp), Same H H' → H p = none → H' p = some (.lst (as.map V.ref)) → PrT H' as (prs R th ms ms) → Q (.ref p) H'
theorem ok_Pairs (D : Df K mg "_law_pairs" sPairs ["count", "table", "members", "there"]) (T : Txt K mg) : C8.Cal P w K mg base 1 "_law_pairs" spPairs [] := by
  obtain ⟨f, fd, F, hm, hb⟩ := D
  refine ⟨f, fd, ["count", "table", "members", "there"], [], F.ok scPairs (fun vs H Q E h => ?_) (fun cdv A outer s H vs Q E hr h => ?_), hm, F.kp, hb, .nil⟩
  · obtain ⟨t, m, n, M, ms, R, th, rfl, n2, ht, tb, hm, mo, ml, k⟩ := h
    rfl
  · obtain ⟨t, m, n, M, ms, R, th, rfl, n2, ht, tb, hm, mo, ml, k⟩ := h
    refine ⟨_, (pss_cons (ps_set (i := 4) scPairs.nd rfl (Or.inl rfl) (pe_lst pa_nil))
      (pss_cons (ps_for PassesOwn.never rfl (pi_list (pv 2)) (pg_name (i := 5) scPairs.nd rfl (Or.inl rfl))
        (pss_one (ps_for PassesOwn.never rfl (pi_list (pv 2)) (pg_name (i := 6) scPairs.nd rfl (Or.inl rfl))
          (pss_one (ps_if (PW.pt (pw_and (pt_cmpR op_ne (pv 5) (pv 6) (nomark _)) (pw_and1 (pt_cmpR op_eq (pe_ix ix_I (pv 1) (pe_op op_add (pe_op op_mul (pv 5) (pv 0)) (pv 6)) (fun _ _ => rfl)) (pv 3) (nomark _)))))
            (pss_one (ps_expr (pe_bm PySem.F.plainAttrs_list PySem.F.slot_list_append PySem.F.type_list_append mt_append (pv 4) (pa_cons (pe_tup (pa_cons (pv 5) (pa_cons (pv 6) pa_nil))) pa_nil))))
            pss_nil)))))
      (pss_one (ps_ret (pv 4))))), ?_⟩
    -- pairs = []
    refine ⟨(by fail "sz"), fun p1 np1 => ?_⟩
    -- for x in members:
    refine ⟨_, rfl, _, rfl, ⟨_, SqL.of (by fail "hp")⟩, for_list (K := K) (a := m) (xs := ms.map V.int) (fun i σ H2 => ∃ (as : List Addr) (v u : Option V), σ = [some (.int (n : Int)), some (.ref t), some (.ref m), some (.int th), some (.ref p1), v, u] ∧ Same H H2 ∧ H2 p1 = some (.lst (as.map V.ref)) ∧ PrT H2 as (prs R th (ms.take i) ms)) ⟨[], none, none, rfl, Same.new (Same.refl H) np1, upd_same, PrT.nil⟩ (fun i σ H2 _ z => by obtain ⟨as, v, u, _, sm, _⟩ := z; exact SqL.of (sm _ _ hm)) ?_ ?_⟩
    · rintro i x0 σ Hi hx ⟨as, v, u, rfl, smi, hpi, pti⟩
      obtain ⟨x, ex, rfl⟩ := item_of hx
      have xr := mo.rg _ (List.mem_of_getElem? ex)
      have ilt : i < ms.length := (List.getElem?_eq_some_iff.mp ex).1
      -- for y in members:
      refine ⟨_, rfl, _, rfl, ⟨_, SqL.of (by fail "hp")⟩, for_list (K := K) (a := m) (xs := ms.map V.int) (fun j σ H2 => ∃ (bs : List Addr) (u : Option V), σ = [some (.int (n : Int)), some (.ref t), some (.ref m), some (.int th), some (.ref p1), some (.int x), u] ∧ Same H H2 ∧ H2 p1 = some (.lst (bs.map V.ref)) ∧ PrT H2 bs (prs R th (ms.take i) ms ++ rowP R th x (ms.take j))) ⟨as, u, rfl, smi, hpi, by show PrT _ as (_ ++ []); rw [List.append_nil]; exact pti⟩ (fun j σ H2 _ z => by obtain ⟨bs, u, _, sm, _⟩ := z; exact SqL.of (sm _ _ hm)) ?_ ?_⟩
      · rintro j y0 σ Hj hy ⟨bs, u2, rfl, smj, hpj, ptj⟩
        obtain ⟨y, ey, rfl⟩ := item_of hy
        have yr := mo.rg _ (List.mem_of_getElem? ey)
        have jlt : j < ms.length := (List.getElem?_eq_some_iff.mp ey).1
        obtain ⟨xn, ex2, hxn⟩ := toN xr.1 xr.2
        obtain ⟨yn, ey2, hyn⟩ := toN yr.1 yr.2
        have ixv : atI (M.map V.int) (x * (n : Int) + y) = some (V.int (bitI R x.toNat y.toNat)) := by
          rw [ex2, ey2, Int.toNat_natCast, Int.toNat_natCast]
          exact tab_bit tb hxn hyn
        have lb : (prs R th (ms.take i) ms ++ rowP R th x (ms.take j)).length ≤ 600 := by
          have q1 := prs_len R th ms (ms.take i)
          have q2 := rowP_len R th x (ms.take j)
          rw [List.length_take] at q1 q2
          have q3 := mul24 (a := min i ms.length) (b := ms.length) (by omega) ml
          rw [List.length_append]
          omega
        have lbs : bs.length ≤ 600 := by rw [ptj.1]; exact lb
        -- if x != y and table[x * count + y] == there:
        refine ⟨_, rfl, _, rfl, rfl, _, rfl, ?_⟩
        refine ifNeI (fun g2 => ?_) (fun g2 => ?_)
        · refine ⟨_, rfl, _, rfl, _, rfl, _, _, rfl, rfl, (by fail "mul"), _, rfl, _, _, rfl, rfl, _, _, _, _, rfl, rfl, (by fail "hp"), (by fail "ix"), _, rfl, rfl, _, rfl, ?_⟩
          refine ifEqI (fun g3 => ?_) (fun g3 => ?_)
          · -- pairs.append((x, y))
            refine ⟨_, rfl, .inl ⟨rfl, _, SqL.of (by fail "hp")⟩, _, rfl, _, rfl, (by fail "sz"), fun p4 np4 => ⟨_, _, _, rfl, rfl, (by fail "hp"), (by fail "szl"), ?_⟩⟩
            refine ⟨bs ++ [p4], _, rfl, Same.mut (Same.new smj np4) np1, by rw [upd_same, List.map_append]; rfl, ?_⟩
            rw [take_at ey, rowP_yes g2 g3, ← List.append_assoc]
            exact PrT.snoc (PrT.mono ptj (Tk.lst (Tk.new Tk.refl np4) (upd_new hpj np4))) (by rw [upd_ne (ne_of_none hpj np4).symm]; exact upd_same)
          · refine ⟨bs, _, rfl, smj, hpj, ?_⟩
            rw [take_at ey, rowP_no fun q => g3 q.2]
            exact ptj
        · fail "ite"
          refine ⟨bs, _, rfl, smj, hpj, ?_⟩
          rw [take_at ey, rowP_no fun q => q.1 g2]
          exact ptj
      · rintro σ Hj ⟨bs, u2, rfl, smj, hpj, ptj⟩
        refine ⟨bs, _, _, rfl, smj, hpj, ?_⟩
        rw [take_at ex, prs_snoc]
        rw [List.length_map, List.take_length] at ptj
        exact ptj
    · rintro σ Hi ⟨as, v, u, rfl, smi, hpi, pti⟩
      rw [List.length_map, List.take_length] at pti
      -- return pairs
      refine ⟨_, rfl, ?_⟩
      exact k _ _ _ smi np1 hpi pti
abbrev sPutRing : Stmt := top 34
theorem scPutRing : FnScope ["table", "count", "members", "size", "k"] ["table", "count", "members"] (defScope sPutRing) := ⟨rfl, rfl, rfl, by decide +kernel, rfl, by decide +kernel, by decide +kernel⟩
def spPutRing : Sp := fun vs H Q _ => ∃ (t m : Addr) (n : Nat) (M ms : List Int), vs = [.ref t, .int (n : Int), .ref m] ∧ 1 ≤ n ∧ n ≤ 24 ∧ H t = some (.lst (M.map V.int)) ∧ TabI n M ∧ H m = some (.lst (ms.map V.int)) ∧ MemOk n ms ∧ ms.length ≤ 24 ∧ m ≠ t ∧
  ∀ (M' : List Int) (H' : Hp), (∀ a o, a ≠ t → H a = some o → H' a = some o) → H' t = some (.lst (M'.map V.int)) → TabI n M' → Q .non H'
theorem ok_PutRing (D : Df K mg "_law_put_ring" sPutRing ["table", "count", "members"]) (T : Txt K mg) : C8.Cal P w K mg base 1 "_law_put_ring" spPutRing [] := by
  obtain ⟨f, fd, F, hm, hb⟩ := D
  refine ⟨f, fd, ["table", "count", "members"], [], F.ok scPutRing (fun vs H Q E h => ?_) (fun cdv A outer s H vs Q E hr h => ?_), hm, F.kp, hb, .nil⟩
  · obtain ⟨t, m, n, M, ms, rfl, n1, n2, ht, tb, hm, mo, ml, mt, k⟩ := h
    rfl
  · obtain ⟨t, m, n, M, ms, rfl, n1, n2, ht, tb, hm, mo, ml, mt, k⟩ := h
    refine ⟨_, (pss_cons (ps_set (i := 3) scPutRing.nd rfl (Or.inl rfl) (pe_callB call_lenI (by rfl) T.len (by decide +kernel) (pa_cons (pv 2) pa_nil)))
      (pss_one (ps_for PassesOwn.never rfl (pi_range1 rfl T.range (pa_cons (pv 3) pa_nil)) (pg_name (i := 4) scPutRing.nd rfl (Or.inl rfl))
        (pss_one (ps_if (pt_cmpR op_gt (pv 3) pe_int (nomark _))
          (pss_one (ps_asg pe_int (pg_sub (pv 0) (pe_op op_add (pe_op op_mul (pe_ix ix_I (pv 2) (pv 4) (fun _ _ => rfl)) (pv 1)) (pe_ix ix_I (pv 2) (pe_op op_modN (pe_callTy call_int1 (by rfl) T.int (by decide +kernel) (pa_cons (pe_op op_add (pv 4) pe_int) pa_nil)) (pv 3)) (fun _ _ => rfl))) set_I)))
          pss_nil))))), ?_⟩
    -- size = len(members)
    refine ⟨_, rfl, _, _, rfl, (by fail "hp"), ?_⟩
    -- for k in range(size):
    refine ⟨_, rfl, _, rfl, (by fail "om"), (by fail "om"), for_range (fun i σ H2 => ∃ (v : Option V) (Mi : List Int), σ = [some (.ref t), some (.int (n : Int)), some (.ref m), some (.int ((ms.length : Nat) : Int)), v] ∧ (∀ a o, a ≠ t → H a = some o → H2 a = some o) ∧ H2 t = some (.lst (Mi.map V.int)) ∧ TabI n Mi) ⟨none, M, rfl, fun _ _ _ h => h, ht, tb⟩ ?_ ?_⟩
    · rintro i σ Hi hi ⟨v, Mi, rfl, kti, hti, tbi⟩
      have hmi := kti m _ mt hm
      have hi2 : (i : Int) < ((ms.length : Nat) : Int) := by omega
      obtain ⟨x, ix1, hx, ex⟩ := mo.at (i := (0 : Int) + (i : Int)) (by omega) (by omega)
      obtain ⟨y, ix2, hy, ey⟩ := mo.at (i := ((0 : Int) + (i : Int) + 1).fmod ((ms.length : Nat) : Int)) (fm0 _ (by omega)) (fm1 _ (by omega))
      -- if size > 1:
      refine ⟨_, rfl, _, _, rfl, rfl, _, rfl, ?_⟩
      refine ifD (fun g1 => ?_) (fun g1 => ?_)
      · have nexy := mo.ne ex ey (fun z => ring_ne (s := ((ms.length : Nat) : Int)) (k := (0 : Int) + (i : Int)) (by omega) (by omega) (by omega) (by
          have q := fm0 ((0 : Int) + (i : Int) + 1) (n := ((ms.length : Nat) : Int)) (by omega)
          omega))
        have in1 := ixT tbi.len hx hy
        -- table[members[k] * count + members[int(k + 1) % size]] = 1
        refine ⟨_, rfl, _, rfl, _, rfl, _, _, _, _, rfl, rfl, (by fail "hp"), (by fail "ix"), _, rfl, _, _, rfl, rfl, (by fail "mul"), _, rfl, _, rfl, _, _, rfl, rfl, .inl ⟨_, rfl, _, rfl, _, _, rfl, rfl, (by fail "nz"), _, _, _, _, rfl, rfl, (by fail "hp"), (by fail "ix"), _, _, rfl, rfl, _, _, _, _, _, rfl, rfl, rfl, (by fail "hp"), (by fail "ixn"), ?_⟩⟩
        exact ⟨_, _, rfl, fun a o na h => by rw [upd_ne na]; exact kti a o na h, upd_same, tbi.put hx hy nexy⟩
      · exact ⟨_, Mi, rfl, kti, hti, tbi⟩
    · rintro σ Hi ⟨v, Mi, rfl, kti, hti, tbi⟩
      exact k Mi _ kti hti tbi
end
end K01

end
section
set_option Elab.async false
set_option linter.all false
set_option maxRecDepth 100000
set_option maxHeartbeats 4000000
namespace K01
open PySem L2 Kit KR KX KI
local macro_rules | `(tactic| fail "om") => `(tactic| first | omega | (simp only [List.length_map, List.length_append, List.length_cons, List.length_nil]; omega) | (simp only [List.length_map, List.length_append, List.length_cons, List.length_nil] at *; omega) | assumption | decide | (simp only [List.length_take, List.length_drop]; omega) | (rw [every_len]; omega) | fail "no om")
local macro_rules | `(tactic| fail "nz") => `(tactic| first | decide | omega | fail "no nz")
local macro_rules | `(tactic| fail "dv") => `(tactic| exact ⟨by first | decide | omega, by first | decide | omega⟩)
local macro_rules | `(tactic| fail "mul") => `(tactic| first | exact .inr ⟨by decide, by decide⟩ | exact .inl ⟨by decide, by decide⟩ | exact mulF (by decide) (by decide) | exact .inl ⟨by omega, by omega⟩ | exact .inr ⟨by omega, by omega⟩ | fail "no mul")
local macro_rules | `(tactic| fail "sz") => `(tactic| first | assumption | exact Nat.zero_le _ | (show 1 ≤ sizeLine; decide) | (show 2 ≤ sizeLine; decide) | (show 3 ≤ sizeLine; decide) | (show 4 ≤ sizeLine; decide) | (show 5 ≤ sizeLine; decide) | exact Evl.sz_of (by omega) | (refine Evl.sz_of ?_; simp only [List.length_append, List.length_map, List.length_cons, List.length_nil]; omega) | (refine Evl.sz_of ?_; simp only [List.length_append, List.length_map, List.length_cons, List.length_nil, List.length_take, List.length_drop]; omega) | fail "no sz")
local macro_rules | `(tactic| fail "szl") => `(tactic| first | exact Evl.sz_lt (by omega) | (refine Evl.sz_lt ?_; simp only [List.length_append, List.length_map, List.length_cons, List.length_nil]; omega) | fail "no szl")
local macro_rules | `(tactic| fail "ix") => `(tactic| first | assumption | exact ix0 | exact ix1 | exact ix2 | exact at_ref (by assumption) (by omega) | exact at_int (by assumption) (by omega) | exact at_drawn (by assumption) (by assumption) | exact at_lit (by first | assumption | omega) (by fail "om") | rfl | fail "no ix")
local macro_rules | `(tactic| fail "ixn") => `(tactic| first | rfl | assumption | fail "no ixn")
local macro_rules | `(tactic| fail "nb") => `(tactic| first | assumption | exact nb_tup | exact nb_nil | exact nb_ints | exact nb_refs | exact nb_ins | exact nb_dT | exact nb_frz | fail "no nb")
local macro_rules | `(tactic| fail "ne") => `(tactic| first | assumption | exact Ne.symm (by assumption) | exact ne_of_none (by assumption) (by assumption) | exact (ne_of_none (by assumption) (by assumption)).symm | exact ne_of (by assumption) (by assumption) (by intro q; cases q) | exact ne_of (by assumption) (by assumption) (by simp) | fail "no ne")
local macro_rules | `(tactic| fail "hp") => `(tactic| first | assumption | exact upd_same | exact lit0 | exact lit1 | exact lit3 | exact lit2 | (refine' Tk.get (by assumption) ?k1; (case k1 => fail "tk")) | (with_reducible refine' upd_new ?h1 ?n1; (case n1 => assumption); (case h1 => fail "hp")) | (refine' Same.get (by assumption) ?h1; (case h1 => fail "hp")) | (refine' Kp.get (by assumption) (by fail "bx") ?h1 ?d1; (case h1 => fail "hp"); (case d1 => fail "nb")) | (with_reducible refine' upd_oth ?h1 ?n1; (case n1 => fail "ne"); (case h1 => fail "hp")) | (with_reducible refine' upd_oth ?h1 ?n1; (case h1 => fail "hp"); (case n1 => fail "ne")) | (refine' Kq.get (by assumption) (by fail "bx") ?h1 ?d1 (by fail "ne"); (case h1 => fail "hp"); (case d1 => fail "nb")) | fail "no hp")
local macro_rules | `(tactic| fail "bx") => `(tactic| first | assumption | (with_reducible refine' BoxOk.new ?h1 ?n1; (case n1 => assumption); (case h1 => fail "bx")) | (refine' BoxOk.same (by assumption) ?h1; (case h1 => fail "bx")) | (with_reducible refine' BoxOk.mut ?h1 ?h2 ?n1; (case n1 => assumption); (case h2 => assumption); (case h1 => fail "bx")) | fail "no bx")
local macro_rules | `(tactic| fail "kp") => `(tactic| first | assumption | exact Kp.refl | (with_reducible refine' Kp.at ?h1; (case h1 => fail "kp")) | (with_reducible refine' Kp.new ?h1 ?n1; (case n1 => assumption); (case h1 => fail "kp")) | (with_reducible refine' Kp.mut ?h1 ?n1; (case n1 => assumption); (case h1 => fail "kp")) | (refine' Kp.tr (by assumption) ?h1; (case h1 => fail "kp")) | (refine' Kp.tr (Kp.of (by assumption)) ?h1; (case h1 => fail "kp")) | (refine' Kq.kp (by assumption) ?h1 (by assumption); (case h1 => fail "kp")) | fail "no kp")
local macro_rules | `(tactic| fail "ite") => `(tactic| first | refine iteT ?_ | refine iteF ?_)
local macro_rules | `(tactic| fail "tt") => `(tactic| first | rfl | exact decide_eq_true (by first | rfl | omega | assumption) | exact decide_eq_true (congrArg V.int (by first | rfl | omega)) | fail "no tt")
local macro_rules | `(tactic| fail "cv") => `(tactic| first | exact .ty _ | exact .own _)
local macro_rules | `(tactic| fail "tx") => `(tactic| first | exact .base (.int _) | exact .base (.bl _) | exact .base .non | exact .base (.lst (by fail "hp")) | exact .base (.tup (by fail "hp")) | fail "no tx")
local macro_rules | `(tactic| fail "dead") => `(tactic| (exfalso; first | omega | contradiction | simp_all))
local macro_rules | `(tactic| fail "dp") => `(tactic| first | exact .tup (SqT.of (by fail "hp")) (.cons (.int _) (.cons (.int _) .nil)) | exact .lst (SqL.of (by fail "hp")) (dpPrs (by fail "pr")) | exact .lst (SqL.of (by fail "hp")) (dpInts _) | exact .lst (SqL.of (by fail "hp")) .nil | fail "no dp")
local macro_rules | `(tactic| fail "shp") => `(tactic| first | assumption | exact prD_shaped _ | exact PySem.W.ke_shaped_ints _ | rfl | fail "no shp")
local macro_rules | `(tactic| fail "pr") => `(tactic| first | assumption | exact PrT.mono (by assumption) (by fail "tk") | fail "no pr")
local macro_rules | `(tactic| fail "tk") => `(tactic| first | assumption | exact Tk.refl | (with_reducible refine' Tk.new ?h1 ?n1; (case n1 => assumption); (case h1 => fail "tk")) | (refine' Tk.tr (Kp.tk (by assumption) (by fail "bx")) ?h1; (case h1 => fail "tk")) | (refine' Tk.tr (Same.tk (by assumption)) ?h1; (case h1 => fail "tk")) | (with_reducible refine' Tk.lst ?h1 ?n1; (case n1 => fail "hp"); (case h1 => fail "tk")) | fail "no tk")
local macro_rules | `(tactic| fail "lk") => `(tactic| first | exact netF_count _ _ | exact netF_links _ _ | exact netF_no _ _ (by decide +kernel) (by decide +kernel) | fail "no lk")
local macro_rules | `(tactic| fail "kt") => `(tactic| first | exact upd_same | assumption | fail "hp")
local macro_rules | `(tactic| fail "na") => `(tactic| first | assumption | (with_reducible refine' NetAt.new ?h1 ?n1; (case n1 => assumption); (case h1 => fail "na")) | (refine' NetAt.same (by assumption) ?h1; (case h1 => fail "na")) | (refine' NetAt.kp (by assumption) (by fail "bx") ?h1; (case h1 => fail "na")) | (with_reducible refine' NetAt.lst ?h1 ?n1; (case n1 => fail "hp"); (case h1 => fail "na")) | fail "no na")
local macro_rules | `(tactic| fail "mono") => `(tactic| first | exact fun _ _ _ _ h q => h _ _ q | exact fun _ _ _ _ h q => (let ⟨v, e, z⟩ := q; ⟨v, e, h _ _ z⟩) | exact fun _ _ _ _ h q => (let ⟨v, e, u, f, z⟩ := q; ⟨v, e, u, f, h _ _ z⟩) | fail "no mono")
local macro_rules | `(tactic| fail "sm") => `(tactic| first | assumption | exact Same.refl _ | (with_reducible refine' Same.new ?h1 ?n1; (case n1 => assumption); (case h1 => fail "sm")) | (refine' Same.tr (by assumption) ?h1; (case h1 => fail "sm")) | fail "no sm")
local macro_rules | `(tactic| fail "fld") => `(tactic| first | (show 0 < 1000; decide) | (show 1 < 1000; decide) | fail "no fld")
local macro_rules | `(tactic| fail "kq") => `(tactic| first | assumption | exact Kq.refl | (with_reducible refine' Kq.at ?h1; (case h1 => fail "kq")) | (with_reducible refine' Kq.new ?h1 ?n1; (case n1 => assumption); (case h1 => fail "kq")) | (refine' Kq.trans ?h1 (by assumption); (case h1 => fail "kq")) | (refine' Kq.trans ?h1 (Kq.of (by assumption)); (case h1 => fail "kq")) | (refine' Kq.trans ?h1 (Kq.ofS (by assumption)); (case h1 => fail "kq")) | fail "no kq")
local macro_rules | `(tactic| fail "mo") => `(tactic| first | assumption | exact MemOk.take (by assumption) _ | exact MemOk.drop (by assumption) _ | exact every_ok _ | fail "no mo")

section
variable {P : Program} {w : World} {K : PySem.W.Frag} {mg : Str → Option Value} {base : Heap}

theorem BoxOk.kt {H H' : Hp} {b c t : Addr} {ns : List Int} (x : BoxOk H b c) (k : ∀ a o, a ≠ t → H a = some o → H' a = some o) (h : H t = some (.lst (ns.map V.int))) (nc : t ≠ c) : BoxOk H' b c := by
  have nb : t ≠ b := x.ne h nb_ints
  obtain ⟨ms, x1, x2, x3, x4, hb, hc, r⟩ := x
  exact ⟨ms, x1, x2, x3, x4, k b _ nb.symm hb, k c _ nc.symm hc, r⟩
theorem Kq.kt {H H' : Hp} {b t : Addr} (k : ∀ a o, a ≠ t → H a = some o → H' a = some o) : Kq b t H H' := fun a o _ m h => k a o m h
abbrev sPutDrawn : Stmt := top 35
theorem scPutDrawn : FnScope ["box", "table", "count", "both", "k", "source", "reader"] ["box", "table", "count", "both"] (defScope sPutDrawn) := ⟨rfl, rfl, rfl, by decide +kernel, rfl, by decide +kernel, by decide +kernel⟩
def spPutDrawn : Sp := fun vs H Q _ => ∃ (b bc t : Addr) (n : Nat) (M : List Int) (both : Bool), vs = [.ref b, .ref t, .int (n : Int), .bl both] ∧ BoxOk H b bc ∧ 1 ≤ n ∧ n ≤ 24 ∧ H t = some (.lst (M.map V.int)) ∧ TabI n M ∧ t ≠ bc ∧ PutQ b bc t n H Q
theorem ok_PutDrawn (D : Df K mg "_law_put_drawn" sPutDrawn ["box", "table", "count", "both"]) (T : Txt K mg) (GDraw : C8.Cal P w K mg base 1 "_law_draw" spDraw []) : C8.Cal P w K mg base 2 "_law_put_drawn" spPutDrawn [] := by
  obtain ⟨f, fd, F, hm, hb⟩ := D
  refine ⟨f, fd, ["box", "table", "count", "both"], [], F.ok scPutDrawn (fun vs H Q E h => ?_) (fun cdv A outer s H vs Q E hr h => ?_), hm, F.kp, hb, .nil⟩
  · obtain ⟨b, bc, t, n, M, both, rfl, bx, n1, n2, ht, tb, tc, k⟩ := h
    rfl
  · obtain ⟨b, bc, t, n, M, both, rfl, bx, n1, n2, ht, tb, tc, k⟩ := h
    refine ⟨_, (pss_one (ps_for PassesOwn.never rfl (pi_range1 rfl T.range (pa_cons (C8.pe_c GDraw hr (by decide) (by rfl) (pa_cons (pv 0) (pa_cons (pe_op op_add (pe_op op_mul pe_int (pv 2)) pe_int) pa_nil))) pa_nil)) (pg_name (i := 4) scPutDrawn.nd rfl (Or.inl rfl))
        (pss_one (ps_if (pt_cmpR op_gt (pv 2) pe_int (nomark _))
          (pss_cons (ps_set (i := 5) scPutDrawn.nd rfl (Or.inl rfl) (C8.pe_c GDraw hr (by decide) (by rfl) (pa_cons (pv 0) (pa_cons (pv 2) pa_nil))))
          (pss_cons (ps_set (i := 6) scPutDrawn.nd rfl (Or.inl rfl) (pe_op op_modN (pe_callTy call_int1 (by rfl) T.int (by decide +kernel) (pa_cons (pe_op op_add (pe_op op_add (pv 5) pe_int) (C8.pe_c GDraw hr (by decide) (by rfl) (pa_cons (pv 0) (pa_cons (pe_op op_sub (pv 2) pe_int) pa_nil)))) pa_nil)) (pv 2)))
          (pss_cons (ps_asg pe_int (pg_sub (pv 1) (pe_op op_add (pe_op op_mul (pv 5) (pv 2)) (pv 6)) set_I))
          (pss_one (ps_if (pt_val (pv 3))
            (pss_one (ps_asg pe_int (pg_sub (pv 1) (pe_op op_add (pe_op op_mul (pv 6) (pv 2)) (pv 5)) set_I)))
            pss_nil)))))
          pss_nil)))), ?_⟩
    -- for k in range(_law_draw(box, 3 * count + 1)):
    refine ⟨_, rfl, _, rfl, _, _, rfl, rfl, (by fail "mul"), _, _, rfl, rfl, _, _, _, rfl, (by fail "bx"), (by fail "om"), (by fail "om"), fun d1 H1 da1 db1 kp1 bx1 => ⟨_, rfl, (by fail "om"), (by fail "om"), for_range (fun i σ H2 => ∃ (v u w : Option V) (Mi : List Int), σ = [some (.ref b), some (.ref t), some (.int (n : Int)), some (.bl both), v, u, w] ∧ Kq b t H H2 ∧ BoxOk H2 b bc ∧ H2 t = some (.lst (Mi.map V.int)) ∧ TabI n Mi) ⟨none, none, none, M, rfl, Kq.of kp1, bx1, kp1.get bx ht nb_ints, tb⟩ ?_ ?_⟩⟩
    · rintro i σ Hi hi ⟨v, u, w, Mi, rfl, kqi, bxi, hti, tbi⟩
      -- if count > 1:
      refine ⟨_, rfl, _, _, rfl, rfl, _, rfl, ?_⟩
      refine ifD (fun g2 => ?_) (fun g2 => ?_)
      · -- source = _law_draw(box, count)
        refine ⟨_, rfl, _, rfl, _, _, _, rfl, (by fail "bx"), (by fail "om"), (by fail "om"), fun d3 H3 da3 db3 kp3 bx3 => ?_⟩
        -- reader = int(source + 1 + _law_draw(box, count - 1)) % count
        refine ⟨_, rfl, _, _, rfl, rfl, _, rfl, _, rfl, _, _, rfl, rfl, _, _, _, rfl, (by fail "bx"), (by fail "om"), (by fail "om"), fun d4 H4 da4 db4 kp4 bx4 => ⟨_, _, rfl, rfl, .inl ⟨_, rfl, _, rfl, _, _, rfl, rfl, (by fail "nz"), ?_⟩⟩⟩
        obtain ⟨x, ex, hx⟩ := toN da3 db3
        obtain ⟨y, ey, hy⟩ := toN (fm0 (d3 + 1 + d4) (n := (n : Int)) (by omega)) (fm1 (d3 + 1 + d4) (n := (n : Int)) (by omega))
        have ne : x ≠ y := fun z => pair_ne da3 db3 da4 (by omega) (n := (n : Int)) (by rw [ey, ex, z])
        have in1 := ixT tbi.len hx hy
        have in2 := ixT (tbi.put hx hy ne).len hy hx
        rw [← ex, ← ey] at in1 in2
        have tb2 := (tbi.put hx hy ne).put hy hx ne.symm
        have htj := kp4.get bx3 (kp3.get bxi hti nb_ints) nb_ints
        -- table[source * count + reader] = 1
        refine ⟨_, rfl, _, rfl, _, rfl, _, _, rfl, rfl, (by fail "mul"), _, rfl, _, _, rfl, rfl, _, _, _, _, _, rfl, rfl, rfl, (by fail "hp"), (by fail "ixn"), ?_⟩
        -- if both:
        refine ⟨_, rfl, _, rfl, ?_⟩
        refine ifB (fun g5 => ?_) (fun g5 => ?_)
        · -- table[reader * count + source] = 1
          refine ⟨_, rfl, _, rfl, _, rfl, _, _, rfl, rfl, (by fail "mul"), _, rfl, _, _, rfl, rfl, _, _, _, _, _, rfl, rfl, rfl, (by fail "hp"), (by fail "ixn"), ?_⟩
          exact ⟨_, _, _, _, rfl, Kq.at (Kq.at (kqi.trans (Kq.of (kp3.trans kp4)))), BoxOk.tab (xs := []) (BoxOk.tab (xs := []) bx4 htj tc) upd_same tc, upd_same, tb2⟩
        · exact ⟨_, _, _, _, rfl, Kq.at (kqi.trans (Kq.of (kp3.trans kp4))), BoxOk.tab (xs := []) bx4 htj tc, upd_same, tbi.put hx hy ne⟩
      · exact ⟨_, _, _, Mi, rfl, kqi, bxi, hti, tbi⟩
    · rintro σ Hi ⟨v, u, w, Mi, rfl, kqi, bxi, hti, tbi⟩
      exact k Mi _ kqi bxi hti tbi
abbrev sPutTwo : Stmt := top 38
theorem scPutTwo : FnScope ["box", "table", "count", "order", "cut"] ["box", "table", "count", "order"] (defScope sPutTwo) := ⟨rfl, rfl, rfl, by decide +kernel, rfl, by decide +kernel, by decide +kernel⟩
def spPutTwo : Sp := fun vs H Q _ => ∃ (b bc t m : Addr) (n : Nat) (M ms : List Int), vs = [.ref b, .ref t, .int (n : Int), .ref m] ∧ BoxOk H b bc ∧ 1 ≤ n ∧ n ≤ 24 ∧ H t = some (.lst (M.map V.int)) ∧ TabI n M ∧ t ≠ bc ∧ H m = some (.lst (ms.map V.int)) ∧ MemOk n ms ∧ ms.length ≤ 24 ∧ m ≠ t ∧ ms.length = n ∧ PutQ b bc t n H Q
theorem ok_PutTwo (D : Df K mg "_law_put_two_rings" sPutTwo ["box", "table", "count", "order"]) (T : Txt K mg) (GDraw : C8.Cal P w K mg base 1 "_law_draw" spDraw []) (GPutRing : C8.Cal P w K mg base 1 "_law_put_ring" spPutRing []) : C8.Cal P w K mg base 2 "_law_put_two_rings" spPutTwo [] := by
  obtain ⟨f, fd, F, hm, hb⟩ := D
  refine ⟨f, fd, ["box", "table", "count", "order"], [], F.ok scPutTwo (fun vs H Q E h => ?_) (fun cdv A outer s H vs Q E hr h => ?_), hm, F.kp, hb, .nil⟩
  · obtain ⟨b, bc, t, m, n, M, ms, rfl, bx, n1, n2, ht, tb, tc, hm, mo, ml, mt, mn, k⟩ := h
    rfl
  · obtain ⟨b, bc, t, m, n, M, ms, rfl, bx, n1, n2, ht, tb, tc, hm, mo, ml, mt, mn, k⟩ := h
    refine ⟨_, (pss_cons (ps_set (i := 4) scPutTwo.nd rfl (Or.inl rfl) (C8.pe_c GDraw hr (by decide) (by rfl) (pa_cons (pv 0) (pa_cons (pe_op op_add (pv 2) pe_int) pa_nil))))
      (pss_cons (ps_expr (C8.pe_c GPutRing hr (by decide) (by rfl) (pa_cons (pv 1) (pa_cons (pv 2) (pa_cons (pe_slice sl_to (pv 3) po_none (po_some (pv 4))) pa_nil)))))
      (pss_cons (ps_expr (C8.pe_c GPutRing hr (by decide) (by rfl) (pa_cons (pv 1) (pa_cons (pv 2) (pa_cons (pe_slice sl_from (pv 3) (po_some (pv 4)) po_none) pa_nil)))))
      (pss_one (ps_if (pt_chain op_lt op_lt pe_int (pv 4) (pv 2))
        (pss_one (ps_asg pe_int (pg_sub (pv 1) (pe_op op_add (pe_op op_mul (pe_ix ix_I (pv 3) (C8.pe_c GDraw hr (by decide) (by rfl) (pa_cons (pv 0) (pa_cons (pv 4) pa_nil))) (fun _ _ => rfl)) (pv 2)) (pe_ix ix_I (pv 3) (pv 4) (fun _ _ => rfl))) set_I)))
        pss_nil))))), ?_⟩
    -- cut = _law_draw(box, count + 1)
    refine ⟨_, rfl, _, rfl, _, _, rfl, rfl, _, _, _, rfl, (by fail "bx"), (by fail "om"), (by fail "om"), fun d1 H1 da1 db1 kp1 bx1 => ?_⟩
    have ht1 := kp1.get bx ht nb_ints
    have hm1 := kp1.get bx hm nb_ints
    -- _law_put_ring(table, count, order[:cut])
    refine ⟨_, rfl, _, rfl, _, rfl, _, rfl, _, rfl, _, _, _, rfl, rfl, rfl, (by fail "om"), SqL.of (by fail "hp"), fun p3 np3 => ⟨_, _, _, _, _, rfl, (by fail "om"), (by fail "om"), (by fail "hp"), (by assumption), (by fail "hp"), (by fail "mo"), (by fail "om"), (by fail "ne"), fun M2 H2 kt2 ht2 tb2 => ?_⟩⟩
    have bx2 := BoxOk.kt (BoxOk.new bx1 np3) kt2 (upd_new ht1 np3) tc
    have hm2 := kt2 m _ mt (upd_new hm1 np3)
    -- _law_put_ring(table, count, order[cut:])
    refine ⟨_, rfl, _, rfl, _, rfl, _, rfl, _, rfl, _, _, _, rfl, rfl, rfl, (by fail "om"), SqL.of (by fail "hp"), fun p5 np5 => ⟨_, _, _, _, _, rfl, (by fail "om"), (by fail "om"), (by fail "hp"), (by assumption), (by fail "hp"), (by fail "mo"), (by fail "om"), (by fail "ne"), fun M4 H4 kt4 ht4 tb4 => ?_⟩⟩
    have bx4 := BoxOk.kt (BoxOk.new bx2 np5) kt4 (upd_new ht2 np5) tc
    have hm4 := kt4 m _ mt (upd_new hm2 np5)
    have kq4 : Kq b t H H4 := ((Kq.of kp1).new np3).trans ((Kq.kt kt2).trans (((Kq.refl (b := b) (t := t)).new np5).trans (Kq.kt kt4)))
    -- if 0 < cut < count:
    refine ⟨_, rfl, _, _, rfl, rfl, _, rfl, ?_⟩
    refine ifD (fun g6 => ?_) (fun g6 => ?_)
    · refine ⟨_, rfl, _, _, rfl, rfl, _, rfl, ?_⟩
      refine ifD (fun g7 => ?_) (fun g7 => ?_)
      · -- table[order[_law_draw(box, cut)] * count + order[cut]] = 1
        refine ⟨_, rfl, _, rfl, _, rfl, _, rfl, _, _, _, rfl, (by fail "bx"), (by fail "om"), (by fail "om"), fun d8 H8 da8 db8 kp8 bx8 => ?_⟩
        obtain ⟨x, ix1, hx, ex⟩ := mo.at (i := d8) da8 (by omega)
        obtain ⟨y, ix2, hy, ey⟩ := mo.at (i := d1) da1 (by omega)
        have ne := mo.ne ex ey (by omega)
        have in1 := ixT tb4.len hx hy
        have htj := kp8.get bx4 ht4 nb_ints
        refine ⟨_, _, _, _, rfl, rfl, (by fail "hp"), (by fail "ix"), _, rfl, _, _, rfl, rfl, (by fail "mul"), _, rfl, _, rfl, _, _, _, _, rfl, rfl, (by fail "hp"), (by fail "ix"), _, _, rfl, rfl, _, _, _, _, _, rfl, rfl, rfl, (by fail "hp"), (by fail "ixn"), ?_⟩
        exact k _ _ (Kq.at (kq4.trans (Kq.of kp8))) (BoxOk.tab (xs := []) bx8 htj tc) upd_same (tb4.put hx hy ne)
      · exact k M4 _ kq4 bx4 ht4 tb4
    · refine ⟨_, rfl, ?_⟩
      fail "ite"
      exact k M4 _ kq4 bx4 ht4 tb4
end
end K01

end
section
set_option Elab.async false
set_option linter.all false
set_option maxRecDepth 100000
set_option maxHeartbeats 4000000
namespace K01
open PySem L2 Kit KR KX KI
local macro_rules | `(tactic| fail "om") => `(tactic| first | omega | (simp only [List.length_map, List.length_append, List.length_cons, List.length_nil]; omega) | (simp only [List.length_map, List.length_append, List.length_cons, List.length_nil] at *; omega) | assumption | decide | (simp only [List.length_take, List.length_drop]; omega) | (rw [every_len]; omega) | fail "no om")
local macro_rules | `(tactic| fail "nz") => `(tactic| first | decide | omega | fail "no nz")
local macro_rules | `(tactic| fail "dv") => `(tactic| exact ⟨by first | decide | omega, by first | decide | omega⟩)
local macro_rules | `(tactic| fail "mul") => `(tactic| first | exact .inr ⟨by decide, by decide⟩ | exact .inl ⟨by decide, by decide⟩ | exact mulF (by decide) (by decide) | exact .inl ⟨by omega, by omega⟩ | exact .inr ⟨by omega, by omega⟩ | fail "no mul")
local macro_rules | `(tactic| fail "sz") => `(tactic| first | assumption | exact Nat.zero_le _ | (show 1 ≤ sizeLine; decide) | (show 2 ≤ sizeLine; decide) | (show 3 ≤ sizeLine; decide) | (show 4 ≤ sizeLine; decide) | (show 5 ≤ sizeLine; decide) | exact Evl.sz_of (by omega) | (refine Evl.sz_of ?_; simp only [List.length_append, List.length_map, List.length_cons, List.length_nil]; omega) | (refine Evl.sz_of ?_; simp only [List.length_append, List.length_map, List.length_cons, List.length_nil, List.length_take, List.length_drop]; omega) | fail "no sz")
local macro_rules | `(tactic| fail "szl") => `(tactic| first | exact Evl.sz_lt (by omega) | (refine Evl.sz_lt ?_; simp only [List.length_append, List.length_map, List.length_cons, List.length_nil]; omega) | fail "no szl")
local macro_rules | `(tactic| fail "ix") => `(tactic| first | assumption | exact ix0 | exact ix1 | exact ix2 | exact at_ref (by assumption) (by omega) | exact at_int (by assumption) (by omega) | exact at_drawn (by assumption) (by assumption) | exact at_lit (by first | assumption | omega) (by fail "om") | rfl | fail "no ix")
local macro_rules | `(tactic| fail "ixn") => `(tactic| first | rfl | assumption | fail "no ixn")
local macro_rules | `(tactic| fail "nb") => `(tactic| first | assumption | exact nb_tup | exact nb_nil | exact nb_ints | exact nb_refs | exact nb_ins | exact nb_dT | exact nb_frz | fail "no nb")
local macro_rules | `(tactic| fail "ne") => `(tactic| first | assumption | exact Ne.symm (by assumption) | exact ne_of_none (by assumption) (by assumption) | exact (ne_of_none (by assumption) (by assumption)).symm | exact ne_of (by assumption) (by assumption) (by intro q; cases q) | exact ne_of (by assumption) (by assumption) (by simp) | fail "no ne")
local macro_rules | `(tactic| fail "hp") => `(tactic| first | assumption | exact upd_same | exact lit0 | exact lit1 | exact lit3 | exact lit2 | (refine' Tk.get (by assumption) ?k1; (case k1 => fail "tk")) | (with_reducible refine' upd_new ?h1 ?n1; (case n1 => assumption); (case h1 => fail "hp")) | (refine' Same.get (by assumption) ?h1; (case h1 => fail "hp")) | (refine' Kp.get (by assumption) (by fail "bx") ?h1 ?d1; (case h1 => fail "hp"); (case d1 => fail "nb")) | (with_reducible refine' upd_oth ?h1 ?n1; (case n1 => fail "ne"); (case h1 => fail "hp")) | (with_reducible refine' upd_oth ?h1 ?n1; (case h1 => fail "hp"); (case n1 => fail "ne")) | (refine' Kq.get (by assumption) (by fail "bx") ?h1 ?d1 (by fail "ne"); (case h1 => fail "hp"); (case d1 => fail "nb")) | fail "no hp")
local macro_rules | `(tactic| fail "bx") => `(tactic| first | assumption | (with_reducible refine' BoxOk.new ?h1 ?n1; (case n1 => assumption); (case h1 => fail "bx")) | (refine' BoxOk.same (by assumption) ?h1; (case h1 => fail "bx")) | (with_reducible refine' BoxOk.mut ?h1 ?h2 ?n1; (case n1 => assumption); (case h2 => assumption); (case h1 => fail "bx")) | fail "no bx")
local macro_rules | `(tactic| fail "kp") => `(tactic| first | assumption | exact Kp.refl | (with_reducible refine' Kp.at ?h1; (case h1 => fail "kp")) | (with_reducible refine' Kp.new ?h1 ?n1; (case n1 => assumption); (case h1 => fail "kp")) | (with_reducible refine' Kp.mut ?h1 ?n1; (case n1 => assumption); (case h1 => fail "kp")) | (refine' Kp.tr (by assumption) ?h1; (case h1 => fail "kp")) | (refine' Kp.tr (Kp.of (by assumption)) ?h1; (case h1 => fail "kp")) | (refine' Kq.kp (by assumption) ?h1 (by assumption); (case h1 => fail "kp")) | fail "no kp")
local macro_rules | `(tactic| fail "ite") => `(tactic| first | refine iteT ?_ | refine iteF ?_)
local macro_rules | `(tactic| fail "tt") => `(tactic| first | rfl | exact decide_eq_true (by first | rfl | omega | assumption) | exact decide_eq_true (congrArg V.int (by first | rfl | omega)) | fail "no tt")
local macro_rules | `(tactic| fail "cv") => `(tactic| first | exact .ty _ | exact .own _)
local macro_rules | `(tactic| fail "tx") => `(tactic| first | exact .base (.int _) | exact .base (.bl _) | exact .base .non | exact .base (.lst (by fail "hp")) | exact .base (.tup (by fail "hp")) | fail "no tx")
local macro_rules | `(tactic| fail "dead") => `(tactic| (exfalso; first | omega | contradiction | simp_all))
local macro_rules | `(tactic| fail "dp") => `(tactic| first | exact .tup (SqT.of (by fail "hp")) (.cons (.int _) (.cons (.int _) .nil)) | exact .lst (SqL.of (by fail "hp")) (dpPrs (by fail "pr")) | exact .lst (SqL.of (by fail "hp")) (dpInts _) | exact .lst (SqL.of (by fail "hp")) .nil | fail "no dp")
local macro_rules | `(tactic| fail "shp") => `(tactic| first | assumption | exact prD_shaped _ | exact PySem.W.ke_shaped_ints _ | rfl | fail "no shp")
local macro_rules | `(tactic| fail "pr") => `(tactic| first | assumption | exact PrT.mono (by assumption) (by fail "tk") | fail "no pr")
local macro_rules | `(tactic| fail "tk") => `(tactic| first | assumption | exact Tk.refl | (with_reducible refine' Tk.new ?h1 ?n1; (case n1 => assumption); (case h1 => fail "tk")) | (refine' Tk.tr (Kp.tk (by assumption) (by fail "bx")) ?h1; (case h1 => fail "tk")) | (refine' Tk.tr (Same.tk (by assumption)) ?h1; (case h1 => fail "tk")) | (with_reducible refine' Tk.lst ?h1 ?n1; (case n1 => fail "hp"); (case h1 => fail "tk")) | fail "no tk")
local macro_rules | `(tactic| fail "lk") => `(tactic| first | exact netF_count _ _ | exact netF_links _ _ | exact netF_no _ _ (by decide +kernel) (by decide +kernel) | fail "no lk")
local macro_rules | `(tactic| fail "kt") => `(tactic| first | exact upd_same | assumption | fail "hp")
local macro_rules | `(tactic| fail "na") => `(tactic| first | assumption | (with_reducible refine' NetAt.new ?h1 ?n1; (case n1 => assumption); (case h1 => fail "na")) | (refine' NetAt.same (by assumption) ?h1; (case h1 => fail "na")) | (refine' NetAt.kp (by assumption) (by fail "bx") ?h1; (case h1 => fail "na")) | (with_reducible refine' NetAt.lst ?h1 ?n1; (case n1 => fail "hp"); (case h1 => fail "na")) | fail "no na")
local macro_rules | `(tactic| fail "mono") => `(tactic| first | exact fun _ _ _ _ h q => h _ _ q | exact fun _ _ _ _ h q => (let ⟨v, e, z⟩ := q; ⟨v, e, h _ _ z⟩) | exact fun _ _ _ _ h q => (let ⟨v, e, u, f, z⟩ := q; ⟨v, e, u, f, h _ _ z⟩) | fail "no mono")
local macro_rules | `(tactic| fail "sm") => `(tactic| first | assumption | exact Same.refl _ | (with_reducible refine' Same.new ?h1 ?n1; (case n1 => assumption); (case h1 => fail "sm")) | (refine' Same.tr (by assumption) ?h1; (case h1 => fail "sm")) | fail "no sm")
local macro_rules | `(tactic| fail "fld") => `(tactic| first | (show 0 < 1000; decide) | (show 1 < 1000; decide) | fail "no fld")
local macro_rules | `(tactic| fail "kq") => `(tactic| first | assumption | exact Kq.refl | (with_reducible refine' Kq.at ?h1; (case h1 => fail "kq")) | (with_reducible refine' Kq.new ?h1 ?n1; (case n1 => assumption); (case h1 => fail "kq")) | (refine' Kq.trans ?h1 (by assumption); (case h1 => fail "kq")) | (refine' Kq.trans ?h1 (Kq.of (by assumption)); (case h1 => fail "kq")) | (refine' Kq.trans ?h1 (Kq.ofS (by assumption)); (case h1 => fail "kq")) | fail "no kq")
local macro_rules | `(tactic| fail "mo") => `(tactic| first | assumption | exact MemOk.take (by assumption) _ | exact MemOk.drop (by assumption) _ | exact every_ok _ | fail "no mo")

section
variable {P : Program} {w : World} {K : PySem.W.Frag} {mg : Str → Option Value} {base : Heap}

theorem prs_good {n : Nat} {R : Rel} {th : Int} {ms : List Int} (mo : MemOk n ms) : ∀ q ∈ prs R th ms ms, Good n q := fun q hq => by
  obtain ⟨h1, h2, h3, _⟩ := mem_prs.mp hq
  exact ⟨(mo.rg _ h1).1, (mo.rg _ h1).2, (mo.rg _ h2).1, (mo.rg _ h2).2, h3⟩
theorem prs_576 (R : Rel) (th : Int) {ms : List Int} (h : ms.length ≤ 24) : (prs R th ms ms).length ≤ 576 := Nat.le_trans (prs_len R th ms ms) (mul24 h h)
abbrev sPutMore : Stmt := top 37
theorem scPutMore : FnScope ["box", "table", "count", "k", "absent", "pair"] ["box", "table", "count"] (defScope sPutMore) := ⟨rfl, rfl, rfl, by decide +kernel, rfl, by decide +kernel, by decide +kernel⟩
def spPutMore : Sp := fun vs H Q _ => ∃ (b bc t : Addr) (n : Nat) (M : List Int), vs = [.ref b, .ref t, .int (n : Int)] ∧ BoxOk H b bc ∧ 1 ≤ n ∧ n ≤ 24 ∧ H t = some (.lst (M.map V.int)) ∧ TabI n M ∧ t ≠ bc ∧ PutQ b bc t n H Q
theorem ok_PutMore (D : Df K mg "_law_put_more" sPutMore ["box", "table", "count"]) (T : Txt K mg) (GDraw : C8.Cal P w K mg base 1 "_law_draw" spDraw []) (GPairs : C8.Cal P w K mg base 1 "_law_pairs" spPairs []) : C8.Cal P w K mg base 2 "_law_put_more" spPutMore [] := by
  obtain ⟨f, fd, F, hm, hb⟩ := D
  refine ⟨f, fd, ["box", "table", "count"], [], F.ok scPutMore (fun vs H Q E h => ?_) (fun cdv A outer s H vs Q E hr h => ?_), hm, F.kp, hb, .nil⟩
  · obtain ⟨b, bc, t, n, M, rfl, bx, n1, n2, ht, tb, tc, k⟩ := h
    rfl
  · obtain ⟨b, bc, t, n, M, rfl, bx, n1, n2, ht, tb, tc, k⟩ := h
    obtain ⟨R, tr, ir⟩ := id tb
    refine ⟨_, (pss_cons (ps_set (i := 4) scPutMore.nd rfl (Or.inl rfl) (C8.pe_c GPairs hr (by decide) (by rfl) (pa_cons (pv 2) (pa_cons (pv 1) (pa_cons (pe_lc (own := [("k", 3)]) (g := gName 3) (tt := tYes) rfl scPutMore.nd (pi_range1 rfl T.range (pa_cons (pv 2) pa_nil)) (blkOk_by (N := ["box", "table", "count", "k", "absent", "pair"]) (sc := defScope sPutMore) (by decide +kernel)) (fun _ _ _ _ _ => (pg_name (i := 3) scPutMore.nd rfl (Or.inl rfl))) (fun _ _ _ _ _ => pts_nil) (fun _ _ _ _ _ => (pv 3))) (pa_cons pe_int pa_nil))))))
      (pss_one (ps_for PassesOwn.never rfl (pi_range1 rfl T.range (pa_cons (pe_op op_sub (pv 2) pe_int) pa_nil)) (pg_name (i := 3) scPutMore.nd rfl (Or.inl rfl))
        (pss_one (ps_if (pt_cmpR (op_neD hr.units) (pv 4) (pe_lst pa_nil) (nomark _))
          (pss_cons (ps_set (i := 5) scPutMore.nd rfl (Or.inl rfl) (pe_bm PySem.F.plainAttrs_list PySem.F.slot_list_pop PySem.F.type_list_pop mt_popR (pv 4) (pa_cons (C8.pe_c GDraw hr (by decide) (by rfl) (pa_cons (pv 0) (pa_cons (pe_callB call_len_seq (by rfl) T.len (by decide +kernel) (pa_cons (pv 4) pa_nil)) pa_nil))) pa_nil)))
          (pss_one (ps_asg pe_int (pg_sub (pv 1) (pe_op op_add (pe_op op_mul (pe_ix ix_tup (pv 5) pe_int (fun _ _ => rfl)) (pv 2)) (pe_ix ix_tup (pv 5) pe_int (fun _ _ => rfl))) set_I))))
          pss_nil))))), ?_⟩
    -- absent = _law_pairs(count, table, [k for k in range(count)], 0)
    refine ⟨_, rfl, _, rfl, _, rfl, _, rfl, (by fail "om"), (by fail "om"), fun D1 nD1 => lc_range (fun i H' => Same H H' ∧ H' D1 = some (.lst ((every i).map V.int))) ⟨Same.new (Same.refl _) nD1, upd_same⟩ (fun i H' hi z => by
      obtain ⟨sm, hD⟩ := z
      have hl : (every i).length ≤ 24 := by rw [every_len]; omega
      refine ⟨rfl, ?_⟩
      unfold tYes
      refine iteT ?_
      refine ⟨_, rfl, _, hD, Evl.sz_lt (by rw [List.length_map]; omega), Same.mut sm nD1, ?_⟩
      rw [upd_same, every_succ, List.map_append, Int.zero_add]
      rfl) (fun H' z => ?_)⟩
    obtain ⟨smE, hE⟩ := z
    have en : ((n : Int)).toNat = n := by omega
    rw [en] at hE
    refine ⟨_, _, _, _, _, _, _, rfl, (by fail "om"), (by fail "hp"), (by assumption), (by fail "hp"), (by fail "mo"), (by fail "om"), fun p1 as1 H1 sm1 np1 hp1 pt1 => ?_⟩
    obtain ⟨pA, epA⟩ : ∃ p, p = p1 := ⟨_, rfl⟩
    subst epA
    have smA : Same H H1 := smE.trans sm1
    have hpA := hp1
    have nA : H pA = none := free_back np1 smE
    have nAt : pA ≠ t := (ne_of_none ht nA).symm
    -- for k in range(count - 2):
    refine ⟨_, rfl, _, _, rfl, rfl, _, rfl, (by fail "om"), (by fail "om"), for_range (fun i σ H2 => ∃ (v u : Option V) (Mi : List Int) (as : List Addr) (ps : List (Int × Int)), σ = [some (.ref b), some (.ref t), some (.int (n : Int)), v, some (.ref pA), u] ∧ Kq b t H H2 ∧ BoxOk H2 b bc ∧ H2 t = some (.lst (Mi.map V.int)) ∧ TabI n Mi ∧ H2 pA = some (.lst (as.map V.ref)) ∧ PrT H2 as ps ∧ (∀ q ∈ ps, Good n q) ∧ ps.length ≤ 576) ⟨_, none, M, as1, _, rfl, Kq.ofS smA, BoxOk.same smA bx, smA _ _ ht, tb, hpA, pt1, prs_good (every_ok n), prs_576 R 0 (by rw [every_len]; exact n2)⟩ ?_ ?_⟩
    · rintro i σ Hi hi ⟨v, u, Mi, as, ps, rfl, kqi, bxi, hti, tbi, hai, pti, gps, lps⟩
      have las := pti.1
      -- if absent != []:
      refine ⟨_, rfl, (by fail "sz"), fun p2 np2 => ⟨_, _, (by fail "dp"), (by fail "dp"), (by fail "shp"), (by fail "shp"), _, rfl, ?_⟩⟩
      refine nifB (fun g3 => ?_) (fun g3 => ?_)
      · have e1 : 1 ≤ as.length := by rw [las]; exact prd_nil g3
        -- pair = absent.pop(_law_draw(box, len(absent)))
        refine ⟨_, rfl, .inl ⟨rfl, _, SqL.of (by fail "hp")⟩, _, rfl, _, rfl, _, _, rfl, .inl (SqL.of (by fail "hp")), _, _, _, rfl, (by fail "bx"), (by fail "om"), (by fail "om"), fun d4 H4 da4 db4 kp4 bx4 => ⟨_, _, _, rfl, rfl, (by fail "hp"), (by fail "om"), (by fail "om"), (by fail "om"), ?_⟩⟩
        have dlt : d4.toNat < ps.length := by simp only [List.length_map] at db4; omega
        have ptj := PrT.mono pti (Tk.tr (Kp.tk kp4 (BoxOk.new bxi np2)) (Tk.new Tk.refl np2))
        have ptE := PrT.erase ptj d4.toNat
        obtain ⟨a1, x1, y1, ea, ep, hta⟩ := ptj.at dlt
        have eg : as.getD d4.toNat 0 = a1 := by rw [List.getD_eq_getElem?_getD, ea]; rfl
        rw [eg]
        have haj := kp4.get (BoxOk.new bxi np2) (upd_new hai np2) nb_refs
        have htj := kp4.get (BoxOk.new bxi np2) (upd_new hti np2) nb_ints
        have hg := gps _ (List.mem_of_getElem? ep)
        obtain ⟨x, ex, hx⟩ := toN (n := n) (x := x1) hg.1 hg.2.1
        obtain ⟨y, ey, hy⟩ := toN (n := n) (x := y1) hg.2.2.1 hg.2.2.2.1
        subst ex
        subst ey
        have ne : x ≠ y := fun z => hg.2.2.2.2 (by rw [z])
        have in1 := ixT tbi.len hx hy
        have htj2 : upd H4 pA (.lst ((as.eraseIdx d4.toNat).map V.ref)) t = some (.lst (Mi.map V.int)) := by rw [upd_ne nAt.symm]; exact htj
        -- table[pair[0] * count + pair[1]] = 1
        refine ⟨_, rfl, _, rfl, _, _, _, _, rfl, rfl, SqT.of (by fail "hp"), (by fail "ix"), _, rfl, _, _, rfl, rfl, (by fail "mul"), _, rfl, _, _, _, _, rfl, rfl, SqT.of (by fail "hp"), (by fail "ix"), _, _, rfl, rfl, _, _, _, _, _, rfl, rfl, rfl, (by fail "hp"), (by fail "ixn"), ?_⟩
        refine ⟨_, _, _, _, _, rfl, Kq.at (Kq.mut ((kqi.new np2).trans (Kq.of kp4)) nA), ?_, upd_same, tbi.put hx hy ne, ?_, PrT.mono ptE (Tk.lst (Tk.lst Tk.refl haj) htj2), fun q hq => gps q (List.mem_of_mem_eraseIdx hq), ?_⟩
        · exact BoxOk.tab (xs := []) (BoxOk.mut bx4 bx nA) htj2 tc
        · rw [upd_ne nAt]
          exact upd_same
        · have := List.length_eraseIdx_le ps d4.toNat
          omega
      · exact ⟨_, _, Mi, as, ps, rfl, Kq.new kqi np2, BoxOk.new bxi np2, upd_new hti np2, tbi, upd_new hai np2, PrT.mono pti (Tk.new Tk.refl np2), gps, lps⟩
    · rintro σ Hi ⟨v, u, Mi, as, ps, rfl, kqi, bxi, hti, tbi, hai, pti, gps, lps⟩
      exact k Mi _ kqi bxi hti tbi
end
end K01

end
section
set_option Elab.async false
set_option linter.all false
set_option maxRecDepth 100000
set_option maxHeartbeats 4000000
namespace K01
open PySem L2 Kit KR KX KI
local macro_rules | `(tactic| fail "om") => `(tactic| first | omega | (simp only [List.length_map, List.length_append, List.length_cons, List.length_nil]; omega) | (simp only [List.length_map, List.length_append, List.length_cons, List.length_nil] at *; omega) | assumption | decide | (simp only [List.length_take, List.length_drop]; omega) | (rw [every_len]; omega) | fail "no om")
local macro_rules | `(tactic| fail "nz") => `(tactic| first | decide | omega | fail "no nz")
local macro_rules | `(tactic| fail "dv") => `(tactic| exact ⟨by first | decide | omega, by first | decide | omega⟩)
local macro_rules | `(tactic| fail "mul") => `(tactic| first | exact .inr ⟨by decide, by decide⟩ | exact .inl ⟨by decide, by decide⟩ | exact mulF (by decide) (by decide) | exact .inl ⟨by omega, by omega⟩ | exact .inr ⟨by omega, by omega⟩ | fail "no mul")
local macro_rules | `(tactic| fail "sz") => `(tactic| first | assumption | exact Nat.zero_le _ | (show 1 ≤ sizeLine; decide) | (show 2 ≤ sizeLine; decide) | (show 3 ≤ sizeLine; decide) | (show 4 ≤ sizeLine; decide) | (show 5 ≤ sizeLine; decide) | exact Evl.sz_of (by omega) | (refine Evl.sz_of ?_; simp only [List.length_append, List.length_map, List.length_cons, List.length_nil]; omega) | (refine Evl.sz_of ?_; simp only [List.length_append, List.length_map, List.length_cons, List.length_nil, List.length_take, List.length_drop]; omega) | fail "no sz")
local macro_rules | `(tactic| fail "szl") => `(tactic| first | exact Evl.sz_lt (by omega) | (refine Evl.sz_lt ?_; simp only [List.length_append, List.length_map, List.length_cons, List.length_nil]; omega) | fail "no szl")
local macro_rules | `(tactic| fail "ix") => `(tactic| first | assumption | exact ix0 | exact ix1 | exact ix2 | exact at_ref (by assumption) (by omega) | exact at_int (by assumption) (by omega) | exact at_drawn (by assumption) (by assumption) | exact at_lit (by first | assumption | omega) (by fail "om") | rfl | fail "no ix")
local macro_rules | `(tactic| fail "ixn") => `(tactic| first | rfl | assumption | fail "no ixn")
local macro_rules | `(tactic| fail "nb") => `(tactic| first | assumption | exact nb_tup | exact nb_nil | exact nb_ints | exact nb_refs | exact nb_ins | exact nb_dT | exact nb_frz | fail "no nb")
local macro_rules | `(tactic| fail "ne") => `(tactic| first | assumption | exact Ne.symm (by assumption) | exact ne_of_none (by assumption) (by assumption) | exact (ne_of_none (by assumption) (by assumption)).symm | exact ne_of (by assumption) (by assumption) (by intro q; cases q) | exact ne_of (by assumption) (by assumption) (by simp) | fail "no ne")
local macro_rules | `(tactic| fail "hp") => `(tactic| first | assumption | exact upd_same | exact lit0 | exact lit1 | exact lit3 | exact lit2 | (refine' Tk.get (by assumption) ?k1; (case k1 => fail "tk")) | (with_reducible refine' upd_new ?h1 ?n1; (case n1 => assumption); (case h1 => fail "hp")) | (refine' Same.get (by assumption) ?h1; (case h1 => fail "hp")) | (refine' Kp.get (by assumption) (by fail "bx") ?h1 ?d1; (case h1 => fail "hp"); (case d1 => fail "nb")) | (with_reducible refine' upd_oth ?h1 ?n1; (case n1 => fail "ne"); (case h1 => fail "hp")) | (with_reducible refine' upd_oth ?h1 ?n1; (case h1 => fail "hp"); (case n1 => fail "ne")) | (refine' Kq.get (by assumption) (by fail "bx") ?h1 ?d1 (by fail "ne"); (case h1 => fail "hp"); (case d1 => fail "nb")) | fail "no hp")
local macro_rules | `(tactic| fail "bx") => `(tactic| first | assumption | (with_reducible refine' BoxOk.new ?h1 ?n1; (case n1 => assumption); (case h1 => fail "bx")) | (refine' BoxOk.same (by assumption) ?h1; (case h1 => fail "bx")) | (with_reducible refine' BoxOk.mut ?h1 ?h2 ?n1; (case n1 => assumption); (case h2 => assumption); (case h1 => fail "bx")) | fail "no bx")
local macro_rules | `(tactic| fail "kp") => `(tactic| first | assumption | exact Kp.refl | (with_reducible refine' Kp.at ?h1; (case h1 => fail "kp")) | (with_reducible refine' Kp.new ?h1 ?n1; (case n1 => assumption); (case h1 => fail "kp")) | (with_reducible refine' Kp.mut ?h1 ?n1; (case n1 => assumption); (case h1 => fail "kp")) | (refine' Kp.tr (by assumption) ?h1; (case h1 => fail "kp")) | (refine' Kp.tr (Kp.of (by assumption)) ?h1; (case h1 => fail "kp")) | (refine' Kq.kp (by assumption) ?h1 (by assumption); (case h1 => fail "kp")) | fail "no kp")
local macro_rules | `(tactic| fail "ite") => `(tactic| first | refine iteT ?_ | refine iteF ?_)
local macro_rules | `(tactic| fail "tt") => `(tactic| first | rfl | exact decide_eq_true (by first | rfl | omega | assumption) | exact decide_eq_true (congrArg V.int (by first | rfl | omega)) | fail "no tt")
local macro_rules | `(tactic| fail "cv") => `(tactic| first | exact .ty _ | exact .own _)
local macro_rules | `(tactic| fail "tx") => `(tactic| first | exact .base (.int _) | exact .base (.bl _) | exact .base .non | exact .base (.lst (by fail "hp")) | exact .base (.tup (by fail "hp")) | fail "no tx")
local macro_rules | `(tactic| fail "dead") => `(tactic| (exfalso; first | omega | contradiction | simp_all))
local macro_rules | `(tactic| fail "dp") => `(tactic| first | exact .tup (SqT.of (by fail "hp")) (.cons (.int _) (.cons (.int _) .nil)) | exact .lst (SqL.of (by fail "hp")) (dpPrs (by fail "pr")) | exact .lst (SqL.of (by fail "hp")) (dpInts _) | exact .lst (SqL.of (by fail "hp")) .nil | fail "no dp")
local macro_rules | `(tactic| fail "shp") => `(tactic| first | assumption | exact prD_shaped _ | exact PySem.W.ke_shaped_ints _ | rfl | fail "no shp")
local macro_rules | `(tactic| fail "pr") => `(tactic| first | assumption | exact PrT.mono (by assumption) (by fail "tk") | fail "no pr")
local macro_rules | `(tactic| fail "tk") => `(tactic| first | assumption | exact Tk.refl | (with_reducible refine' Tk.new ?h1 ?n1; (case n1 => assumption); (case h1 => fail "tk")) | (refine' Tk.tr (Kp.tk (by assumption) (by fail "bx")) ?h1; (case h1 => fail "tk")) | (refine' Tk.tr (Same.tk (by assumption)) ?h1; (case h1 => fail "tk")) | (with_reducible refine' Tk.lst ?h1 ?n1; (case n1 => fail "hp"); (case h1 => fail "tk")) | fail "no tk")
local macro_rules | `(tactic| fail "lk") => `(tactic| first | exact netF_count _ _ | exact netF_links _ _ | exact netF_no _ _ (by decide +kernel) (by decide +kernel) | fail "no lk")
local macro_rules | `(tactic| fail "kt") => `(tactic| first | exact upd_same | assumption | fail "hp")
local macro_rules | `(tactic| fail "na") => `(tactic| first | assumption | (with_reducible refine' NetAt.new ?h1 ?n1; (case n1 => assumption); (case h1 => fail "na")) | (refine' NetAt.same (by assumption) ?h1; (case h1 => fail "na")) | (refine' NetAt.kp (by assumption) (by fail "bx") ?h1; (case h1 => fail "na")) | (with_reducible refine' NetAt.lst ?h1 ?n1; (case n1 => fail "hp"); (case h1 => fail "na")) | fail "no na")
local macro_rules | `(tactic| fail "mono") => `(tactic| first | exact fun _ _ _ _ h q => h _ _ q | exact fun _ _ _ _ h q => (let ⟨v, e, z⟩ := q; ⟨v, e, h _ _ z⟩) | exact fun _ _ _ _ h q => (let ⟨v, e, u, f, z⟩ := q; ⟨v, e, u, f, h _ _ z⟩) | fail "no mono")
local macro_rules | `(tactic| fail "sm") => `(tactic| first | assumption | exact Same.refl _ | (with_reducible refine' Same.new ?h1 ?n1; (case n1 => assumption); (case h1 => fail "sm")) | (refine' Same.tr (by assumption) ?h1; (case h1 => fail "sm")) | fail "no sm")
local macro_rules | `(tactic| fail "fld") => `(tactic| first | (show 0 < 1000; decide) | (show 1 < 1000; decide) | fail "no fld")
local macro_rules | `(tactic| fail "kq") => `(tactic| first | assumption | exact Kq.refl | (with_reducible refine' Kq.at ?h1; (case h1 => fail "kq")) | (with_reducible refine' Kq.new ?h1 ?n1; (case n1 => assumption); (case h1 => fail "kq")) | (refine' Kq.trans ?h1 (by assumption); (case h1 => fail "kq")) | (refine' Kq.trans ?h1 (Kq.of (by assumption)); (case h1 => fail "kq")) | (refine' Kq.trans ?h1 (Kq.ofS (by assumption)); (case h1 => fail "kq")) | fail "no kq")
local macro_rules | `(tactic| fail "mo") => `(tactic| first | assumption | exact MemOk.take (by assumption) _ | exact MemOk.drop (by assumption) _ | exact every_ok _ | fail "no mo")

section
variable {P : Program} {w : World} {K : PySem.W.Frag} {mg : Str → Option Value} {base : Heap}


abbrev sPutForest : Stmt := top 36
theorem scPutForest : FnScope ["box", "table", "count", "order", "cut", "part", "absent", "pair"] ["box", "table", "count", "order"] (defScope sPutForest) := ⟨rfl, rfl, rfl, by decide +kernel, rfl, by decide +kernel, by decide +kernel⟩
def spPutForest : Sp := fun vs H Q _ => ∃ (b bc t m : Addr) (n : Nat) (M ms : List Int), vs = [.ref b, .ref t, .int (n : Int), .ref m] ∧ BoxOk H b bc ∧ 1 ≤ n ∧ n ≤ 24 ∧ H t = some (.lst (M.map V.int)) ∧ TabI n M ∧ t ≠ bc ∧ H m = some (.lst (ms.map V.int)) ∧ MemOk n ms ∧ ms.length ≤ 24 ∧ m ≠ t ∧ ms.length = n ∧ PutQ b bc t n H Q
theorem ok_PutForest (D : Df K mg "_law_put_forest" sPutForest ["box", "table", "count", "order"]) (T : Txt K mg) (GDraw : C8.Cal P w K mg base 1 "_law_draw" spDraw []) (GPutTree : C8.Cal P w K mg base 2 "_law_put_tree" spPutTree []) (GPairs : C8.Cal P w K mg base 1 "_law_pairs" spPairs []) : C8.Cal P w K mg base 3 "_law_put_forest" spPutForest [] := by
  obtain ⟨f, fd, F, hm, hb⟩ := D
  refine ⟨f, fd, ["box", "table", "count", "order"], [], F.ok scPutForest (fun vs H Q E h => ?_) (fun cdv A outer s H vs Q E hr h => ?_), hm, F.kp, hb, .nil⟩
  · obtain ⟨b, bc, t, m, n, M, ms, rfl, bx, n1, n2, ht, tb, tc, hm, mo, ml, mt, mn, k⟩ := h
    rfl
  · obtain ⟨b, bc, t, m, n, M, ms, rfl, bx, n1, n2, ht, tb, tc, hm, mo, ml, mt, mn, k⟩ := h
    refine ⟨_, (pss_cons (ps_set (i := 4) scPutForest.nd rfl (Or.inl rfl) (C8.pe_c GDraw hr (by decide) (by rfl) (pa_cons (pv 0) (pa_cons (pe_op op_add (pv 2) pe_int) pa_nil))))
      (pss_cons (ps_expr (C8.pe_c GPutTree hr (by decide) (by rfl) (pa_cons (pv 0) (pa_cons (pv 1) (pa_cons (pv 2) (pa_cons (pe_slice sl_to (pv 3) po_none (po_some (pv 4))) pa_nil))))))
      (pss_cons (ps_expr (C8.pe_c GPutTree hr (by decide) (by rfl) (pa_cons (pv 0) (pa_cons (pv 1) (pa_cons (pv 2) (pa_cons (pe_slice sl_from (pv 3) (po_some (pv 4)) po_none) pa_nil))))))
      (pss_cons (ps_set (i := 5) scPutForest.nd rfl (Or.inl rfl) (pe_slice sl_to (pv 3) po_none (po_some (pv 4))))
      (C8.pss_cut (ps_if (pt_cmpR op_lt (pv 4) (pe_op op_sub (pv 2) (pv 4)) (nomark _))
        (pss_one (ps_set (i := 5) scPutForest.nd rfl (Or.inl rfl) (pe_slice sl_from (pv 3) (po_some (pv 4)) po_none)))
        pss_nil)
      (pss_cons (ps_set (i := 6) scPutForest.nd rfl (Or.inl rfl) (C8.pe_c GPairs hr (by decide) (by rfl) (pa_cons (pv 2) (pa_cons (pv 1) (pa_cons (pv 5) (pa_cons pe_int pa_nil))))))
      (pss_one (ps_if (pt_cmpR (op_neD hr.units) (pv 6) (pe_lst pa_nil) (nomark _))
        (pss_cons (ps_set (i := 7) scPutForest.nd rfl (Or.inl rfl) (pe_ix ix_list (pv 6) (C8.pe_c GDraw hr (by decide) (by rfl) (pa_cons (pv 0) (pa_cons (pe_callB call_len_seq (by rfl) T.len (by decide +kernel) (pa_cons (pv 6) pa_nil)) pa_nil))) (fun _ _ => rfl)))
        (pss_cons (ps_asg pe_int (pg_sub (pv 1) (pe_op op_add (pe_op op_mul (pe_ix ix_tup (pv 7) pe_int (fun _ _ => rfl)) (pv 2)) (pe_ix ix_tup (pv 7) pe_int (fun _ _ => rfl))) set_I))
        (pss_one (ps_asg pe_int (pg_sub (pv 1) (pe_op op_add (pe_op op_mul (pe_ix ix_tup (pv 7) pe_int (fun _ _ => rfl)) (pv 2)) (pe_ix ix_tup (pv 7) pe_int (fun _ _ => rfl))) set_I)))))
        pss_nil)))))))), ?_⟩
    -- cut = _law_draw(box, count + 1)
    refine ⟨_, rfl, _, rfl, _, _, rfl, rfl, _, _, _, rfl, (by fail "bx"), (by fail "om"), (by fail "om"), fun d1 H1 da1 db1 kp1 bx1 => ?_⟩
    have ht1 := kp1.get bx ht nb_ints
    have hm1 := kp1.get bx hm nb_ints
    -- _law_put_tree(box, table, count, order[:cut])
    refine ⟨_, rfl, _, rfl, _, rfl, _, rfl, _, rfl, _, rfl, _, _, _, rfl, rfl, rfl, (by fail "om"), SqL.of (by fail "hp"), fun p3 np3 => ⟨_, _, _, _, _, _, _, rfl, (by fail "bx"), (by fail "om"), (by fail "om"), (by fail "hp"), (by assumption), (by assumption), (by fail "hp"), (by fail "mo"), (by fail "om"), (by fail "ne"), fun M2 H2 kq2 bx2 ht2 tb2 => ?_⟩⟩
    have hm2 := kq2.get (BoxOk.new bx1 np3) (upd_new hm1 np3) nb_ints mt
    -- _law_put_tree(box, table, count, order[cut:])
    refine ⟨_, rfl, _, rfl, _, rfl, _, rfl, _, rfl, _, rfl, _, _, _, rfl, rfl, rfl, (by fail "om"), SqL.of (by fail "hp"), fun p5 np5 => ⟨_, _, _, _, _, _, _, rfl, (by fail "bx"), (by fail "om"), (by fail "om"), (by fail "hp"), (by assumption), (by assumption), (by fail "hp"), (by fail "mo"), (by fail "om"), (by fail "ne"), fun M4 H4 kq4 bx4 ht4 tb4 => ?_⟩⟩
    have hm4 := kq4.get (BoxOk.new bx2 np5) (upd_new hm2 np5) nb_ints mt
    have kqA : Kq b t H H4 := (((Kq.of kp1).new np3).trans kq2).trans (((Kq.refl (b := b) (t := t)).new np5).trans kq4)
    -- part = order[:cut]
    refine ⟨_, rfl, _, rfl, _, rfl, _, _, _, rfl, rfl, rfl, (by fail "om"), SqL.of (by fail "hp"), fun p6 np6 => ?_⟩
    refine ⟨fun σ H2 => ∃ (q : Addr) (ks : List Int), σ = [some (.ref b), some (.ref t), some (.int (n : Int)), some (.ref m), some (.int d1), some (.ref q), none, none] ∧ Kq b t H H2 ∧ BoxOk H2 b bc ∧ (∃ Mi, H2 t = some (.lst (Mi.map V.int)) ∧ TabI n Mi) ∧ H2 q = some (.lst (ks.map V.int)) ∧ MemOk n ks ∧ ks.length ≤ 24 ∧ q ≠ t, ?_, ?_⟩
    · have p6t : p6 ≠ t := (ne_of_none ht4 np6).symm
      -- if cut < count - cut:
      refine ⟨_, rfl, _, rfl, _, rfl, _, _, rfl, rfl, _, _, rfl, rfl, _, rfl, ?_⟩
      refine ifD (fun g7 => ?_) (fun g7 => ?_)
      · -- part = order[cut:]
        refine ⟨_, rfl, _, rfl, _, rfl, _, _, _, rfl, rfl, rfl, (by fail "om"), SqL.of (by fail "hp"), fun p8 np8 => ?_⟩
        have p8t : p8 ≠ t := (ne_of_none (upd_new ht4 np6) np8).symm
        exact ⟨_, _, rfl, by fail "kq", by fail "bx", ⟨_, by fail "hp", by assumption⟩, by fail "hp", by fail "mo", by fail "om", p8t⟩
      · exact ⟨_, _, rfl, by fail "kq", by fail "bx", ⟨_, by fail "hp", by assumption⟩, by fail "hp", by fail "mo", by fail "om", p6t⟩
    · rintro σ Hi ⟨q, ks, rfl, kqi, bxi, ⟨Mi, hti, tbi⟩, hqi, moi, lki, qt⟩
      obtain ⟨R, tr, ir⟩ := id tbi
      -- absent = _law_pairs(count, table, part, 0)
      refine ⟨_, rfl, _, rfl, _, rfl, _, _, _, _, _, _, _, rfl, (by fail "om"), (by fail "hp"), (by assumption), (by fail "hp"), (by fail "mo"), (by fail "om"), fun p9 as9 H9 sm9 np9 hp9 pt9 => ?_⟩
      -- if absent != []:
      refine ⟨_, rfl, (by fail "sz"), fun p10 np10 => ⟨_, _, (by fail "dp"), (by fail "dp"), (by fail "shp"), (by fail "shp"), _, rfl, ?_⟩⟩
      refine nifB (fun g11 => ?_) (fun g11 => ?_)
      · have e1 : 1 ≤ as9.length := by rw [pt9.1]; exact prd_nil g11
        have l9 : as9.length ≤ 576 := by rw [pt9.1]; exact prs_576 R 0 lki
        have bx9 := BoxOk.same sm9 bxi
        -- pair = absent[_law_draw(box, len(absent))]
        refine ⟨_, rfl, _, rfl, _, rfl, _, _, rfl, .inl (SqL.of (by fail "hp")), _, _, _, rfl, (by fail "bx"), (by fail "om"), (by fail "om"), fun d12 H12 da12 db12 kp12 bx12 => ⟨_, _, _, _, rfl, rfl, SqL.of (by fail "hp"), (by fail "ix"), ?_⟩⟩
        have dlt : d12.toNat < (prs R 0 ks ks).length := by
          rw [← pt9.1]
          simp only [List.length_map] at db12
          omega
        have ptj := PrT.mono pt9 (Tk.tr (Kp.tk kp12 (BoxOk.new bx9 np10)) (Tk.new Tk.refl np10))
        obtain ⟨a1, x1, y1, ea, ep, hta⟩ := ptj.at dlt
        have eg : as9.getD d12.toNat 0 = a1 := by rw [List.getD_eq_getElem?_getD, ea]; rfl
        rw [eg]
        have htj := kp12.get (BoxOk.new bx9 np10) (upd_new (sm9 _ _ hti) np10) nb_ints
        have hg := prs_good moi _ (List.mem_of_getElem? ep)
        obtain ⟨x, ex, hx⟩ := toN (n := n) (x := x1) hg.1 hg.2.1
        obtain ⟨y, ey, hy⟩ := toN (n := n) (x := y1) hg.2.2.1 hg.2.2.2.1
        subst ex
        subst ey
        have ne : x ≠ y := fun z => hg.2.2.2.2 (by rw [z])
        have in1 := ixT tbi.len hx hy
        have in2 := ixT (tbi.put hx hy ne).len hy hx
        have tb2 := (tbi.put hx hy ne).put hy hx ne.symm
        -- table[pair[0] * count + pair[1]] = 1
        refine ⟨_, rfl, _, rfl, _, _, _, _, rfl, rfl, SqT.of (by fail "hp"), (by fail "ix"), _, rfl, _, _, rfl, rfl, (by fail "mul"), _, rfl, _, _, _, _, rfl, rfl, SqT.of (by fail "hp"), (by fail "ix"), _, _, rfl, rfl, _, _, _, _, _, rfl, rfl, rfl, (by fail "hp"), (by fail "ixn"), ?_⟩
        -- table[pair[1] * count + pair[0]] = 1
        refine ⟨_, rfl, _, rfl, _, _, _, _, rfl, rfl, SqT.of (by fail "hp"), (by fail "ix"), _, rfl, _, _, rfl, rfl, (by fail "mul"), _, rfl, _, _, _, _, rfl, rfl, SqT.of (by fail "hp"), (by fail "ix"), _, _, rfl, rfl, _, _, _, _, _, rfl, rfl, rfl, (by fail "hp"), (by fail "ixn"), ?_⟩
        exact k _ _ (Kq.at (Kq.at (((kqi.trans (Kq.ofS sm9)).new np10).trans (Kq.of kp12)))) (BoxOk.tab (xs := []) (BoxOk.tab (xs := []) bx12 htj tc) upd_same tc) upd_same tb2
      · exact k Mi _ ((kqi.trans (Kq.ofS sm9)).new np10) (BoxOk.new (BoxOk.same sm9 bxi) np10) (upd_new (sm9 _ _ hti) np10) tbi
end
end K01

end
section
set_option Elab.async false
set_option linter.all false
set_option maxRecDepth 100000
set_option maxHeartbeats 4000000
namespace K01
open PySem L2 Kit KR KX KI
local macro_rules | `(tactic| fail "om") => `(tactic| first | omega | (simp only [List.length_map, List.length_append, List.length_cons, List.length_nil]; omega) | (simp only [List.length_map, List.length_append, List.length_cons, List.length_nil] at *; omega) | assumption | decide | (simp only [List.length_take, List.length_drop]; omega) | (rw [every_len]; omega) | fail "no om")
local macro_rules | `(tactic| fail "nz") => `(tactic| first | decide | omega | fail "no nz")
local macro_rules | `(tactic| fail "dv") => `(tactic| exact ⟨by first | decide | omega, by first | decide | omega⟩)
local macro_rules | `(tactic| fail "mul") => `(tactic| first | exact .inr ⟨by decide, by decide⟩ | exact .inl ⟨by decide, by decide⟩ | exact mulF (by decide) (by decide) | exact .inl ⟨by omega, by omega⟩ | exact .inr ⟨by omega, by omega⟩ | fail "no mul")
local macro_rules | `(tactic| fail "sz") => `(tactic| first | assumption | exact Nat.zero_le _ | (show 1 ≤ sizeLine; decide) | (show 2 ≤ sizeLine; decide) | (show 3 ≤ sizeLine; decide) | (show 4 ≤ sizeLine; decide) | (show 5 ≤ sizeLine; decide) | exact Evl.sz_of (by omega) | (refine Evl.sz_of ?_; simp only [List.length_append, List.length_map, List.length_cons, List.length_nil]; omega) | (refine Evl.sz_of ?_; simp only [List.length_append, List.length_map, List.length_cons, List.length_nil, List.length_take, List.length_drop]; omega) | fail "no sz")
local macro_rules | `(tactic| fail "szl") => `(tactic| first | exact Evl.sz_lt (by omega) | (refine Evl.sz_lt ?_; simp only [List.length_append, List.length_map, List.length_cons, List.length_nil]; omega) | fail "no szl")
local macro_rules | `(tactic| fail "ix") => `(tactic| first | assumption | exact ix0 | exact ix1 | exact ix2 | exact at_ref (by assumption) (by omega) | exact at_int (by assumption) (by omega) | exact at_drawn (by assumption) (by assumption) | exact at_lit (by first | assumption | omega) (by fail "om") | rfl | fail "no ix")
local macro_rules | `(tactic| fail "ixn") => `(tactic| first | rfl | assumption | fail "no ixn")
local macro_rules | `(tactic| fail "nb") => `(tactic| first | assumption | exact nb_tup | exact nb_nil | exact nb_ints | exact nb_refs | exact nb_ins | exact nb_dT | exact nb_frz | fail "no nb")
local macro_rules | `(tactic| fail "ne") => `(tactic| first | assumption | exact Ne.symm (by assumption) | exact ne_of_none (by assumption) (by assumption) | exact (ne_of_none (by assumption) (by assumption)).symm | exact ne_of (by assumption) (by assumption) (by intro q; cases q) | exact ne_of (by assumption) (by assumption) (by simp) | fail "no ne")
local macro_rules | `(tactic| fail "hp") => `(tactic| first | assumption | exact upd_same | exact lit0 | exact lit1 | exact lit3 | exact lit2 | (refine' Tk.get (by assumption) ?k1; (case k1 => fail "tk")) | (with_reducible refine' upd_new ?h1 ?n1; (case n1 => assumption); (case h1 => fail "hp")) | (refine' Same.get (by assumption) ?h1; (case h1 => fail "hp")) | (refine' Kp.get (by assumption) (by fail "bx") ?h1 ?d1; (case h1 => fail "hp"); (case d1 => fail "nb")) | (with_reducible refine' upd_oth ?h1 ?n1; (case n1 => fail "ne"); (case h1 => fail "hp")) | (with_reducible refine' upd_oth ?h1 ?n1; (case h1 => fail "hp"); (case n1 => fail "ne")) | (refine' Kq.get (by assumption) (by fail "bx") ?h1 ?d1 (by fail "ne"); (case h1 => fail "hp"); (case d1 => fail "nb")) | fail "no hp")
local macro_rules | `(tactic| fail "bx") => `(tactic| first | assumption | (with_reducible refine' BoxOk.new ?h1 ?n1; (case n1 => assumption); (case h1 => fail "bx")) | (refine' BoxOk.same (by assumption) ?h1; (case h1 => fail "bx")) | (with_reducible refine' BoxOk.mut ?h1 ?h2 ?n1; (case n1 => assumption); (case h2 => assumption); (case h1 => fail "bx")) | fail "no bx")
local macro_rules | `(tactic| fail "kp") => `(tactic| first | assumption | exact Kp.refl | (with_reducible refine' Kp.at ?h1; (case h1 => fail "kp")) | (with_reducible refine' Kp.new ?h1 ?n1; (case n1 => assumption); (case h1 => fail "kp")) | (with_reducible refine' Kp.mut ?h1 ?n1; (case n1 => assumption); (case h1 => fail "kp")) | (refine' Kp.tr (by assumption) ?h1; (case h1 => fail "kp")) | (refine' Kp.tr (Kp.of (by assumption)) ?h1; (case h1 => fail "kp")) | (refine' Kq.kp (by assumption) ?h1 (by assumption); (case h1 => fail "kp")) | fail "no kp")
local macro_rules | `(tactic| fail "ite") => `(tactic| first | refine iteT ?_ | refine iteF ?_)
local macro_rules | `(tactic| fail "tt") => `(tactic| first | rfl | exact decide_eq_true (by first | rfl | omega | assumption) | exact decide_eq_true (congrArg V.int (by first | rfl | omega)) | fail "no tt")
local macro_rules | `(tactic| fail "cv") => `(tactic| first | exact .ty _ | exact .own _)
local macro_rules | `(tactic| fail "tx") => `(tactic| first | exact .base (.int _) | exact .base (.bl _) | exact .base .non | exact .base (.lst (by fail "hp")) | exact .base (.tup (by fail "hp")) | fail "no tx")
local macro_rules | `(tactic| fail "dead") => `(tactic| (exfalso; first | omega | contradiction | simp_all))
local macro_rules | `(tactic| fail "dp") => `(tactic| first | exact .tup (SqT.of (by fail "hp")) (.cons (.int _) (.cons (.int _) .nil)) | exact .lst (SqL.of (by fail "hp")) (dpPrs (by fail "pr")) | exact .lst (SqL.of (by fail "hp")) (dpInts _) | exact .lst (SqL.of (by fail "hp")) .nil | fail "no dp")
local macro_rules | `(tactic| fail "shp") => `(tactic| first | assumption | exact prD_shaped _ | exact PySem.W.ke_shaped_ints _ | rfl | fail "no shp")
local macro_rules | `(tactic| fail "pr") => `(tactic| first | assumption | exact PrT.mono (by assumption) (by fail "tk") | fail "no pr")
local macro_rules | `(tactic| fail "tk") => `(tactic| first | assumption | exact Tk.refl | (with_reducible refine' Tk.new ?h1 ?n1; (case n1 => assumption); (case h1 => fail "tk")) | (refine' Tk.tr (Kp.tk (by assumption) (by fail "bx")) ?h1; (case h1 => fail "tk")) | (refine' Tk.tr (Same.tk (by assumption)) ?h1; (case h1 => fail "tk")) | (with_reducible refine' Tk.lst ?h1 ?n1; (case n1 => fail "hp"); (case h1 => fail "tk")) | fail "no tk")
local macro_rules | `(tactic| fail "lk") => `(tactic| first | exact netF_count _ _ | exact netF_links _ _ | exact netF_no _ _ (by decide +kernel) (by decide +kernel) | fail "no lk")
local macro_rules | `(tactic| fail "kt") => `(tactic| first | exact upd_same | assumption | fail "hp")
local macro_rules | `(tactic| fail "na") => `(tactic| first | assumption | (with_reducible refine' NetAt.new ?h1 ?n1; (case n1 => assumption); (case h1 => fail "na")) | (refine' NetAt.same (by assumption) ?h1; (case h1 => fail "na")) | (refine' NetAt.kp (by assumption) (by fail "bx") ?h1; (case h1 => fail "na")) | (with_reducible refine' NetAt.lst ?h1 ?n1; (case n1 => fail "hp"); (case h1 => fail "na")) | fail "no na")
local macro_rules | `(tactic| fail "mono") => `(tactic| first | exact fun _ _ _ _ h q => h _ _ q | exact fun _ _ _ _ h q => (let ⟨v, e, z⟩ := q; ⟨v, e, h _ _ z⟩) | exact fun _ _ _ _ h q => (let ⟨v, e, u, f, z⟩ := q; ⟨v, e, u, f, h _ _ z⟩) | fail "no mono")
local macro_rules | `(tactic| fail "sm") => `(tactic| first | assumption | exact Same.refl _ | (with_reducible refine' Same.new ?h1 ?n1; (case n1 => assumption); (case h1 => fail "sm")) | (refine' Same.tr (by assumption) ?h1; (case h1 => fail "sm")) | fail "no sm")
local macro_rules | `(tactic| fail "fld") => `(tactic| first | (show 0 < 1000; decide) | (show 1 < 1000; decide) | fail "no fld")
local macro_rules | `(tactic| fail "kq") => `(tactic| first | assumption | exact Kq.refl | (with_reducible refine' Kq.at ?h1; (case h1 => fail "kq")) | (with_reducible refine' Kq.new ?h1 ?n1; (case n1 => assumption); (case h1 => fail "kq")) | (refine' Kq.trans ?h1 (by assumption); (case h1 => fail "kq")) | (refine' Kq.trans ?h1 (Kq.of (by assumption)); (case h1 => fail "kq")) | (refine' Kq.trans ?h1 (Kq.ofS (by assumption)); (case h1 => fail "kq")) | fail "no kq")
local macro_rules | `(tactic| fail "mo") => `(tactic| first | assumption | exact MemOk.take (by assumption) _ | exact MemOk.drop (by assumption) _ | exact every_ok _ | fail "no mo")

section
variable {P : Program} {w : World} {K : PySem.W.Frag} {mg : Str → Option Value} {base : Heap}



abbrev sWorld : Stmt := top 39
theorem scWorld : FnScope ["box", "count", "table", "order", "kind", "at", "pair", "k"] ["box", "count"] (defScope sWorld) := ⟨rfl, rfl, rfl, by decide +kernel, rfl, by decide +kernel, by decide +kernel⟩
def spWorld : Sp := fun vs H Q _ => ∃ (b bc : Addr) (n : Nat), vs = [.ref b, .int (n : Int)] ∧ BoxOk H b bc ∧ 1 ≤ n ∧ n ≤ 24 ∧
  ∀ (t : Addr) (M : List Int) (H' : Hp), TabI n M → Kp b H H' → BoxOk H' b bc → H t = none → H' t = some (.lst (M.map V.int)) → Q (.ref t) H'
theorem box_cne {H : Hp} {b c p : Addr} (x : BoxOk H b c) (n : H p = none) : p ≠ c := by
  obtain ⟨ms, x1, x2, x3, x4, hb, hc, r⟩ := x
  exact (ne_of_none hc n).symm
theorem ok_World (D : Df K mg "_law_world" sWorld ["box", "count"]) (T : Txt K mg) (GDraw : C8.Cal P w K mg base 1 "_law_draw" spDraw []) (GPairs : C8.Cal P w K mg base 1 "_law_pairs" spPairs []) (GPutRing : C8.Cal P w K mg base 1 "_law_put_ring" spPutRing []) (GShuffle : C8.Cal P w K mg base 2 "_law_shuffle" spShuffle []) (GPutTree : C8.Cal P w K mg base 2 "_law_put_tree" spPutTree []) (GPutDrawn : C8.Cal P w K mg base 2 "_law_put_drawn" spPutDrawn []) (GPutMore : C8.Cal P w K mg base 2 "_law_put_more" spPutMore []) (GPutTwo : C8.Cal P w K mg base 2 "_law_put_two_rings" spPutTwo []) (GPutForest : C8.Cal P w K mg base 3 "_law_put_forest" spPutForest []) : C8.Cal P w K mg base 4 "_law_world" spWorld [] := by
  obtain ⟨f, fd, F, hm, hb⟩ := D
  refine ⟨f, fd, ["box", "count"], [], F.ok scWorld (fun vs H Q E h => ?_) (fun cdv A outer s H vs Q E hr h => ?_), hm, F.kp, hb, .nil⟩
  · obtain ⟨b, bc, n, rfl, bx, n1, n2, k⟩ := h
    rfl
  · obtain ⟨b, bc, n, rfl, bx, n1, n2, k⟩ := h
    obtain ⟨nb1, nb2, nb3, nb4⟩ := nn_b n2
    refine ⟨_, (pss_cons (ps_set (i := 2) scWorld.nd rfl (Or.inl rfl) (pe_op op_rep (pe_lst (pa_cons pe_int pa_nil)) (pe_op op_mul (pv 1) (pv 1))))
      (pss_cons (ps_set (i := 3) scWorld.nd rfl (Or.inl rfl) (C8.pe_c GShuffle hr (by decide) (by rfl) (pa_cons (pv 0) (pa_cons (pv 1) pa_nil))))
      (pss_cons (ps_set (i := 4) scWorld.nd rfl (Or.inl rfl) (C8.pe_c GDraw hr (by decide) (by rfl) (pa_cons (pv 0) (pa_cons pe_int pa_nil))))
      (C8.pss_cut (ps_if (pt_cmpR op_lt (pv 4) pe_int (nomark _))
        (pss_one (ps_expr (C8.pe_c GPutTree hr (by decide) (by rfl) (pa_cons (pv 0) (pa_cons (pv 2) (pa_cons (pv 1) (pa_cons (pv 3) pa_nil)))))))
        pss_nil)
      (C8.pss_cut (ps_if (PW.pt (pw_or (pt_cmpR op_eq (pv 4) pe_int (nomark _)) (pw_or1 (pt_cmpR op_eq (pv 4) pe_int (nomark _)))))
        (pss_one (ps_expr (C8.pe_c GPutRing hr (by decide) (by rfl) (pa_cons (pv 2) (pa_cons (pv 1) (pa_cons (pe_lc (own := [("k", 7)]) (g := gName 7) (tt := tYes) rfl scWorld.nd (pi_range1 rfl T.range (pa_cons (pv 1) pa_nil)) (blkOk_by (N := ["box", "count", "table", "order", "kind", "at", "pair", "k"]) (sc := defScope sWorld) (by decide +kernel)) (fun _ _ _ _ _ => (pg_name (i := 7) scWorld.nd rfl (Or.inl rfl))) (fun _ _ _ _ _ => pts_nil) (fun _ _ _ _ _ => (pv 7))) pa_nil))))))
        pss_nil)
      (C8.pss_cut (ps_if (PW.pt (pw_and (pt_cmpR op_eq (pv 4) pe_int (nomark _)) (pw_and1 (pt_cmpR op_gt (pv 1) pe_int (nomark _)))))
        (pss_cons (ps_set (i := 5) scWorld.nd rfl (Or.inl rfl) (C8.pe_c GDraw hr (by decide) (by rfl) (pa_cons (pv 0) (pa_cons (pv 1) pa_nil))))
        (pss_cons (ps_asg pe_int (pg_sub (pv 2) (pe_op op_add (pe_op op_mul (pv 5) (pv 1)) (pe_op op_modN (pe_callTy call_int1 (by rfl) T.int (by decide +kernel) (pa_cons (pe_op op_add (pv 5) pe_int) pa_nil)) (pv 1))) set_I))
        (pss_one (ps_asg pe_int (pg_sub (pv 2) (pe_op op_add (pe_op op_mul (pe_op op_modN (pe_callTy call_int1 (by rfl) T.int (by decide +kernel) (pa_cons (pe_op op_add (pv 5) pe_int) pa_nil)) (pv 1)) (pv 1)) (pv 5)) set_I)))))
        pss_nil)
      (C8.pss_cut (ps_if (PW.pt (pw_or (pt_cmpR op_eq (pv 4) pe_int (nomark _)) (pw_or1 (pt_cmpR op_eq (pv 4) pe_int (nomark _)))))
        (pss_one (ps_expr (C8.pe_c GPutRing hr (by decide) (by rfl) (pa_cons (pv 2) (pa_cons (pv 1) (pa_cons (pv 3) pa_nil))))))
        pss_nil)
      (C8.pss_cut (ps_if (pt_cmpR op_eq (pv 4) pe_int (nomark _))
        (pss_one (ps_expr (C8.pe_c GPutMore hr (by decide) (by rfl) (pa_cons (pv 0) (pa_cons (pv 2) (pa_cons (pv 1) pa_nil))))))
        pss_nil)
      (C8.pss_cut (ps_if (PW.pt (pw_or (pt_cmpR op_eq (pv 4) pe_int (nomark _)) (pw_or1 (pt_cmpR op_eq (pv 4) pe_int (nomark _)))))
        (pss_one (ps_expr (C8.pe_c GPutDrawn hr (by decide) (by rfl) (pa_cons (pv 0) (pa_cons (pv 2) (pa_cons (pv 1) (pa_cons (pe_cmpR op_eq (pv 4) pe_int (nomark _)) pa_nil)))))))
        pss_nil)
      (C8.pss_cut (ps_if (pt_cmpR op_eq (pv 4) pe_int (nomark _))
        (pss_one (ps_expr (C8.pe_c GPutForest hr (by decide) (by rfl) (pa_cons (pv 0) (pa_cons (pv 2) (pa_cons (pv 1) (pa_cons (pv 3) pa_nil)))))))
        pss_nil)
      (C8.pss_cut (ps_if (pt_cmpR op_eq (pv 4) pe_int (nomark _))
        (pss_one (ps_expr (C8.pe_c GPutTwo hr (by decide) (by rfl) (pa_cons (pv 0) (pa_cons (pv 2) (pa_cons (pv 1) (pa_cons (pv 3) pa_nil)))))))
        pss_nil)
      (C8.pss_cut (ps_if (pt_cmpR op_eq (pv 4) pe_int (nomark _))
        (pss_one (ps_for PassesOwn.never rfl (pi_list (C8.pe_c GPairs hr (by decide) (by rfl) (pa_cons (pv 1) (pa_cons (pv 2) (pa_cons (pv 3) (pa_cons pe_int pa_nil)))))) (pg_name (i := 6) scWorld.nd rfl (Or.inl rfl))
          (pss_one (ps_asg pe_int (pg_sub (pv 2) (pe_op op_add (pe_op op_mul (pe_ix ix_tup (pv 6) pe_int (fun _ _ => rfl)) (pv 1)) (pe_ix ix_tup (pv 6) pe_int (fun _ _ => rfl))) set_I)))))
        pss_nil)
      (pss_one (ps_ret (pv 2))))))))))))))), ?_⟩
    -- table = [0] * (count * count)
    refine ⟨(by fail "sz"), fun p2 np2 => ⟨_, rfl, _, rfl, _, _, rfl, rfl, (by fail "mul"), _, _, _, rfl, rfl, (by fail "hp"), (by fail "om"), (by fail "om"), (by fail "sz"), fun p1 np1 => ?_⟩⟩
    -- order = _law_shuffle(box, count)
    refine ⟨_, rfl, _, rfl, _, _, _, rfl, (by fail "bx"), (by fail "om"), fun p3 ms3 H3 mo3 ml3 kp3 bx3 np3 hp3 => ?_⟩
    have nt : H p1 = none := free_back np1 (Same.new (Same.refl _) np2)
    have h0 : upd (upd H p2 (.lst [V.int 0])) p1 (.lst (List.replicate ((n : Int) * (n : Int)).toNat [V.int 0]).flatten) p1 = some (.lst ((List.replicate (n * n) 0).map V.int)) := by rw [upd_same, rep_ints, nb4]
    have bx0 := BoxOk.new (o := .lst (List.replicate ((n : Int) * (n : Int)).toNat [V.int 0]).flatten) (BoxOk.new (o := .lst [V.int 0]) bx np2) np1
    have ht3 := kp3.get bx0 h0 nb_ints
    have mt : p3 ≠ p1 := (ne_of_none h0 np3).symm
    have tc : p1 ≠ bc := box_cne bx nt
    have ml : ms3.length ≤ 24 := by omega
    have kp03 : Kp b H H3 := Kp.trans (Kp.new (Kp.new Kp.refl np2) np1) kp3
    -- kind = _law_draw(box, 12)
    refine ⟨_, rfl, _, _, _, rfl, (by fail "bx"), (by fail "om"), (by fail "om"), fun d4 H4 da4 db4 kp4 bx4 => ?_⟩
    refine ⟨fun σ H2 => ∃ (v u w : Option V), σ = [some (.ref b), some (.int (n : Int)), some (.ref p1), some (.ref p3), some (.int d4), v, u, w] ∧ Kp b H H2 ∧ BoxOk H2 b bc ∧ (∃ Mi, H2 p1 = some (.lst (Mi.map V.int)) ∧ TabI n Mi) ∧ H2 p3 = some (.lst (ms3.map V.int)), ?_, ?_⟩
    · have kpi := kp03.trans kp4
      have bxi := bx4
      have hti := kp4.get bx3 ht3 nb_ints
      have hmi := kp4.get bx3 hp3 nb_ints
      have tbi := TabI.zero n
      -- if kind < 2:
      refine ⟨_, rfl, _, _, rfl, rfl, _, rfl, ?_⟩
      refine ifD (fun g5 => ?_) (fun g5 => ?_)
      · -- _law_put_tree(box, table, count, order)
        refine ⟨_, rfl, _, rfl, _, rfl, _, rfl, _, _, _, _, _, _, _, rfl, (by fail "bx"), (by fail "om"), (by fail "om"), (by fail "hp"), (by assumption), (by assumption), (by fail "hp"), (by fail "mo"), (by fail "om"), (by fail "ne"), fun M6 H6 kq6 bx6 ht6 tb6 => ?_⟩
        exact ⟨_, _, _, rfl, Kq.kp kq6 kpi nt, bx6, ⟨_, ht6, tb6⟩, kq6.get bxi hmi nb_ints mt⟩
      · exact ⟨_, _, _, rfl, kpi, bxi, ⟨_, hti, tbi⟩, hmi⟩
    · rintro σ Hi ⟨v, u, w, rfl, kpi, bxi, ⟨Mi, hti, tbi⟩, hmi⟩
      refine ⟨fun σ H2 => ∃ (v u w : Option V), σ = [some (.ref b), some (.int (n : Int)), some (.ref p1), some (.ref p3), some (.int d4), v, u, w] ∧ Kp b H H2 ∧ BoxOk H2 b bc ∧ (∃ Mi, H2 p1 = some (.lst (Mi.map V.int)) ∧ TabI n Mi) ∧ H2 p3 = some (.lst (ms3.map V.int)), ?_, ?_⟩
      · -- if kind == 2 or kind == 3:
        refine ⟨_, rfl, rfl, _, rfl, ?_⟩
        refine ifEqI (fun g7 => ?_) (fun g7 => ?_)
        · fail "ite"
          -- _law_put_ring(table, count, [k for k in range(count)])
          refine ⟨_, rfl, _, rfl, _, rfl, _, rfl, (by fail "om"), (by fail "om"), fun D1 nD1 => lc_range (fun i H' => Same Hi H' ∧ H' D1 = some (.lst ((every i).map V.int))) ⟨Same.new (Same.refl _) nD1, upd_same⟩ (fun i H' hi z => by
      obtain ⟨sm, hD⟩ := z
      have hl : (every i).length ≤ 24 := by rw [every_len]; omega
      refine ⟨rfl, ?_⟩
      unfold tYes
      refine iteT ?_
      refine ⟨_, rfl, _, hD, Evl.sz_lt (by rw [List.length_map]; omega), Same.mut sm nD1, ?_⟩
      rw [upd_same, every_succ, List.map_append, Int.zero_add]
      rfl) (fun H' z => ?_)⟩
          obtain ⟨smE, hE⟩ := z
          have en : ((n : Int)).toNat = n := by omega
          rw [en] at hE
          refine ⟨_, _, _, _, _, rfl, (by fail "om"), (by fail "om"), (by fail "hp"), (by assumption), (by fail "hp"), (by fail "mo"), (by fail "om"), (by fail "ne"), fun M8 H8 kt8 ht8 tb8 => ?_⟩
          exact ⟨_, _, _, rfl, Kq.kp ((Kq.ofS smE).trans (Kq.kt kt8)) kpi nt, BoxOk.kt (BoxOk.same smE bxi) kt8 (smE _ _ hti) tc, ⟨_, ht8, tb8⟩, kt8 _ _ mt (smE _ _ hmi)⟩
        · refine ⟨_, rfl, rfl, _, rfl, ?_⟩
          refine ifEqI (fun g9 => ?_) (fun g9 => ?_)
          · -- _law_put_ring(table, count, [k for k in range(count)])
            refine ⟨_, rfl, _, rfl, _, rfl, _, rfl, (by fail "om"), (by fail "om"), fun D2 nD2 => lc_range (fun i H' => Same Hi H' ∧ H' D2 = some (.lst ((every i).map V.int))) ⟨Same.new (Same.refl _) nD2, upd_same⟩ (fun i H' hi z => by
      obtain ⟨sm, hD⟩ := z
      have hl : (every i).length ≤ 24 := by rw [every_len]; omega
      refine ⟨rfl, ?_⟩
      unfold tYes
      refine iteT ?_
      refine ⟨_, rfl, _, hD, Evl.sz_lt (by rw [List.length_map]; omega), Same.mut sm nD2, ?_⟩
      rw [upd_same, every_succ, List.map_append, Int.zero_add]
      rfl) (fun H' z => ?_)⟩
            obtain ⟨smE, hE⟩ := z
            have en : ((n : Int)).toNat = n := by omega
            rw [en] at hE
            refine ⟨_, _, _, _, _, rfl, (by fail "om"), (by fail "om"), (by fail "hp"), (by assumption), (by fail "hp"), (by fail "mo"), (by fail "om"), (by fail "ne"), fun M10 H10 kt10 ht10 tb10 => ?_⟩
            exact ⟨_, _, _, rfl, Kq.kp ((Kq.ofS smE).trans (Kq.kt kt10)) kpi nt, BoxOk.kt (BoxOk.same smE bxi) kt10 (smE _ _ hti) tc, ⟨_, ht10, tb10⟩, kt10 _ _ mt (smE _ _ hmi)⟩
          · exact ⟨_, _, _, rfl, kpi, bxi, ⟨_, hti, tbi⟩, hmi⟩
      · rintro σ Hi ⟨v, u, w, rfl, kpi, bxi, ⟨Mi, hti, tbi⟩, hmi⟩
        refine ⟨fun σ H2 => ∃ (v u w : Option V), σ = [some (.ref b), some (.int (n : Int)), some (.ref p1), some (.ref p3), some (.int d4), v, u, w] ∧ Kp b H H2 ∧ BoxOk H2 b bc ∧ (∃ Mi, H2 p1 = some (.lst (Mi.map V.int)) ∧ TabI n Mi) ∧ H2 p3 = some (.lst (ms3.map V.int)), ?_, ?_⟩
        · -- if kind == 3 and count > 1:
          refine ⟨_, rfl, rfl, _, rfl, ?_⟩
          refine ifEqI (fun g11 => ?_) (fun g11 => ?_)
          · refine ⟨_, rfl, _, _, rfl, rfl, _, rfl, ?_⟩
            refine ifD (fun g12 => ?_) (fun g12 => ?_)
            · -- at = _law_draw(box, count)
              refine ⟨_, rfl, _, rfl, _, _, _, rfl, (by fail "bx"), (by fail "om"), (by fail "om"), fun d13 H13 da13 db13 kp13 bx13 => ?_⟩
              obtain ⟨x, ex, hx⟩ := toN da13 db13
              obtain ⟨y, ey, hy⟩ := toN (fm0 (d13 + 1) (n := (n : Int)) (by omega)) (fm1 (d13 + 1) (n := (n : Int)) (by omega))
              have ne : x ≠ y := fun z => ring_ne (s := (n : Int)) (k := d13) (by omega) da13 db13 (by rw [ey, ex, z])
              have in1 := ixT tbi.len hx hy
              have in2 := ixT (tbi.cut hx hy).len hy hx
              rw [← ex, ← ey] at in1 in2
              have tb2 := (tbi.cut hx hy).put hy hx ne.symm
              have htj := kp13.get bxi hti nb_ints
              -- table[at * count + int(at + 1) % count] = 0
              refine ⟨_, rfl, _, rfl, _, rfl, _, _, rfl, rfl, (by fail "mul"), _, rfl, _, _, rfl, rfl, .inl ⟨_, rfl, _, rfl, _, _, rfl, rfl, (by fail "nz"), _, _, rfl, rfl, _, _, _, _, _, rfl, rfl, rfl, (by fail "hp"), (by fail "ixn"), ?_⟩⟩
              -- table[int(at + 1) % count * count + at] = 1
              refine ⟨_, rfl, _, rfl, _, _, rfl, rfl, .inl ⟨_, rfl, _, rfl, _, _, rfl, rfl, (by fail "nz"), _, rfl, _, _, rfl, rfl, (by fail "mul"), _, rfl, _, _, rfl, rfl, _, _, _, _, _, rfl, rfl, rfl, (by fail "hp"), (by fail "ixn"), ?_⟩⟩
              exact ⟨_, _, _, rfl, Kp.mut (Kp.mut (kpi.trans kp13) nt) nt, BoxOk.tab (xs := []) (BoxOk.tab (xs := []) bx13 htj tc) upd_same tc, ⟨_, upd_same, tb2⟩, by rw [upd_ne mt, upd_ne mt]; exact kp13.get bxi hmi nb_ints⟩
            · exact ⟨_, _, _, rfl, kpi, bxi, ⟨_, hti, tbi⟩, hmi⟩
          · fail "ite"
            exact ⟨_, _, _, rfl, kpi, bxi, ⟨_, hti, tbi⟩, hmi⟩
        · rintro σ Hi ⟨v, u, w, rfl, kpi, bxi, ⟨Mi, hti, tbi⟩, hmi⟩
          refine ⟨fun σ H2 => ∃ (v u w : Option V), σ = [some (.ref b), some (.int (n : Int)), some (.ref p1), some (.ref p3), some (.int d4), v, u, w] ∧ Kp b H H2 ∧ BoxOk H2 b bc ∧ (∃ Mi, H2 p1 = some (.lst (Mi.map V.int)) ∧ TabI n Mi) ∧ H2 p3 = some (.lst (ms3.map V.int)), ?_, ?_⟩
          · -- if kind == 4 or kind == 5:
            refine ⟨_, rfl, rfl, _, rfl, ?_⟩
            refine ifEqI (fun g14 => ?_) (fun g14 => ?_)
            · fail "ite"
              -- _law_put_ring(table, count, order)
              refine ⟨_, rfl, _, rfl, _, rfl, _, _, _, _, _, rfl, (by fail "om"), (by fail "om"), (by fail "hp"), (by assumption), (by fail "hp"), (by fail "mo"), (by fail "om"), (by fail "ne"), fun M15 H15 kt15 ht15 tb15 => ?_⟩
              exact ⟨_, _, _, rfl, Kq.kp (Kq.kt kt15) kpi nt, BoxOk.kt bxi kt15 hti tc, ⟨_, ht15, tb15⟩, kt15 _ _ mt hmi⟩
            · refine ⟨_, rfl, rfl, _, rfl, ?_⟩
              refine ifEqI (fun g16 => ?_) (fun g16 => ?_)
              · -- _law_put_ring(table, count, order)
                refine ⟨_, rfl, _, rfl, _, rfl, _, _, _, _, _, rfl, (by fail "om"), (by fail "om"), (by fail "hp"), (by assumption), (by fail "hp"), (by fail "mo"), (by fail "om"), (by fail "ne"), fun M17 H17 kt17 ht17 tb17 => ?_⟩
                exact ⟨_, _, _, rfl, Kq.kp (Kq.kt kt17) kpi nt, BoxOk.kt bxi kt17 hti tc, ⟨_, ht17, tb17⟩, kt17 _ _ mt hmi⟩
              · exact ⟨_, _, _, rfl, kpi, bxi, ⟨_, hti, tbi⟩, hmi⟩
          · rintro σ Hi ⟨v, u, w, rfl, kpi, bxi, ⟨Mi, hti, tbi⟩, hmi⟩
            refine ⟨fun σ H2 => ∃ (v u w : Option V), σ = [some (.ref b), some (.int (n : Int)), some (.ref p1), some (.ref p3), some (.int d4), v, u, w] ∧ Kp b H H2 ∧ BoxOk H2 b bc ∧ (∃ Mi, H2 p1 = some (.lst (Mi.map V.int)) ∧ TabI n Mi) ∧ H2 p3 = some (.lst (ms3.map V.int)), ?_, ?_⟩
            · -- if kind == 5:
              refine ⟨_, rfl, rfl, _, rfl, ?_⟩
              refine ifEqI (fun g18 => ?_) (fun g18 => ?_)
              · -- _law_put_more(box, table, count)
                refine ⟨_, rfl, _, rfl, _, rfl, _, _, _, _, _, rfl, (by fail "bx"), (by fail "om"), (by fail "om"), (by fail "hp"), (by assumption), (by assumption), fun M19 H19 kq19 bx19 ht19 tb19 => ?_⟩
                exact ⟨_, _, _, rfl, Kq.kp kq19 kpi nt, bx19, ⟨_, ht19, tb19⟩, kq19.get bxi hmi nb_ints mt⟩
              · exact ⟨_, _, _, rfl, kpi, bxi, ⟨_, hti, tbi⟩, hmi⟩
            · rintro σ Hi ⟨v, u, w, rfl, kpi, bxi, ⟨Mi, hti, tbi⟩, hmi⟩
              refine ⟨fun σ H2 => ∃ (v u w : Option V), σ = [some (.ref b), some (.int (n : Int)), some (.ref p1), some (.ref p3), some (.int d4), v, u, w] ∧ Kp b H H2 ∧ BoxOk H2 b bc ∧ (∃ Mi, H2 p1 = some (.lst (Mi.map V.int)) ∧ TabI n Mi) ∧ H2 p3 = some (.lst (ms3.map V.int)), ?_, ?_⟩
              · -- if kind == 6 or kind == 7:
                refine ⟨_, rfl, rfl, _, rfl, ?_⟩
                refine ifEqI (fun g20 => ?_) (fun g20 => ?_)
                · fail "ite"
                  -- _law_put_drawn(box, table, count, kind == 6)
                  refine ⟨_, rfl, _, rfl, _, rfl, _, rfl, rfl, _, _, _, _, _, _, rfl, (by fail "bx"), (by fail "om"), (by fail "om"), (by fail "hp"), (by assumption), (by assumption), fun M21 H21 kq21 bx21 ht21 tb21 => ?_⟩
                  exact ⟨_, _, _, rfl, Kq.kp kq21 kpi nt, bx21, ⟨_, ht21, tb21⟩, kq21.get bxi hmi nb_ints mt⟩
                · refine ⟨_, rfl, rfl, _, rfl, ?_⟩
                  refine ifEqI (fun g22 => ?_) (fun g22 => ?_)
                  · -- _law_put_drawn(box, table, count, kind == 6)
                    refine ⟨_, rfl, _, rfl, _, rfl, _, rfl, rfl, _, _, _, _, _, _, rfl, (by fail "bx"), (by fail "om"), (by fail "om"), (by fail "hp"), (by assumption), (by assumption), fun M23 H23 kq23 bx23 ht23 tb23 => ?_⟩
                    exact ⟨_, _, _, rfl, Kq.kp kq23 kpi nt, bx23, ⟨_, ht23, tb23⟩, kq23.get bxi hmi nb_ints mt⟩
                  · exact ⟨_, _, _, rfl, kpi, bxi, ⟨_, hti, tbi⟩, hmi⟩
              · rintro σ Hi ⟨v, u, w, rfl, kpi, bxi, ⟨Mi, hti, tbi⟩, hmi⟩
                refine ⟨fun σ H2 => ∃ (v u w : Option V), σ = [some (.ref b), some (.int (n : Int)), some (.ref p1), some (.ref p3), some (.int d4), v, u, w] ∧ Kp b H H2 ∧ BoxOk H2 b bc ∧ (∃ Mi, H2 p1 = some (.lst (Mi.map V.int)) ∧ TabI n Mi) ∧ H2 p3 = some (.lst (ms3.map V.int)), ?_, ?_⟩
                · -- if kind == 8:
                  refine ⟨_, rfl, rfl, _, rfl, ?_⟩
                  refine ifEqI (fun g24 => ?_) (fun g24 => ?_)
                  · -- _law_put_forest(box, table, count, order)
                    refine ⟨_, rfl, _, rfl, _, rfl, _, rfl, _, _, _, _, _, _, _, rfl, (by fail "bx"), (by fail "om"), (by fail "om"), (by fail "hp"), (by assumption), (by assumption), (by fail "hp"), (by fail "mo"), (by fail "om"), (by fail "ne"), (by assumption), fun M25 H25 kq25 bx25 ht25 tb25 => ?_⟩
                    exact ⟨_, _, _, rfl, Kq.kp kq25 kpi nt, bx25, ⟨_, ht25, tb25⟩, kq25.get bxi hmi nb_ints mt⟩
                  · exact ⟨_, _, _, rfl, kpi, bxi, ⟨_, hti, tbi⟩, hmi⟩
                · rintro σ Hi ⟨v, u, w, rfl, kpi, bxi, ⟨Mi, hti, tbi⟩, hmi⟩
                  refine ⟨fun σ H2 => ∃ (v u w : Option V), σ = [some (.ref b), some (.int (n : Int)), some (.ref p1), some (.ref p3), some (.int d4), v, u, w] ∧ Kp b H H2 ∧ BoxOk H2 b bc ∧ (∃ Mi, H2 p1 = some (.lst (Mi.map V.int)) ∧ TabI n Mi) ∧ H2 p3 = some (.lst (ms3.map V.int)), ?_, ?_⟩
                  · -- if kind == 9:
                    refine ⟨_, rfl, rfl, _, rfl, ?_⟩
                    refine ifEqI (fun g26 => ?_) (fun g26 => ?_)
                    · -- _law_put_two_rings(box, table, count, order)
                      refine ⟨_, rfl, _, rfl, _, rfl, _, rfl, _, _, _, _, _, _, _, rfl, (by fail "bx"), (by fail "om"), (by fail "om"), (by fail "hp"), (by assumption), (by assumption), (by fail "hp"), (by fail "mo"), (by fail "om"), (by fail "ne"), (by assumption), fun M27 H27 kq27 bx27 ht27 tb27 => ?_⟩
                      exact ⟨_, _, _, rfl, Kq.kp kq27 kpi nt, bx27, ⟨_, ht27, tb27⟩, kq27.get bxi hmi nb_ints mt⟩
                    · exact ⟨_, _, _, rfl, kpi, bxi, ⟨_, hti, tbi⟩, hmi⟩
                  · rintro σ Hi ⟨v, u, w, rfl, kpi, bxi, ⟨Mi, hti, tbi⟩, hmi⟩
                    refine ⟨fun σ H2 => ∃ (v u w : Option V), σ = [some (.ref b), some (.int (n : Int)), some (.ref p1), some (.ref p3), some (.int d4), v, u, w] ∧ Kp b H H2 ∧ BoxOk H2 b bc ∧ (∃ Mi, H2 p1 = some (.lst (Mi.map V.int)) ∧ TabI n Mi) ∧ H2 p3 = some (.lst (ms3.map V.int)), ?_, ?_⟩
                    · -- if kind == 10:
                      refine ⟨_, rfl, rfl, _, rfl, ?_⟩
                      refine ifEqI (fun g28 => ?_) (fun g28 => ?_)
                      · obtain ⟨R, tr, ir⟩ := id tbi
                        -- for pair in _law_pairs(count, table, order, 0):
                        refine ⟨_, rfl, _, rfl, _, rfl, _, _, _, _, _, _, _, rfl, (by fail "om"), (by fail "hp"), (by assumption), (by fail "hp"), (by fail "mo"), (by fail "om"), fun p29 as29 H29 sm29 np29 hp29 pt29 => ?_⟩
                        have bx29 := BoxOk.same sm29 bxi
                        have ht29 := sm29 _ _ hti
                        have pt1 : p29 ≠ p1 := (ne_of_none hti np29).symm
                        have l29 : as29.length ≤ 576 := by rw [pt29.1]; exact prs_576 R 0 ml
                        refine ⟨_, rfl, ⟨_, SqL.of (by fail "hp")⟩, for_list (K := K) (a := p29) (xs := as29.map V.ref) (fun i σ H2 => ∃ (v u w : Option V) (Mj : List Int), σ = [some (.ref b), some (.int (n : Int)), some (.ref p1), some (.ref p3), some (.int d4), v, u, w] ∧ Kq b p1 H29 H2 ∧ BoxOk H2 b bc ∧ H2 p1 = some (.lst (Mj.map V.int)) ∧ TabI n Mj) ⟨_, _, _, Mi, rfl, Kq.refl, bx29, ht29, tbi⟩ (fun i σ H2 _ z => by obtain ⟨v, u, w, Mj, _, kq, _⟩ := z; exact SqL.of (kq.get bx29 hp29 nb_refs pt1)) ?_ ?_⟩
                        · rintro i x0 σ Hj hx0 ⟨v2, u2, w2, Mj, rfl, kqj, bxj, htj, tbj⟩
                          obtain ⟨a1, x1, y1, rfl, ea, ep, hta0⟩ := pt29.item hx0
                          have hta := kqj.get bx29 hta0 nb_tup (ne_of hta0 ht29 (by intro q; cases q))
                          have hg := prs_good mo3 _ (List.mem_of_getElem? ep)
                          obtain ⟨x, ex, hx⟩ := toN (n := n) (x := x1) hg.1 hg.2.1
                          obtain ⟨y, ey, hy⟩ := toN (n := n) (x := y1) hg.2.2.1 hg.2.2.2.1
                          subst ex
                          subst ey
                          have ne : x ≠ y := fun z => hg.2.2.2.2 (by rw [z])
                          have in1 := ixT tbj.len hx hy
                          -- table[pair[0] * count + pair[1]] = 1
                          refine ⟨_, rfl, _, rfl, _, _, _, _, rfl, rfl, SqT.of (by fail "hp"), (by fail "ix"), _, rfl, _, _, rfl, rfl, (by fail "mul"), _, rfl, _, _, _, _, rfl, rfl, SqT.of (by fail "hp"), (by fail "ix"), _, _, rfl, rfl, _, _, _, _, _, rfl, rfl, rfl, (by fail "hp"), (by fail "ixn"), ?_⟩
                          exact ⟨_, _, _, _, rfl, Kq.at kqj, BoxOk.tab (xs := []) bxj htj tc, upd_same, tbj.put hx hy ne⟩
                        · rintro σ Hj ⟨v2, u2, w2, Mj, rfl, kqj, bxj, htj, tbj⟩
                          exact ⟨_, _, _, rfl, Kq.kp ((Kq.ofS sm29).trans kqj) kpi nt, bxj, ⟨_, htj, tbj⟩, kqj.get bx29 (sm29 _ _ hmi) nb_ints mt⟩
                      · exact ⟨_, _, _, rfl, kpi, bxi, ⟨_, hti, tbi⟩, hmi⟩
                    · rintro σ Hi ⟨v, u, w, rfl, kpi, bxi, ⟨Mi, hti, tbi⟩, hmi⟩
                      -- return table
                      refine ⟨_, rfl, ?_⟩
                      exact k p1 Mi _ tbi kpi bxi nt hti
end
end K01

end
section
set_option Elab.async false
set_option linter.all false
/- what can be reached -/
namespace RM
open Kit KI
/-- reached from S along links of R between members of A -/
inductive Rch (n : Nat) (R : Rel) (S A : List Int) : Nat → Prop
  | start {x : Nat} : x < n → (x : Int) ∈ S → (x : Int) ∈ A → Rch n R S A x
  | step {x y : Nat} : Rch n R S A x → y < n → R x y = true → (y : Int) ∈ A → Rch n R S A y
theorem Rch.lt {n : Nat} {R : Rel} {S A : List Int} {x : Nat} (h : Rch n R S A x) : x < n := by
  cases h with
  | start h _ _ => exact h
  | step _ h _ _ => exact h
theorem Rch.mem {n : Nat} {R : Rel} {S A : List Int} {x : Nat} (h : Rch n R S A x) : (x : Int) ∈ A := by
  cases h with
  | start _ _ h => exact h
  | step _ _ _ h => exact h
theorem Rch.least {n : Nat} {R : Rel} {S A : List Int} {D : Nat → Prop} (h0 : ∀ x, x < n → (x : Int) ∈ S → (x : Int) ∈ A → D x) (h1 : ∀ x y, x < n → D x → y < n → R x y = true → (y : Int) ∈ A → D y) {x : Nat} (h : Rch n R S A x) : D x := by
  induction h with
  | start a b c => exact h0 _ a b c
  | step a b c d ih => exact h1 _ _ a.lt ih b c d
theorem Rch.congr {n : Nat} {R R' : Rel} {S A : List Int} (e : ∀ x y, x < n → y < n → R x y = R' x y) {x : Nat} (h : Rch n R S A x) : Rch n R' S A x :=
  h.least (D := Rch n R' S A) (fun _ a b c => .start a b c) fun a b ha hd hb r m => .step hd hb (by rw [← e a b ha hb]; exact r) m
theorem Rch.trans {n : Nat} {R : Rel} {S A : List Int} {x y : Nat} (h : Rch n R S A x) (k : Rch n R [(x : Int)] A y) : Rch n R S A y :=
  k.least (D := Rch n R S A) (fun z a b c => by
    have e : (z : Int) = (x : Int) := List.mem_singleton.mp b
    have e : z = x := by omega
    rw [e]
    exact h) fun a b _ hd hb r m => .step hd hb r m
/-- the links turned -/
def turn (R : Rel) : Rel := fun x y => R y x
theorem Rch.turned {n : Nat} {R : Rel} {A : List Int} {x y : Nat} (hx : x < n) (hA : ∀ z : Nat, z < n → (z : Int) ∈ A) (h : Rch n R [(x : Int)] A y) : Rch n (turn R) [(y : Int)] A x :=
  h.least (D := fun y => Rch n (turn R) [(y : Int)] A x) (fun z a b c => by
    have e : (z : Int) = (x : Int) := List.mem_singleton.mp b
    have e : z = x := by omega
    rw [e]
    exact .start hx (List.mem_singleton.mpr rfl) (hA x hx)) fun a b ha hd hb r m => Rch.trans (x := a) (.step (.start hb (List.mem_singleton.mpr rfl) m) ha r (hA a ha)) hd
noncomputable def rchB (n : Nat) (R : Rel) (S A : List Int) (x : Nat) : Bool := @decide (Rch n R S A x) (Classical.propDecidable _)
theorem rchB_iff {n : Nat} {R : Rel} {S A : List Int} {x : Nat} : rchB n R S A x = true ↔ Rch n R S A x := by
  unfold rchB
  exact @decide_eq_true_iff _ (Classical.propDecidable _)
/-- the list of those reached -/
noncomputable def rchL (n : Nat) (R : Rel) (S A : List Int) : List Int := ((List.range n).filter fun x => rchB n R S A x).map fun (x : Nat) => (x : Int)
/-- of the first i, those of which D tells true -/
def tells (D : Nat → Bool) (i : Nat) : List Int := ((List.range i).filter D).map fun (x : Nat) => (x : Int)
theorem tells_yes {D : Nat → Bool} {i : Nat} (h : D i = true) : tells D (i + 1) = tells D i ++ [(i : Int)] := by
  unfold tells
  rw [List.range_succ, List.filter_append, List.map_append, List.filter_cons_of_pos h]
  rfl
theorem tells_no {D : Nat → Bool} {i : Nat} (h : D i = false) : tells D (i + 1) = tells D i := by
  unfold tells
  rw [List.range_succ, List.filter_append, List.map_append, List.filter_cons_of_neg (by rw [h]; exact Bool.false_ne_true)]
  exact List.append_nil _
theorem tells_len (D : Nat → Bool) (i : Nat) : (tells D i).length ≤ i := by
  unfold tells
  rw [List.length_map]
  have := List.length_filter_le D (List.range i)
  rw [List.length_range] at this
  exact this
theorem tells_congr {D D' : Nat → Bool} {i : Nat} (h : ∀ x, x < i → D x = D' x) : tells D i = tells D' i := by
  unfold tells
  congr 1
  exact List.filter_congr fun x hx => h x (List.mem_range.mp hx)
theorem rchL_tells (n : Nat) (R : Rel) (S A : List Int) : rchL n R S A = tells (rchB n R S A) n := rfl
theorem mem_tells {D : Nat → Bool} {i : Nat} {x : Nat} : (x : Int) ∈ tells D i ↔ x < i ∧ D x = true := by
  unfold tells
  rw [List.mem_map]
  constructor
  · rintro ⟨y, hy, e⟩
    have e : y = x := by omega
    subst e
    obtain ⟨h1, h2⟩ := List.mem_filter.mp hy
    exact ⟨List.mem_range.mp h1, h2⟩
  · rintro ⟨h1, h2⟩
    exact ⟨x, List.mem_filter.mpr ⟨List.mem_range.mpr h1, h2⟩, rfl⟩
theorem tells_all {D : Nat → Bool} {n : Nat} (h : ∀ x, x < n → D x = true) : tells D n = every n := by
  unfold tells every
  rw [List.filter_eq_self.mpr fun x hx => h x (List.mem_range.mp hx)]
theorem tells_every {D : Nat → Bool} {n : Nat} : tells D n = every n ↔ ∀ x, x < n → D x = true := by
  constructor
  · intro h x hx
    have m : (x : Int) ∈ every n := mem_every.mpr ⟨by omega, by omega⟩
    rw [← h] at m
    exact (mem_tells.mp m).2
  · exact tells_all
theorem tells_count {D : Nat → Bool} {n : Nat} : (tells D n).length = n ↔ ∀ x, x < n → D x = true := by
  constructor
  · intro h
    have e : ((List.range n).filter D).length = (List.range n).length := by
      rw [List.length_range]
      unfold tells at h
      rw [List.length_map] at h
      exact h
    intro x hx
    exact List.length_filter_eq_length_iff.mp e x (List.mem_range.mpr hx)
  · intro h
    rw [tells_all h, every_len]
/-- all are reached from each one -/
def Strong (n : Nat) (R : Rel) : Prop := ∀ x y, x < n → y < n → Rch n R [(x : Int)] (every n) y
theorem strong_iff {n : Nat} {R : Rel} (h : 1 ≤ n) : Strong n R ↔ (∀ y, y < n → Rch n R [(0 : Int)] (every n) y) ∧ ∀ y, y < n → Rch n (turn R) [(0 : Int)] (every n) y := by
  have hA : ∀ z : Nat, z < n → (z : Int) ∈ every n := fun z hz => mem_every.mpr ⟨by omega, by omega⟩
  constructor
  · intro s
    exact ⟨fun y hy => s 0 y (by omega) hy, fun y hy => Rch.turned (x := y) (y := 0) hy hA (s y 0 hy (by omega))⟩
  · rintro ⟨h1, h2⟩ x y hx hy
    have a : Rch n (turn (turn R)) [(x : Int)] (every n) 0 := Rch.turned (x := 0) (y := x) (by omega) hA (h2 x hx)
    exact Rch.trans (x := 0) (a.congr fun _ _ _ _ => rfl) (h1 y hy)
end RM

end
section
set_option Elab.async false
set_option linter.all false
set_option maxRecDepth 100000
set_option maxHeartbeats 4000000
/- lists of truths; the search -/
namespace RM
open PySem L2 Kit KR KI
def bl (n : Nat) (D : Nat → Bool) : List V := (List.range n).map fun x => V.bl (D x)
theorem bl_len (n : Nat) (D : Nat → Bool) : (bl n D).length = n := by unfold bl; rw [List.length_map, List.length_range]
theorem bl_snoc (i : Nat) (D : Nat → Bool) : bl (i + 1) D = bl i D ++ [V.bl (D i)] := by
  unfold bl
  rw [List.range_succ, List.map_append]
  rfl
theorem bl_at {n x : Nat} (D : Nat → Bool) (h : x < n) : (bl n D)[x]? = some (V.bl (D x)) := by
  unfold bl
  rw [List.getElem?_map, List.getElem?_range h]
  rfl
theorem bl_ix {n x : Nat} (D : Nat → Bool) (h : x < n) : atI (bl n D) (x : Int) = some (V.bl (D x)) := at_of0 (bl_at D h)
def on (D : Nat → Bool) (y : Nat) : Nat → Bool := fun x => D x || decide (x = y)
theorem bl_set {n y : Nat} (D : Nat → Bool) (h : y < n) : (bl n D).set y (V.bl true) = bl n (on D y) := by
  refine List.ext_getElem? fun i => ?_
  by_cases e : i = y
  · subst e
    rw [List.getElem?_set_self (by rw [bl_len]; exact h), bl_at _ h]
    unfold on
    rw [decide_eq_true rfl, Bool.or_true]
  · rw [List.getElem?_set_ne (fun z => e z.symm)]
    by_cases l : i < n
    · rw [bl_at _ l, bl_at _ l]
      unfold on
      rw [decide_eq_false e, Bool.or_false]
    · rw [List.getElem?_eq_none (by rw [bl_len]; omega), List.getElem?_eq_none (by rw [bl_len]; omega)]
def unm (n : Nat) (D : Nat → Bool) : Nat := ((List.range n).filter fun x => !D x).length
theorem unm_succ (n : Nat) (D : Nat → Bool) : unm (n + 1) D = unm n D + if D n = true then 0 else 1 := by
  unfold unm
  rw [List.range_succ, List.filter_append, List.length_append]
  cases e : D n
  · rw [List.filter_cons_of_pos (by rw [e]; rfl)]
    rfl
  · rw [List.filter_cons_of_neg (by rw [e]; exact Bool.false_ne_true)]
    rfl
theorem unm_on {n y : Nat} {D : Nat → Bool} (h : y < n) (f : D y = false) : unm n (on D y) + 1 = unm n D := by
  induction n with
  | zero => omega
  | succ n ih =>
    rw [unm_succ, unm_succ]
    by_cases e : y = n
    · subst e
      have s : unm y (on D y) = unm y D := by
        unfold unm
        congr 1
        refine List.filter_congr fun x hx => ?_
        have := List.mem_range.mp hx
        unfold on
        rw [decide_eq_false (by omega), Bool.or_false]
      have t : on D y y = true := by unfold on; rw [decide_eq_true rfl, Bool.or_true]
      rw [s, if_pos t, f]
      rfl
    · have t : on D y n = D n := by unfold on; rw [decide_eq_false (fun z => e z.symm), Bool.or_false]
      rw [t]
      have := ih (by omega)
      omega
theorem unm_le (n : Nat) (D : Nat → Bool) : unm n D ≤ n := by
  unfold unm
  have := List.length_filter_le (fun x => !D x) (List.range n)
  rw [List.length_range] at this
  exact this
/-- how far the search has come: the marks D, the waiting ws, the one that is being asked (or none) with those of it that are done -/
structure Srch (n : Nat) (R : Rel) (S A : List Int) (D : Nat → Bool) (ws : List Int) (cur : Option (Nat × List Int)) : Prop where
  snd : ∀ x, x < n → D x = true → Rch n R S A x
  st : ∀ x, x < n → (x : Int) ∈ S → (x : Int) ∈ A → D x = true
  wt : ∀ z ∈ ws, ∃ x : Nat, z = (x : Int) ∧ x < n ∧ D x = true
  cl : ∀ x, x < n → D x = true → (x : Int) ∉ ws → (∀ c, cur = some c → x ≠ c.1) → ∀ y, y < n → R x y = true → (y : Int) ∈ A → D y = true
  cu : ∀ c, cur = some c → c.1 < n ∧ D c.1 = true ∧ ∀ y : Nat, (y : Int) ∈ c.2 → (y : Int) ∈ A → D y = true
theorem Srch.done {n : Nat} {R : Rel} {S A : List Int} {D : Nat → Bool} (h : Srch n R S A D [] none) : ∀ x, x < n → D x = rchB n R S A x := fun x hx => by
  have k : D x = true ↔ rchB n R S A x = true := by
    rw [rchB_iff]
    exact ⟨h.snd x hx, fun r => r.least (D := fun x => x < n → D x = true) (fun a b c d _ => h.st a b c d) (fun a b ha hd hb r m _ => h.cl a ha (hd ha) (List.not_mem_nil) (fun _ z => nomatch z) b hb r m) hx⟩
  cases e : D x <;> cases f : rchB n R S A x
  · rfl
  · rw [e, f] at k; exact absurd (k.mpr rfl) Bool.false_ne_true
  · rw [e, f] at k; exact absurd (k.mp rfl) Bool.false_ne_true
  · rfl
theorem Srch.init {n : Nat} {R : Rel} {S A : List Int} {D : Nat → Bool} (h : ∀ x, D x = (decide ((x : Int) ∈ A) && decide ((x : Int) ∈ S))) : Srch n R S A D (tells D n) none := by
  have k : ∀ x, D x = true ↔ (x : Int) ∈ A ∧ (x : Int) ∈ S := fun x => by
    rw [h, Bool.and_eq_true, decide_eq_true_iff, decide_eq_true_iff]
  refine ⟨fun x hx d => .start hx ((k x).mp d).2 ((k x).mp d).1, fun x _ a b => (k x).mpr ⟨b, a⟩, fun z hz => ?_, fun x hx d nw => absurd (mem_tells.mpr ⟨hx, d⟩) nw, fun _ z => nomatch z⟩
  unfold tells at hz
  obtain ⟨x, hx, e⟩ := List.mem_map.mp hz
  obtain ⟨h1, h2⟩ := List.mem_filter.mp hx
  exact ⟨x, e.symm, List.mem_range.mp h1, h2⟩
theorem Srch.pop {n : Nat} {R : Rel} {S A : List Int} {D : Nat → Bool} {ws : List Int} {z : Int} (h : Srch n R S A D (ws ++ [z]) none) : ∃ x : Nat, z = (x : Int) ∧ x < n ∧ Srch n R S A D ws (some (x, [])) := by
  obtain ⟨x, e, hx, d⟩ := h.wt z (List.mem_append_right _ (List.mem_singleton.mpr rfl))
  refine ⟨x, e, hx, h.snd, h.st, fun q hq => h.wt q (List.mem_append_left _ hq), fun y hy dy nw nc => h.cl y hy dy (fun m => ?_) (fun _ q => nomatch q), fun c hc => ?_⟩
  · cases List.mem_append.mp m with
    | inl m => exact nw m
    | inr m =>
      have := List.mem_singleton.mp m
      exact nc (x, []) rfl (by show y = x; omega)
  · cases hc
    exact ⟨hx, d, fun _ q => nomatch q⟩
theorem Srch.mark {n : Nat} {R : Rel} {S A : List Int} {D : Nat → Bool} {ws ds : List Int} {x y : Nat} (h : Srch n R S A D ws (some (x, ds))) (hy : y < n) (r : R x y = true) (m : (y : Int) ∈ A) : Srch n R S A (on D y) (ws ++ [(y : Int)]) (some (x, ds ++ [(y : Int)])) := by
  have o : ∀ z, on D y z = true ↔ D z = true ∨ z = y := fun z => by
    unfold on
    rw [Bool.or_eq_true, decide_eq_true_iff]
  obtain ⟨hx, dx, hd⟩ := h.cu _ rfl
  refine ⟨fun z hz d => ?_, fun z hz a b => (o z).mpr (.inl (h.st z hz a b)), fun q hq => ?_, fun z hz d nw nc w hw rz mw => ?_, fun c hc => ?_⟩
  · cases (o z).mp d with
    | inl d => exact h.snd z hz d
    | inr e => rw [e]; exact .step (h.snd x hx dx) hy r m
  · cases List.mem_append.mp hq with
    | inl hq =>
      obtain ⟨z, e, hz, d⟩ := h.wt q hq
      exact ⟨z, e, hz, (o z).mpr (.inl d)⟩
    | inr hq => exact ⟨y, List.mem_singleton.mp hq, hy, (o y).mpr (.inr rfl)⟩
  · cases (o z).mp d with
    | inl d => exact (o w).mpr (.inl (h.cl z hz d (fun q => nw (List.mem_append_left _ q)) (fun c hc => by cases hc; exact nc (x, ds ++ [(y : Int)]) rfl) w hw rz mw))
    | inr e => exact absurd (List.mem_append_right _ (List.mem_singleton.mpr (by rw [e]))) nw
  · cases hc
    refine ⟨hx, (o x).mpr (.inl dx), fun z hz mz => ?_⟩
    cases List.mem_append.mp hz with
    | inl hz => exact (o z).mpr (.inl (hd z hz mz))
    | inr hz => exact (o z).mpr (.inr (by have := List.mem_singleton.mp hz; omega))
theorem Srch.pass {n : Nat} {R : Rel} {S A : List Int} {D : Nat → Bool} {ws ds : List Int} {x y : Nat} (h : Srch n R S A D ws (some (x, ds))) (d : (y : Int) ∈ A → D y = true) : Srch n R S A D ws (some (x, ds ++ [(y : Int)])) := by
  obtain ⟨hx, dx, hd⟩ := h.cu _ rfl
  refine ⟨h.snd, h.st, h.wt, fun z hz dz nw nc => h.cl z hz dz nw (fun c hc => by cases hc; exact nc (x, ds ++ [(y : Int)]) rfl), fun c hc => ?_⟩
  cases hc
  refine ⟨hx, dx, fun z hz mz => ?_⟩
  cases List.mem_append.mp hz with
  | inl hz => exact hd z hz mz
  | inr hz =>
    have e : z = y := by have := List.mem_singleton.mp hz; omega
    rw [e]
    exact d (e ▸ mz)
theorem Srch.end {n : Nat} {R : Rel} {S A : List Int} {D : Nat → Bool} {ws ds : List Int} {x : Nat} (h : Srch n R S A D ws (some (x, ds))) (all : ∀ y, y < n → R x y = true → (y : Int) ∈ ds) : Srch n R S A D ws none := by
  obtain ⟨hx, dx, hd⟩ := h.cu _ rfl
  refine ⟨h.snd, h.st, h.wt, fun z hz dz nw _ w hw r m => ?_, fun _ q => nomatch q⟩
  by_cases e : z = x
  · subst e
    exact hd w (all w hw r) m
  · exact h.cl z hz dz nw (fun c hc => by cases hc; exact e) w hw r m
end RM

end
section
set_option Elab.async false
set_option linter.all false
set_option maxRecDepth 100000
set_option maxHeartbeats 4000000
namespace K01
open PySem L2 Kit KR KX KI RM
local macro_rules | `(tactic| fail "om") => `(tactic| first | omega | (simp only [List.length_map, List.length_append, List.length_cons, List.length_nil]; omega) | (simp only [List.length_map, List.length_append, List.length_cons, List.length_nil] at *; omega) | assumption | decide | (simp only [List.length_take, List.length_drop]; omega) | (rw [every_len]; omega) | fail "no om")
local macro_rules | `(tactic| fail "nz") => `(tactic| first | decide | omega | fail "no nz")
local macro_rules | `(tactic| fail "dv") => `(tactic| exact ⟨by first | decide | omega, by first | decide | omega⟩)
local macro_rules | `(tactic| fail "mul") => `(tactic| first | exact .inr ⟨by decide, by decide⟩ | exact .inl ⟨by decide, by decide⟩ | exact mulF (by decide) (by decide) | exact .inl ⟨by omega, by omega⟩ | exact .inr ⟨by omega, by omega⟩ | fail "no mul")
local macro_rules | `(tactic| fail "sz") => `(tactic| first | assumption | exact Nat.zero_le _ | (show 1 ≤ sizeLine; decide) | (show 2 ≤ sizeLine; decide) | (show 3 ≤ sizeLine; decide) | (show 4 ≤ sizeLine; decide) | (show 5 ≤ sizeLine; decide) | exact Evl.sz_of (by omega) | (refine Evl.sz_of ?_; simp only [List.length_append, List.length_map, List.length_cons, List.length_nil]; omega) | (refine Evl.sz_of ?_; simp only [List.length_append, List.length_map, List.length_cons, List.length_nil, List.length_take, List.length_drop]; omega) | fail "no sz")
local macro_rules | `(tactic| fail "szl") => `(tactic| first | exact Evl.sz_lt (by omega) | (refine Evl.sz_lt ?_; simp only [List.length_append, List.length_map, List.length_cons, List.length_nil]; omega) | fail "no szl")
local macro_rules | `(tactic| fail "ix") => `(tactic| first | assumption | exact ix0 | exact ix1 | exact ix2 | exact at_ref (by assumption) (by omega) | exact at_int (by assumption) (by omega) | exact at_drawn (by assumption) (by assumption) | exact at_lit (by first | assumption | omega) (by fail "om") | rfl | fail "no ix")
local macro_rules | `(tactic| fail "ixn") => `(tactic| first | rfl | assumption | fail "no ixn")
local macro_rules | `(tactic| fail "nb") => `(tactic| first | assumption | exact nb_tup | exact nb_nil | exact nb_ints | exact nb_refs | exact nb_ins | exact nb_dT | exact nb_frz | fail "no nb")
local macro_rules | `(tactic| fail "ne") => `(tactic| first | assumption | exact Ne.symm (by assumption) | exact ne_of_none (by assumption) (by assumption) | exact (ne_of_none (by assumption) (by assumption)).symm | exact ne_of (by assumption) (by assumption) (by intro q; cases q) | exact ne_of (by assumption) (by assumption) (by simp) | fail "no ne")
local macro_rules | `(tactic| fail "hp") => `(tactic| first | assumption | exact upd_same | exact lit0 | exact lit1 | exact lit3 | exact lit2 | (refine' Tk.get (by assumption) ?k1; (case k1 => fail "tk")) | (with_reducible refine' upd_new ?h1 ?n1; (case n1 => assumption); (case h1 => fail "hp")) | (refine' Same.get (by assumption) ?h1; (case h1 => fail "hp")) | (refine' Kp.get (by assumption) (by fail "bx") ?h1 ?d1; (case h1 => fail "hp"); (case d1 => fail "nb")) | (with_reducible refine' upd_oth ?h1 ?n1; (case n1 => fail "ne"); (case h1 => fail "hp")) | (with_reducible refine' upd_oth ?h1 ?n1; (case h1 => fail "hp"); (case n1 => fail "ne")) | (refine' Kq.get (by assumption) (by fail "bx") ?h1 ?d1 (by fail "ne"); (case h1 => fail "hp"); (case d1 => fail "nb")) | fail "no hp")
local macro_rules | `(tactic| fail "bx") => `(tactic| first | assumption | (with_reducible refine' BoxOk.new ?h1 ?n1; (case n1 => assumption); (case h1 => fail "bx")) | (refine' BoxOk.same (by assumption) ?h1; (case h1 => fail "bx")) | (with_reducible refine' BoxOk.mut ?h1 ?h2 ?n1; (case n1 => assumption); (case h2 => assumption); (case h1 => fail "bx")) | fail "no bx")
local macro_rules | `(tactic| fail "kp") => `(tactic| first | assumption | exact Kp.refl | (with_reducible refine' Kp.at ?h1; (case h1 => fail "kp")) | (with_reducible refine' Kp.new ?h1 ?n1; (case n1 => assumption); (case h1 => fail "kp")) | (with_reducible refine' Kp.mut ?h1 ?n1; (case n1 => assumption); (case h1 => fail "kp")) | (refine' Kp.tr (by assumption) ?h1; (case h1 => fail "kp")) | (refine' Kp.tr (Kp.of (by assumption)) ?h1; (case h1 => fail "kp")) | (refine' Kq.kp (by assumption) ?h1 (by assumption); (case h1 => fail "kp")) | fail "no kp")
local macro_rules | `(tactic| fail "ite") => `(tactic| first | refine iteT ?_ | refine iteF ?_)
local macro_rules | `(tactic| fail "tt") => `(tactic| first | rfl | exact decide_eq_true (by first | rfl | omega | assumption) | exact decide_eq_true (congrArg V.int (by first | rfl | omega)) | fail "no tt")
local macro_rules | `(tactic| fail "cv") => `(tactic| first | exact .ty _ | exact .own _)
local macro_rules | `(tactic| fail "tx") => `(tactic| first | exact .base (.int _) | exact .base (.bl _) | exact .base .non | exact .base (.lst (by fail "hp")) | exact .base (.tup (by fail "hp")) | fail "no tx")
local macro_rules | `(tactic| fail "dead") => `(tactic| (exfalso; first | omega | contradiction | simp_all))
local macro_rules | `(tactic| fail "dp") => `(tactic| first | exact .tup (SqT.of (by fail "hp")) (.cons (.int _) (.cons (.int _) .nil)) | exact .lst (SqL.of (by fail "hp")) (dpPrs (by fail "pr")) | exact .lst (SqL.of (by fail "hp")) (dpInts _) | exact .lst (SqL.of (by fail "hp")) .nil | fail "no dp")
local macro_rules | `(tactic| fail "shp") => `(tactic| first | assumption | exact prD_shaped _ | exact PySem.W.ke_shaped_ints _ | rfl | fail "no shp")
local macro_rules | `(tactic| fail "pr") => `(tactic| first | assumption | exact PrT.mono (by assumption) (by fail "tk") | fail "no pr")
local macro_rules | `(tactic| fail "tk") => `(tactic| first | assumption | exact Tk.refl | (with_reducible refine' Tk.new ?h1 ?n1; (case n1 => assumption); (case h1 => fail "tk")) | (refine' Tk.tr (Kp.tk (by assumption) (by fail "bx")) ?h1; (case h1 => fail "tk")) | (refine' Tk.tr (Same.tk (by assumption)) ?h1; (case h1 => fail "tk")) | (with_reducible refine' Tk.lst ?h1 ?n1; (case n1 => fail "hp"); (case h1 => fail "tk")) | fail "no tk")
local macro_rules | `(tactic| fail "lk") => `(tactic| first | exact netF_count _ _ | exact netF_links _ _ | exact netF_no _ _ (by decide +kernel) (by decide +kernel) | fail "no lk")
local macro_rules | `(tactic| fail "kt") => `(tactic| first | exact upd_same | assumption | fail "hp")
local macro_rules | `(tactic| fail "na") => `(tactic| first | assumption | (with_reducible refine' NetAt.new ?h1 ?n1; (case n1 => assumption); (case h1 => fail "na")) | (refine' NetAt.same (by assumption) ?h1; (case h1 => fail "na")) | (refine' NetAt.kp (by assumption) (by fail "bx") ?h1; (case h1 => fail "na")) | (with_reducible refine' NetAt.lst ?h1 ?n1; (case n1 => fail "hp"); (case h1 => fail "na")) | fail "no na")
local macro_rules | `(tactic| fail "mono") => `(tactic| first | exact fun _ _ _ _ h q => h _ _ q | exact fun _ _ _ _ h q => (let ⟨v, e, z⟩ := q; ⟨v, e, h _ _ z⟩) | exact fun _ _ _ _ h q => (let ⟨v, e, u, f, z⟩ := q; ⟨v, e, u, f, h _ _ z⟩) | fail "no mono")
local macro_rules | `(tactic| fail "sm") => `(tactic| first | assumption | exact Same.refl _ | (with_reducible refine' Same.new ?h1 ?n1; (case n1 => assumption); (case h1 => fail "sm")) | (refine' Same.tr (by assumption) ?h1; (case h1 => fail "sm")) | fail "no sm")
local macro_rules | `(tactic| fail "fld") => `(tactic| first | (show 0 < 1000; decide) | (show 1 < 1000; decide) | fail "no fld")
local macro_rules | `(tactic| fail "kq") => `(tactic| first | assumption | exact Kq.refl | (with_reducible refine' Kq.at ?h1; (case h1 => fail "kq")) | (with_reducible refine' Kq.new ?h1 ?n1; (case n1 => assumption); (case h1 => fail "kq")) | (refine' Kq.trans ?h1 (by assumption); (case h1 => fail "kq")) | (refine' Kq.trans ?h1 (Kq.of (by assumption)); (case h1 => fail "kq")) | (refine' Kq.trans ?h1 (Kq.ofS (by assumption)); (case h1 => fail "kq")) | fail "no kq")
local macro_rules | `(tactic| fail "mo") => `(tactic| first | assumption | exact MemOk.take (by assumption) _ | exact MemOk.drop (by assumption) _ | exact every_ok _ | fail "no mo")

section
variable {P : Program} {w : World} {K : PySem.W.Frag} {mg : Str → Option Value} {base : Heap} {CN CI CU CL CS : Addr} {mc mu : Value}

theorem mt_popL {X : Cx} : MtR X "list.pop" (fun x vs H Q => ∃ (l : Addr) (ns : List Int) (y : Int), x = V.ref l ∧ vs = [] ∧ H l = some (.lst ((ns ++ [y]).map V.int)) ∧ Q (.int y) (upd H l (.lst (ns.map V.int)))) := by
  intro pins s σ H x xs v us Q I rx r h
  obtain ⟨l, ns, y, rfl, rfl, hl, k⟩ := h
  have e : (ns ++ [y]).map V.int = ns.map V.int ++ [V.int y] := by rw [List.map_append]; rfl
  refine mt_pop pins s σ H _ _ v us Q I rx r ⟨l, _, V.int y, rfl, rfl, hl, ?_, ?_⟩
  · rw [e, List.length_append, List.length_singleton, Nat.add_sub_cancel, List.getElem?_append_right (Nat.le_refl _), Nat.sub_self]
    rfl
  · rw [e, List.dropLast_concat]
    exact k
theorem ix_listB {X : Cx} {K : PySem.W.Frag} (hK : X.K = K) : IxR X (rIxL K) := by
  subst hK
  exact ix_list
theorem of_rowI {R : Rel} {x j : Nat} {z : Int} (h : z ∈ rowI R x j) : ∃ y : Nat, y < j ∧ R x y = true ∧ z = (y : Int) := by
  unfold rowI at h
  obtain ⟨y, hy, e⟩ := List.mem_map.mp h
  obtain ⟨h1, h2⟩ := List.mem_filter.mp hy
  exact ⟨y, List.mem_range.mp h1, h2, e.symm⟩
theorem to_rowI {R : Rel} {x j y : Nat} (h : y < j) (r : R x y = true) : (y : Int) ∈ rowI R x j := by
  unfold rowI
  exact List.mem_map.mpr ⟨y, List.mem_filter.mpr ⟨List.mem_range.mpr h, r⟩, rfl⟩
theorem ixN_nat {n y : Nat} (h : y < n) : ixN n (y : Int) = some y := by
  unfold ixN
  rw [if_pos (by omega), if_pos (by omega)]
  rfl
/-- those that are no replicas -/
def odd (n : Nat) (xs : List Int) : List Int := xs.filter fun x => !decide (0 ≤ x ∧ x < (n : Int))
theorem odd_app (n : Nat) (xs ys : List Int) : odd n (xs ++ ys) = odd n xs ++ odd n ys := List.filter_append ..
theorem odd_ok {n : Nat} {x : Int} (h : 0 ≤ x ∧ x < (n : Int)) : odd n [x] = [] := by
  unfold odd
  rw [List.filter_cons_of_neg (by rw [decide_eq_true h]; exact Bool.false_ne_true)]
  rfl
theorem odd_no {n : Nat} {x : Int} (h : ¬ (0 ≤ x ∧ x < (n : Int))) : odd n [x] = [x] := by
  unfold odd
  rw [List.filter_cons_of_pos (by rw [decide_eq_false h]; rfl)]
  rfl
theorem odd_take {n i : Nat} {x : Int} {xs : List Int} (e : xs[i]? = some x) : odd n (xs.take (i + 1)) = odd n (xs.take i) ++ odd n [x] := by
  rw [take_at e, odd_app]
theorem odd_first {n i : Nat} {x : Int} {xs ys : List Int} (e : xs[i]? = some x) (h : odd n (xs.take i) = []) (b : ¬ (0 ≤ x ∧ x < (n : Int))) : ∃ r, odd n (xs ++ ys) = x :: r := by
  refine ⟨odd n (xs.drop (i + 1)) ++ odd n ys, ?_⟩
  have q : xs = xs.take (i + 1) ++ xs.drop (i + 1) := (List.take_append_drop _ _).symm
  rw [odd_app]
  conv => lhs; rw [q]
  rw [odd_app, odd_take e, h, odd_no b]
  rfl
theorem odd_nil {n : Nat} {xs : List Int} (h : odd n xs = []) : ∀ x ∈ xs, 0 ≤ x ∧ x < (n : Int) := fun x hx => by
  by_cases b : 0 ≤ x ∧ x < (n : Int)
  · exact b
  · have : x ∈ odd n xs := List.mem_filter.mpr ⟨hx, by rw [decide_eq_false b]; rfl⟩
    rw [h] at this
    cases this
def spReach (CN CU : Addr) : Sp := fun vs H Q E => ∃ (a s l : Addr) (n : Nat) (R : Rel) (ss ws : List Int), vs = [.ref a, .ref s, .ref l] ∧ NetAt CN H a n R ∧ H s = some (.lst (ss.map V.int)) ∧ H l = some (.lst (ws.map V.int)) ∧
  (odd n (ss ++ ws) = [] → ∀ (p : Addr) (H' : Hp), H p = none → Same H H' → H' p = some (.lst ((rchL n R ss ws).map V.int)) → Q (.ref p) H') ∧
  (∀ x r, odd n (ss ++ ws) = x :: r → RaisesU CU x H E)
abbrev sReachWithin : Stmt := top 14
theorem scReachWithin : FnScope ["net", "starts", "allowed", "replica", "inside", "reached", "waiting", "source", "reader"] ["net", "starts", "allowed"] (defScope sReachWithin) := ⟨rfl, rfl, rfl, by decide +kernel, rfl, by decide +kernel, by decide +kernel⟩
theorem ok_ReachWithin (D : Df K mg "reach_within" sReachWithin ["net", "starts", "allowed"]) (T : NTx K mg CN mc mu) (GCheckReplica : CalX P w K mg base 3 "check_replica" (spCheckReplica CN CU)) (Nreaders : MetX P w K mg base 5 CN "readers" (spReaders CN CU)) : CalX P w K mg base 6 "reach_within" (spReach CN CU) := by
  obtain ⟨f, fd, F, hm, hb⟩ := D
  refine ⟨f, fd, ["net", "starts", "allowed"], F.okX scReachWithin (fun vs H Q E h => ?_) (fun cdv A outer s H vs Q E hr h => ?_), hm, F.kp, hb⟩
  · obtain ⟨a, s0, l, n, R, ss, ws, rfl, na, hs, hl, k1, k2⟩ := h
    rfl
  · obtain ⟨a, s0, l, n, R, ss, ws, rfl, na, hs, hl, k1, k2⟩ := h
    have na2 := na
    obtain ⟨⟨dx, d, ha, hd⟩, b1, b2, ir⟩ := na2
    refine ⟨_, (pss_cons (ps_for (passes_of rfl) rfl (pi_list (pv 1)) (pg_name (i := 3) scReachWithin.nd rfl (Or.inl rfl))
        (pss_one (ps_expr (pe_cX GCheckReplica hr (by decide) (by rfl) (passes_call (takes_of rfl rfl rfl rfl) fun _ _ _ _ h => h) (pa_cons (pv 0) (pa_cons (pv 3) pa_nil))))))
      (pss_cons (ps_for (passes_of rfl) rfl (pi_list (pv 2)) (pg_name (i := 3) scReachWithin.nd rfl (Or.inl rfl))
        (pss_one (ps_expr (pe_cX GCheckReplica hr (by decide) (by rfl) (passes_call (takes_of rfl rfl rfl rfl) fun _ _ _ _ h => h) (pa_cons (pv 0) (pa_cons (pv 3) pa_nil))))))
      (pss_cons (ps_set (i := 4) scReachWithin.nd rfl (Or.inr rfl) (pe_lc (own := [("replica", 3)]) (g := gName 3) (tt := tYes) rfl scReachWithin.nd (pi_range1 rfl T.range (pa_cons (pe_fld (pv 0) (by rfl)) pa_nil)) (blkOk_by (N := ["net", "starts", "allowed", "replica", "inside", "reached", "waiting", "source", "reader"]) (sc := defScope sReachWithin) (by decide +kernel)) (fun _ _ _ _ _ => (pg_name (i := 3) scReachWithin.nd rfl (Or.inl rfl))) (fun _ _ _ _ _ => pts_nil) (fun _ _ _ _ _ => (pe_cmpR op_inI (pv 3) (pv 2) (by rfl)))))
      (pss_cons (ps_set (i := 5) scReachWithin.nd rfl (Or.inr rfl) (pe_lc (own := [("replica", 3)]) (g := gName 3) (tt := tYes) rfl scReachWithin.nd (pi_range1 rfl T.range (pa_cons (pe_fld (pv 0) (by rfl)) pa_nil)) (blkOk_by (N := ["net", "starts", "allowed", "replica", "inside", "reached", "waiting", "source", "reader"]) (sc := defScope sReachWithin) (by decide +kernel)) (fun _ _ _ _ _ => (pg_name (i := 3) scReachWithin.nd rfl (Or.inl rfl))) (fun _ _ _ _ _ => pts_nil) (fun _ _ _ _ _ => (pe_and (pe_ix (ix_listB (K := K) (by rfl)) (pv 4) (pv 3) (fun _ _ => rfl)) (pe_one (pe_cmpR op_inI (pv 3) (pv 1) (by rfl)))))))
      (pss_cons (ps_setLc (i := 6) (own := [("replica", 3)]) (g := gName 3) rfl scReachWithin.nd rfl rfl (sw_true rfl rfl rfl (by decide +kernel)) (pi_range1 rfl T.range (pa_cons (pe_fld (pv 0) (by rfl)) pa_nil)) (blkOk_by (N := ["net", "starts", "allowed", "replica", "inside", "reached", "waiting", "source", "reader"]) (sc := defScope sReachWithin) (by decide +kernel)) (fun _ _ _ _ _ => (pg_name (i := 3) scReachWithin.nd rfl (Or.inl rfl))) (fun _ _ _ _ _ => (pts_one (pt_val (pe_ix (ix_listB (K := K) (by rfl)) (pv 5) (pv 3) (fun _ _ => rfl))))) (fun _ _ _ _ _ => (pv 3)))
      (pss_cons (ps_while (passes_of rfl) (pt_truth (pv 6) (by intro _; rfl))
        (pss_cons (ps_set (i := 7) scReachWithin.nd rfl (Or.inl rfl) (pe_bm0 PySem.F.plainAttrs_list PySem.F.slot_list_pop PySem.F.type_list_pop mt_popL (pv 6)))
        (pss_one (ps_for (passes_of rfl) rfl (pi_list (pe_mx Nreaders hr (by decide) (passes_call (takes_of rfl rfl rfl rfl) fun _ _ _ _ h => h) (pv 0) (pa_cons (pv 7) pa_nil))) (pg_name (i := 8) scReachWithin.nd rfl (Or.inl rfl))
          (pss_one (ps_if (PW.pt (pw_and (pt_val (pe_ix ix_list (pv 4) (pv 8) (fun _ _ => rfl))) (pw_and1 (pt_not (pt_val (pe_ix ix_list (pv 5) (pv 8) (fun _ _ => rfl)))))))
            (pss_cons (ps_asg pe_bl (pg_sub (pv 5) (pv 8) set_list))
            (pss_one (ps_expr (pe_bm PySem.F.plainAttrs_list PySem.F.slot_list_append PySem.F.type_list_append mt_appendI (pv 6) (pa_cons (pv 8) pa_nil)))))
            pss_nil))))))
      (pss_one (ps_ret (pe_lc (own := [("replica", 3)]) (g := gName 3) rfl scReachWithin.nd (pi_range1 rfl T.range (pa_cons (pe_fld (pv 0) (by rfl)) pa_nil)) (blkOk_by (N := ["net", "starts", "allowed", "replica", "inside", "reached", "waiting", "source", "reader"]) (sc := defScope sReachWithin) (by decide +kernel)) (fun _ _ _ _ _ => (pg_name (i := 3) scReachWithin.nd rfl (Or.inl rfl))) (fun _ _ _ _ _ => (pts_one (pt_val (pe_ix (ix_listB (K := K) (by rfl)) (pv 5) (pv 3) (fun _ _ => rfl))))) (fun _ _ _ _ _ => (pv 3))))))))))), ?_⟩
    -- for replica in starts:
    refine ⟨_, rfl, _, rfl, ⟨_, SqL.of (by fail "hp")⟩, for_list (K := K) (a := s0) (xs := ss.map V.int) (fun i σ H2 => ∃ v : Option V, σ = [some (.ref a), some (.ref s0), some (.ref l), v, none, none, none, none, none] ∧ Same H H2 ∧ odd n (ss.take i) = []) ⟨_, rfl, Same.refl _, by rw [List.take_zero]; rfl⟩ (fun i σ H2 _ z => by obtain ⟨v, _, sm, _⟩ := z; exact SqL.of (sm _ _ hs)) ?_ ?_⟩
    · rintro i x0 σ Hi hx ⟨v, rfl, smi, oi⟩
      obtain ⟨x, ex, rfl⟩ := item_of hx
      have kB : ¬ (0 ≤ x ∧ x < (n : Int)) → RaisesU CU x H E := fun z => by
        obtain ⟨r, e⟩ := odd_first (ys := ws) ex oi z
        exact k2 _ r e
      -- check_replica(net, replica)
      refine ⟨_, rfl, _, rfl, _, _, _, _, rfl, (by fail "na"), fun gd1 H1 sm1 => ?_, fun z => RaisesU.back (kB z) (by fail "sm")⟩
      exact ⟨_, rfl, by fail "sm", by rw [odd_take ex, oi, odd_ok gd1]; rfl⟩
    · rintro σ Hi ⟨v, rfl, smi, os⟩
      rw [List.length_map, List.take_length] at os
      -- for replica in allowed:
      refine ⟨_, rfl, _, rfl, ⟨_, SqL.of (by fail "hp")⟩, for_list (K := K) (a := l) (xs := ws.map V.int) (fun i σ H2 => ∃ v : Option V, σ = [some (.ref a), some (.ref s0), some (.ref l), v, none, none, none, none, none] ∧ Same H H2 ∧ odd n (ws.take i) = []) ⟨_, rfl, smi, by rw [List.take_zero]; rfl⟩ (fun i σ H2 _ z => by obtain ⟨v, _, sm, _⟩ := z; exact SqL.of (sm _ _ hl)) ?_ ?_⟩
      · rintro i x0 σ Hi hx ⟨v, rfl, smi, oi⟩
        obtain ⟨x, ex, rfl⟩ := item_of hx
        have kB : ¬ (0 ≤ x ∧ x < (n : Int)) → RaisesU CU x H E := fun z => by
          obtain ⟨r, e⟩ := odd_first (ys := []) ex oi z
          rw [List.append_nil] at e
          have e : odd n (ss ++ ws) = x :: r := by rw [odd_app, os, e]; rfl
          exact k2 _ r e
        -- check_replica(net, replica)
        refine ⟨_, rfl, _, rfl, _, _, _, _, rfl, (by fail "na"), fun gd2 H2 sm2 => ?_, fun z => RaisesU.back (kB z) (by fail "sm")⟩
        exact ⟨_, rfl, by fail "sm", by rw [odd_take ex, oi, odd_ok gd2]; rfl⟩
      · rintro σ Hi ⟨v, rfl, smi, ow⟩
        rw [List.length_map, List.take_length] at ow
        have hai := smi _ _ ha
        -- inside = [replica in allowed for replica in range(net.count)]
        refine ⟨_, rfl, _, _, _, _, _, rfl, (by fail "hp"), T.cl, T.n_count, (by fail "lk"), _, rfl, (by fail "om"), (by fail "om"), fun D1 nD1 => lc_range (lo := 0) (n := ((n : Int)).toNat) (fun i H' => Same Hi H' ∧ H' D1 = some (.lst (bl i (fun (x : Nat) => decide ((x : Int) ∈ ws))))) ⟨Same.new (Same.refl _) nD1, upd_same⟩ (fun i H' hi z => by
      obtain ⟨sm, hD⟩ := z
      have hin : i < n := by omega
      have hsz : (bl i (fun (x : Nat) => decide ((x : Int) ∈ ws))).length < sizeLine := Evl.sz_lt (by rw [bl_len]; omega)
      refine ⟨rfl, ?_⟩
      unfold tYes
      refine iteT ?_
      refine ⟨_, rfl, _, rfl, _, _, _, rfl, rfl, sm _ _ (smi _ _ hl), _, hD, hsz, Same.mut sm nD1, ?_⟩
      rw [upd_same, bl_snoc, Int.zero_add]) (fun H1 z => ?_)⟩
        obtain ⟨sm1a, h11⟩ := z
        rw [Int.toNat_natCast] at h11
        have sm1 := smi.trans sm1a
        have ha1 := sm1 _ _ ha
        -- reached = [inside[replica] and replica in starts for replica in range(net.count)]
        refine ⟨_, rfl, _, _, _, _, _, rfl, (by fail "hp"), T.cl, T.n_count, (by fail "lk"), _, rfl, (by fail "om"), (by fail "om"), fun D2 nD2 => lc_range (lo := 0) (n := ((n : Int)).toNat) (fun i H' => Same H1 H' ∧ H' D2 = some (.lst (bl i (fun (x : Nat) => decide ((x : Int) ∈ ws) && decide ((x : Int) ∈ ss))))) ⟨Same.new (Same.refl _) nD2, upd_same⟩ (fun i H' hi z => by
      obtain ⟨sm, hD⟩ := z
      have hin : i < n := by omega
      have hsz : (bl i (fun (x : Nat) => decide ((x : Int) ∈ ws) && decide ((x : Int) ∈ ss))).length < sizeLine := Evl.sz_lt (by rw [bl_len]; omega)
      refine ⟨rfl, ?_⟩
      unfold tYes
      refine iteT ?_
      refine ⟨_, rfl, _, rfl, _, _, _, _, rfl, rfl, SqL.of (sm _ _ h11), (by rw [Int.zero_add]; exact bl_ix _ hin), _, rfl, ?_⟩
      refine ifB (fun g => ?_) fun g => ?_
      · refine ⟨_, rfl, _, rfl, _, _, _, rfl, rfl, sm _ _ (sm1 _ _ hs), _, hD, hsz, Same.mut sm nD2, ?_⟩
        rw [upd_same, bl_snoc, Int.zero_add, g, Bool.true_and]
      · refine ⟨_, hD, hsz, Same.mut sm nD2, ?_⟩
        rw [upd_same, bl_snoc, g, Bool.false_and]) (fun H2 z => ?_)⟩
        obtain ⟨sm2a, h22⟩ := z
        rw [Int.toNat_natCast] at h22
        have sm2 := sm1.trans sm2a
        have h21 := sm2a _ _ h11
        have ha2 := sm2 _ _ ha
        -- waiting = [replica for replica in range(net.count) if reached[replica]]
        refine ⟨_, rfl, _, _, _, _, _, rfl, (by fail "hp"), T.cl, T.n_count, (by fail "lk"), _, rfl, (by fail "om"), (by fail "om"), fun D3 nD3 => lc_range (lo := 0) (n := ((n : Int)).toNat) (fun i H' => Same H2 H' ∧ H' D3 = some (.lst ((tells (fun (x : Nat) => decide ((x : Int) ∈ ws) && decide ((x : Int) ∈ ss)) i).map V.int))) ⟨Same.new (Same.refl _) nD3, upd_same⟩ (fun i H' hi z => by
      obtain ⟨sm, hD⟩ := z
      have hin : i < n := by omega
      have lt := tells_len (fun (x : Nat) => decide ((x : Int) ∈ ws) && decide ((x : Int) ∈ ss)) i
      refine ⟨rfl, ?_⟩
      refine ⟨_, rfl, _, rfl, _, _, _, _, rfl, rfl, SqL.of (sm _ _ h22), (by rw [Int.zero_add]; exact bl_ix _ hin), _, rfl, ?_⟩
      refine ifB (fun g => ?_) fun g => ?_
      · refine ⟨_, rfl, _, hD, Evl.sz_lt (by rw [List.length_map]; omega), Same.mut sm nD3, ?_⟩
        rw [upd_same, tells_yes (D := (fun (x : Nat) => decide ((x : Int) ∈ ws) && decide ((x : Int) ∈ ss))) g, List.map_append, Int.zero_add]
        rfl
      · exact ⟨sm, by rw [tells_no (D := (fun (x : Nat) => decide ((x : Int) ∈ ws) && decide ((x : Int) ∈ ss))) g]; exact hD⟩) (fun H3 z => ?_)⟩
        obtain ⟨sm3a, h33⟩ := z
        rw [Int.toNat_natCast] at h33
        have sm3 := sm2.trans sm3a
        have h31 := sm3a _ _ h21
        have h32 := sm3a _ _ h22
        have nD2h : H D2 = none := free_back nD2 sm1
        have nD3h : H D3 = none := free_back nD3 sm2
        have n12 : D1 ≠ D2 := ne_of_none h11 nD2
        have n13 : D1 ≠ D3 := ne_of_none h21 nD3
        have n23 : D2 ≠ D3 := ne_of_none h22 nD3
        have sr0 : Srch n R ss ws (fun (x : Nat) => decide ((x : Int) ∈ ws) && decide ((x : Int) ∈ ss)) (tells (fun (x : Nat) => decide ((x : Int) ∈ ws) && decide ((x : Int) ∈ ss)) n) none := Srch.init fun _ => rfl
        -- while waiting:
        refine ⟨fun m σ' Hw => (∃ (v u1 u2 : Option V) (D : Nat → Bool) (us : List Int), σ' = [some (.ref a), some (.ref s0), some (.ref l), v, some (.ref D1), some (.ref D2), some (.ref D3), u1, u2] ∧ Same H Hw ∧ Hw D1 = some (.lst (bl n (fun (x : Nat) => decide ((x : Int) ∈ ws)))) ∧ Hw D2 = some (.lst (bl n D)) ∧ Hw D3 = some (.lst (us.map V.int)) ∧ Srch n R ss ws D us none ∧ 2 * unm n D + us.length = m ∧ m ≤ 72), ⟨_, _, _, _, _, _, rfl, sm3, h31, h32, h33, sr0, rfl, by have q1 := unm_le n (fun (x : Nat) => decide ((x : Int) ∈ ws) && decide ((x : Int) ∈ ss)); have q2 := tells_len (fun (x : Nat) => decide ((x : Int) ∈ ws) && decide ((x : Int) ∈ ss)) n; omega⟩, fun m σ Hw z => ?_⟩
        obtain ⟨v3, u1, u2, D, us, rfl, smw, hw1, hw2, hw3, sr, em, lm⟩ := z
        refine ⟨_, rfl, _, .inl ⟨_, SqL.of (by fail "hp"), rfl⟩, ?_⟩
        refine ifB (fun g3 => ?_) (fun g3 => ?_)
        · refine ⟨fun σ' H' => ∃ m', m' < m ∧ (∃ (v u1 u2 : Option V) (D : Nat → Bool) (us : List Int), σ' = [some (.ref a), some (.ref s0), some (.ref l), v, some (.ref D1), some (.ref D2), some (.ref D3), u1, u2] ∧ Same H H' ∧ H' D1 = some (.lst (bl n (fun (x : Nat) => decide ((x : Int) ∈ ws)))) ∧ H' D2 = some (.lst (bl n D)) ∧ H' D3 = some (.lst (us.map V.int)) ∧ Srch n R ss ws D us none ∧ 2 * unm n D + us.length = m' ∧ m' ≤ 72), fun _ _ z => z, ?_⟩
          obtain ⟨vs, z0, rfl⟩ : ∃ vs z0, us = vs ++ [z0] := by
            have ne : us ≠ [] := fun z => by rw [z] at g3; cases g3
            exact ⟨us.dropLast, us.getLast ne, (List.dropLast_concat_getLast ne).symm⟩
          obtain ⟨x, rfl, hx, sr2⟩ := sr.pop
          have hwl : vs.length + 1 + 2 * unm n D = m := by rw [← em, List.length_append]; show _ = _ + (vs.length + 1); omega
          have smp := Same.mut (o := .lst (vs.map V.int)) smw nD3h
          have hap := smp _ _ ha
          -- source = waiting.pop()
          refine ⟨_, rfl, .inl ⟨rfl, _, SqL.of (by fail "hp")⟩, _, _, _, rfl, rfl, (by fail "hp"), ?_⟩
          have hx1 : (upd Hw D3 (.lst (vs.map V.int))) D1 = some (.lst (bl n (fun (x : Nat) => decide ((x : Int) ∈ ws)))) := by rw [upd_ne n13]; exact hw1
          have hx2 : (upd Hw D3 (.lst (vs.map V.int))) D2 = some (.lst (bl n D)) := by rw [upd_ne n23]; exact hw2
          have hx3 : (upd Hw D3 (.lst (vs.map V.int))) D3 = some (.lst (vs.map V.int)) := upd_same
          have nap : NetAt CN (upd Hw D3 (.lst (vs.map V.int))) a n R := NetAt.same smp na
          -- for reader in net.readers(source):
          refine ⟨_, rfl, _, _, _, rfl, (by fail "hp"), (by fail "lk"), _, rfl, _, _, _, _, rfl, (by fail "na"), fun gd4 p4 H4 np4 sm4 hp4 => ⟨_, rfl, ⟨_, SqL.of (by fail "hp")⟩, for_list (K := K) (a := p4) (xs := (rowI R x n).map V.int) (fun j σ Hj => ∃ (u2 : Option V) (Dj : Nat → Bool) (vj : List Int), σ = [some (.ref a), some (.ref s0), some (.ref l), v3, some (.ref D1), some (.ref D2), some (.ref D3), some (.int (x : Int)), u2] ∧ Same H Hj ∧ Hj D1 = some (.lst (bl n (fun (x : Nat) => decide ((x : Int) ∈ ws)))) ∧ Hj D2 = some (.lst (bl n Dj)) ∧ Hj D3 = some (.lst (vj.map V.int)) ∧ Hj p4 = some (.lst ((rowI R x n).map V.int)) ∧ Srch n R ss ws Dj vj (some (x, (rowI R x n).take j)) ∧ 2 * unm n Dj + vj.length < m) ⟨_, D, vs, rfl, smp.trans sm4, sm4 _ _ hx1, sm4 _ _ hx2, sm4 _ _ hx3, hp4, sr2, by omega⟩ (fun j σ Hj _ z => by obtain ⟨_, _, _, _, _, _, _, _, h, _⟩ := z; exact SqL.of h) ?_ ?_⟩, fun z => absurd ⟨by omega, by omega⟩ z⟩
          · rintro j y0 σ Hj hy0 ⟨u2, Dj, vj, rfl, smj, hj1, hj2, hj3, hj4, srj, lj⟩
            obtain ⟨y1, ey, rfl⟩ := item_of hy0
            obtain ⟨y, hy, ry, rfl⟩ := of_rowI (List.mem_of_getElem? ey)
            have ixi := bl_ix (fun (x : Nat) => decide ((x : Int) ∈ ws)) hy
            have ixd := bl_ix Dj hy
            have tk := take_at ey
            have ixs : ixN (bl n Dj).length (y : Int) = some y := by rw [bl_len]; exact ixN_nat hy
            have n42 : p4 ≠ D2 := (ne_of_none hx2 np4).symm
            have n43 : p4 ≠ D3 := (ne_of_none hx3 np4).symm
            -- if inside[reader] and (not reached[reader]):
            refine ⟨_, rfl, _, rfl, _, _, _, _, rfl, rfl, SqL.of (by fail "hp"), (by fail "ix"), _, rfl, ?_⟩
            refine ifB (fun g5 => ?_) (fun g5 => ?_)
            · refine ⟨_, rfl, _, rfl, _, _, _, _, rfl, rfl, SqL.of (by fail "hp"), (by fail "ix"), _, rfl, ?_⟩
              refine nifB (fun g6 => ?_) (fun g6 => ?_)
              · -- reached[reader] = True
                refine ⟨_, rfl, _, rfl, _, _, _, _, rfl, rfl, (by fail "hp"), (by fail "ixn"), ?_⟩
                -- waiting.append(reader)
                refine ⟨_, rfl, .inl ⟨rfl, _, SqL.of (by fail "hp")⟩, _, rfl, _, _, _, rfl, rfl, (by fail "hp"), (by fail "szl"), ?_⟩
                have fr : Dj y = false := g6
                have um := unm_on hy fr
                have mm := of_decide_eq_true g5
                refine ⟨_, on Dj y, vj ++ [(y : Int)], rfl, Same.mut (Same.mut smj nD2h) nD3h, ?_, ?_, upd_same, ?_, ?_, ?_⟩
                · rw [upd_ne n13, upd_ne n12]; exact hj1
                · rw [upd_ne n23, upd_same, bl_set _ hy]
                · rw [upd_ne n43, upd_ne n42]; exact hj4
                · rw [tk]; exact srj.mark hy ry mm
                · rw [List.length_append]; show _ + (_ + 1) < _; omega
              · refine ⟨_, Dj, vj, rfl, smj, hj1, hj2, hj3, hj4, ?_, lj⟩
                rw [tk]
                exact srj.pass fun _ => g6
            · fail "ite"
              refine ⟨_, Dj, vj, rfl, smj, hj1, hj2, hj3, hj4, ?_, lj⟩
              rw [tk]
              exact srj.pass fun mm => absurd mm (of_decide_eq_false g5)
          · rintro σ Hj ⟨u2, Dj, vj, rfl, smj, hj1, hj2, hj3, hj4, srj, lj⟩
            exact ⟨_, by show 2 * unm n Dj + vj.length < m; omega, _, _, _, Dj, vj, rfl, smj, hj1, hj2, hj3, srj.end (fun y hy r => by rw [List.length_map, List.take_length]; exact to_rowI hy r), rfl, by omega⟩
        · obtain rfl : us = [] := by
            cases us with
            | nil => rfl
            | cons _ _ => cases g3
          have hp := sr.done
          have hah := smw _ _ ha
          -- return [replica for replica in range(net.count) if reached[replica]]
          refine ⟨_, rfl, _, _, _, _, _, rfl, (by fail "hp"), T.cl, T.n_count, (by fail "lk"), _, rfl, (by fail "om"), (by fail "om"), fun D4 nD4 => lc_range (lo := 0) (n := ((n : Int)).toNat) (fun i H' => Same Hw H' ∧ H' D4 = some (.lst ((tells D i).map V.int))) ⟨Same.new (Same.refl _) nD4, upd_same⟩ (fun i H' hi z => by
      obtain ⟨sm, hD⟩ := z
      have hin : i < n := by omega
      have lt := tells_len D i
      refine ⟨rfl, ?_⟩
      refine ⟨_, rfl, _, rfl, _, _, _, _, rfl, rfl, SqL.of (sm _ _ hw2), (by rw [Int.zero_add]; exact bl_ix _ hin), _, rfl, ?_⟩
      refine ifB (fun g => ?_) fun g => ?_
      · refine ⟨_, rfl, _, hD, Evl.sz_lt (by rw [List.length_map]; omega), Same.mut sm nD4, ?_⟩
        rw [upd_same, tells_yes g, List.map_append, Int.zero_add]
        rfl
      · exact ⟨sm, by rw [tells_no g]; exact hD⟩) (fun H' z => ?_)⟩
          obtain ⟨smE, hE⟩ := z
          rw [Int.toNat_natCast, tells_congr hp, ← rchL_tells] at hE
          exact k1 (by rw [odd_app, os, ow]; rfl) _ _ (free_back nD4 smw) (smw.trans smE) hE
end
section
end
end K01

end
section
set_option Elab.async false
set_option linter.all false
set_option maxRecDepth 100000
set_option maxHeartbeats 4000000
namespace K01
open PySem L2 Kit KR KX KI RM
local macro_rules | `(tactic| fail "om") => `(tactic| first | omega | (simp only [List.length_map, List.length_append, List.length_cons, List.length_nil]; omega) | (simp only [List.length_map, List.length_append, List.length_cons, List.length_nil] at *; omega) | assumption | decide | (simp only [List.length_take, List.length_drop]; omega) | (rw [every_len]; omega) | fail "no om")
local macro_rules | `(tactic| fail "nz") => `(tactic| first | decide | omega | fail "no nz")
local macro_rules | `(tactic| fail "dv") => `(tactic| exact ⟨by first | decide | omega, by first | decide | omega⟩)
local macro_rules | `(tactic| fail "mul") => `(tactic| first | exact .inr ⟨by decide, by decide⟩ | exact .inl ⟨by decide, by decide⟩ | exact mulF (by decide) (by decide) | exact .inl ⟨by omega, by omega⟩ | exact .inr ⟨by omega, by omega⟩ | fail "no mul")
local macro_rules | `(tactic| fail "sz") => `(tactic| first | assumption | exact Nat.zero_le _ | (show 1 ≤ sizeLine; decide) | (show 2 ≤ sizeLine; decide) | (show 3 ≤ sizeLine; decide) | (show 4 ≤ sizeLine; decide) | (show 5 ≤ sizeLine; decide) | exact Evl.sz_of (by omega) | (refine Evl.sz_of ?_; simp only [List.length_append, List.length_map, List.length_cons, List.length_nil]; omega) | (refine Evl.sz_of ?_; simp only [List.length_append, List.length_map, List.length_cons, List.length_nil, List.length_take, List.length_drop]; omega) | fail "no sz")
local macro_rules | `(tactic| fail "szl") => `(tactic| first | exact Evl.sz_lt (by omega) | (refine Evl.sz_lt ?_; simp only [List.length_append, List.length_map, List.length_cons, List.length_nil]; omega) | fail "no szl")
local macro_rules | `(tactic| fail "ix") => `(tactic| first | assumption | exact ix0 | exact ix1 | exact ix2 | exact at_ref (by assumption) (by omega) | exact at_int (by assumption) (by omega) | exact at_drawn (by assumption) (by assumption) | exact at_lit (by first | assumption | omega) (by fail "om") | rfl | fail "no ix")
local macro_rules | `(tactic| fail "ixn") => `(tactic| first | rfl | assumption | fail "no ixn")
local macro_rules | `(tactic| fail "nb") => `(tactic| first | assumption | exact nb_tup | exact nb_nil | exact nb_ints | exact nb_refs | exact nb_ins | exact nb_dT | exact nb_frz | fail "no nb")
local macro_rules | `(tactic| fail "ne") => `(tactic| first | assumption | exact Ne.symm (by assumption) | exact ne_of_none (by assumption) (by assumption) | exact (ne_of_none (by assumption) (by assumption)).symm | exact ne_of (by assumption) (by assumption) (by intro q; cases q) | exact ne_of (by assumption) (by assumption) (by simp) | fail "no ne")
local macro_rules | `(tactic| fail "hp") => `(tactic| first | assumption | exact upd_same | exact lit0 | exact lit1 | exact lit3 | exact lit2 | (refine' Tk.get (by assumption) ?k1; (case k1 => fail "tk")) | (with_reducible refine' upd_new ?h1 ?n1; (case n1 => assumption); (case h1 => fail "hp")) | (refine' Same.get (by assumption) ?h1; (case h1 => fail "hp")) | (refine' Kp.get (by assumption) (by fail "bx") ?h1 ?d1; (case h1 => fail "hp"); (case d1 => fail "nb")) | (with_reducible refine' upd_oth ?h1 ?n1; (case n1 => fail "ne"); (case h1 => fail "hp")) | (with_reducible refine' upd_oth ?h1 ?n1; (case h1 => fail "hp"); (case n1 => fail "ne")) | (refine' Kq.get (by assumption) (by fail "bx") ?h1 ?d1 (by fail "ne"); (case h1 => fail "hp"); (case d1 => fail "nb")) | fail "no hp")
local macro_rules | `(tactic| fail "bx") => `(tactic| first | assumption | (with_reducible refine' BoxOk.new ?h1 ?n1; (case n1 => assumption); (case h1 => fail "bx")) | (refine' BoxOk.same (by assumption) ?h1; (case h1 => fail "bx")) | (with_reducible refine' BoxOk.mut ?h1 ?h2 ?n1; (case n1 => assumption); (case h2 => assumption); (case h1 => fail "bx")) | fail "no bx")
local macro_rules | `(tactic| fail "kp") => `(tactic| first | assumption | exact Kp.refl | (with_reducible refine' Kp.at ?h1; (case h1 => fail "kp")) | (with_reducible refine' Kp.new ?h1 ?n1; (case n1 => assumption); (case h1 => fail "kp")) | (with_reducible refine' Kp.mut ?h1 ?n1; (case n1 => assumption); (case h1 => fail "kp")) | (refine' Kp.tr (by assumption) ?h1; (case h1 => fail "kp")) | (refine' Kp.tr (Kp.of (by assumption)) ?h1; (case h1 => fail "kp")) | (refine' Kq.kp (by assumption) ?h1 (by assumption); (case h1 => fail "kp")) | fail "no kp")
local macro_rules | `(tactic| fail "ite") => `(tactic| first | refine iteT ?_ | refine iteF ?_)
local macro_rules | `(tactic| fail "tt") => `(tactic| first | rfl | exact decide_eq_true (by first | rfl | omega | assumption) | exact decide_eq_true (congrArg V.int (by first | rfl | omega)) | fail "no tt")
local macro_rules | `(tactic| fail "cv") => `(tactic| first | exact .ty _ | exact .own _)
local macro_rules | `(tactic| fail "tx") => `(tactic| first | exact .base (.int _) | exact .base (.bl _) | exact .base .non | exact .base (.lst (by fail "hp")) | exact .base (.tup (by fail "hp")) | fail "no tx")
local macro_rules | `(tactic| fail "dead") => `(tactic| (exfalso; first | omega | contradiction | simp_all))
local macro_rules | `(tactic| fail "dp") => `(tactic| first | exact .tup (SqT.of (by fail "hp")) (.cons (.int _) (.cons (.int _) .nil)) | exact .lst (SqL.of (by fail "hp")) (dpPrs (by fail "pr")) | exact .lst (SqL.of (by fail "hp")) (dpInts _) | exact .lst (SqL.of (by fail "hp")) .nil | fail "no dp")
local macro_rules | `(tactic| fail "shp") => `(tactic| first | assumption | exact prD_shaped _ | exact PySem.W.ke_shaped_ints _ | rfl | fail "no shp")
local macro_rules | `(tactic| fail "pr") => `(tactic| first | assumption | exact PrT.mono (by assumption) (by fail "tk") | fail "no pr")
local macro_rules | `(tactic| fail "tk") => `(tactic| first | assumption | exact Tk.refl | (with_reducible refine' Tk.new ?h1 ?n1; (case n1 => assumption); (case h1 => fail "tk")) | (refine' Tk.tr (Kp.tk (by assumption) (by fail "bx")) ?h1; (case h1 => fail "tk")) | (refine' Tk.tr (Same.tk (by assumption)) ?h1; (case h1 => fail "tk")) | (with_reducible refine' Tk.lst ?h1 ?n1; (case n1 => fail "hp"); (case h1 => fail "tk")) | fail "no tk")
local macro_rules | `(tactic| fail "lk") => `(tactic| first | exact netF_count _ _ | exact netF_links _ _ | exact netF_no _ _ (by decide +kernel) (by decide +kernel) | fail "no lk")
local macro_rules | `(tactic| fail "kt") => `(tactic| first | exact upd_same | assumption | fail "hp")
local macro_rules | `(tactic| fail "na") => `(tactic| first | assumption | (with_reducible refine' NetAt.new ?h1 ?n1; (case n1 => assumption); (case h1 => fail "na")) | (refine' NetAt.same (by assumption) ?h1; (case h1 => fail "na")) | (refine' NetAt.kp (by assumption) (by fail "bx") ?h1; (case h1 => fail "na")) | (with_reducible refine' NetAt.lst ?h1 ?n1; (case n1 => fail "hp"); (case h1 => fail "na")) | fail "no na")
local macro_rules | `(tactic| fail "mono") => `(tactic| first | exact fun _ _ _ _ h q => h _ _ q | exact fun _ _ _ _ h q => (let ⟨v, e, z⟩ := q; ⟨v, e, h _ _ z⟩) | exact fun _ _ _ _ h q => (let ⟨v, e, u, f, z⟩ := q; ⟨v, e, u, f, h _ _ z⟩) | fail "no mono")
local macro_rules | `(tactic| fail "sm") => `(tactic| first | assumption | exact Same.refl _ | (with_reducible refine' Same.new ?h1 ?n1; (case n1 => assumption); (case h1 => fail "sm")) | (refine' Same.tr (by assumption) ?h1; (case h1 => fail "sm")) | fail "no sm")
local macro_rules | `(tactic| fail "fld") => `(tactic| first | (show 0 < 1000; decide) | (show 1 < 1000; decide) | fail "no fld")
local macro_rules | `(tactic| fail "kq") => `(tactic| first | assumption | exact Kq.refl | (with_reducible refine' Kq.at ?h1; (case h1 => fail "kq")) | (with_reducible refine' Kq.new ?h1 ?n1; (case n1 => assumption); (case h1 => fail "kq")) | (refine' Kq.trans ?h1 (by assumption); (case h1 => fail "kq")) | (refine' Kq.trans ?h1 (Kq.of (by assumption)); (case h1 => fail "kq")) | (refine' Kq.trans ?h1 (Kq.ofS (by assumption)); (case h1 => fail "kq")) | fail "no kq")
local macro_rules | `(tactic| fail "mo") => `(tactic| first | assumption | exact MemOk.take (by assumption) _ | exact MemOk.drop (by assumption) _ | exact every_ok _ | fail "no mo")

section
variable {P : Program} {w : World} {K : PySem.W.Frag} {mg : Str → Option Value} {base : Heap} {CN CI CU CL CS : Addr} {mc mu : Value}

theorem vals_every : ∀ (j : Nat) (xs : List Value), xs.length = j → (∀ (i : Nat) v, xs[i]? = some v → ∃ t, v = Value.int (i : Int) t) → Vals ((every j).map V.int) xs
  | 0, xs, h, _ => by
    obtain rfl : xs = [] := List.eq_nil_of_length_eq_zero h
    exact .nil
  | j + 1, xs, h, k => by
    have ne : xs ≠ [] := fun z => by rw [z] at h; cases h
    have e : xs = xs.dropLast ++ [xs.getLast ne] := (List.dropLast_concat_getLast ne).symm
    have hl : xs.dropLast.length = j := by rw [List.length_dropLast]; omega
    have at_ : xs[j]? = some (xs.getLast ne) := by
      conv => lhs; rw [e]
      rw [List.getElem?_append_right (by omega), hl, Nat.sub_self]
      rfl
    have ih := vals_every j xs.dropLast hl fun i v hv => k i v (by
      have lt : i < xs.dropLast.length := (List.getElem?_eq_some_iff.mp hv).1
      rw [e, List.getElem?_append_left lt]
      exact hv)
    rw [every_succ, List.map_append, e]
    exact Paired.snoc ih (k j _ at_)
theorem call_list_rng {X : Cx} (hc : X.calm = true) : CallR X (.type "list") (fun vs H Q => ∃ (p : Addr) (j : Nat), vs = [V.ref p] ∧ H p = some (.rng 0 (j : Int)) ∧ j ≤ 24 ∧ ∀ l H', H l = none → Same H H' → H' l = some (.lst ((every j).map V.int)) → Q (.ref l) H') := by
  intro pins s σ H vs us Q I r h
  obtain ⟨p, j, rfl, hp, hj, k⟩ := h
  obtain ⟨u1, rfl, rj⟩ := vals1 r
  obtain rfl : u1 = Value.ref p := rj
  obtain ⟨t1, t2, t3, ho⟩ := I.hok p _ hp
  have d1 : ∀ j : Fin 25, Builtin.Range.small 0 (j.val : Int) 1 = true := by decide +kernel
  have d2 : ∀ j : Fin 25, Builtin.Range.rangeSize 0 (j.val : Int) 1 = (j.val : Int) := by decide +kernel
  refine call_list_range (n := j) (I.ok.hd hc) ho (d1 ⟨j, by omega⟩) (d2 ⟨j, by omega⟩) (by omega) (fun h' tk acc c' kp hd its => ?_)
  have nd : H s.heap.objs.size = none := I.hok.fresh (Nat.le_refl _)
  have vals : Vals ((every j).map V.int) acc.toList := vals_every j _ its.1 fun i v hv => by
    obtain ⟨t, e⟩ := its.2 i v (by rw [← Array.getElem?_toList]; exact hv)
    exact ⟨t, by rw [e]; congr 1; omega⟩
  have line : ((every j).map V.int).length ≤ sizeLine := by rw [List.length_map, every_len, sizeLine_eq]; omega
  have J : L2.Inv X pins σ (upd H s.heap.objs.size (.lst ((every j).map V.int))) { heap := h', gens := s.gens, drawn := s.drawn, toks := tk, os := s.os } := I.call' (ch := []) rfl (Un.laid kp (Nat.le_refl _) nd) (I.hok.laid kp (Nat.le_refl _) ⟨line, _, c', vals, hd⟩) I.bare (fun _ z => nomatch z)
  exact ⟨.ref s.heap.objs.size, _, J, rfl, k _ _ nd (Same.new (Same.refl _) nd) upd_same⟩
theorem zero_list : ([0] : List Int) = [((0 : Nat) : Int)] := rfl
theorem odd_every {n : Nat} {xs : List Int} (h : ∀ x ∈ xs, 0 ≤ x ∧ x < (n : Int)) : odd n (xs ++ every n) = [] := by
  unfold odd
  refine List.filter_eq_nil_iff.mpr fun x hx => ?_
  have b : 0 ≤ x ∧ x < (n : Int) := (List.mem_append.mp hx).elim (fun q => h x q) fun q => mem_every.mp q
  rw [decide_eq_true b]
  exact Bool.false_ne_true
theorem nil_cons_x {α : Type} {x : α} {r xs : List α} (h : xs = []) (e : xs = x :: r) : False := by rw [h] at e; cases e
def spReachesAll (CN : Addr) : Sp := fun vs H Q _ => ∃ (a : Addr) (n : Nat) (R : Rel), vs = [.ref a] ∧ NetAt CN H a n R ∧ ∀ (b : Bool) H', Same H H' → (b = true ↔ ∀ y, y < n → Rch n R [(0 : Int)] (every n) y) → Q (.bl b) H'
abbrev sReachesAll : Stmt := top 17
theorem scReachesAll : FnScope ["net", "everyone"] ["net"] (defScope sReachesAll) := ⟨rfl, rfl, rfl, by decide +kernel, rfl, by decide +kernel, by decide +kernel⟩
theorem ok_ReachesAll (D : Df K mg "reaches_all" sReachesAll ["net"]) (T : NTx K mg CN mc mu) (GReach : CalX P w K mg base 6 "reach_within" (spReach CN CU)) : C8.Cal P w K mg base 7 "reaches_all" (spReachesAll CN) [] := by
  obtain ⟨f, fd, F, hm, hb⟩ := D
  refine ⟨f, fd, ["net"], [], F.ok scReachesAll (fun vs H Q E h => ?_) (fun cdv A outer s H vs Q E hr h => ?_), hm, F.kp, hb, .nil⟩
  · obtain ⟨a, n, R, rfl, na, k⟩ := h
    rfl
  · obtain ⟨a, n, R, rfl, na, k⟩ := h
    have na2 := na
    obtain ⟨⟨dx, d, ha, hd⟩, b1, b2, ir⟩ := na2
    refine ⟨_, (pss_cons (ps_set (i := 1) scReachesAll.nd rfl (Or.inl rfl) (pe_callTy (call_list_rng rfl) (by rfl) T.list (by decide +kernel) (pa_cons (pe_callTy crRange1 (by rfl) T.range (by decide +kernel) (pa_cons (pe_fld (pv 0) (by rfl)) pa_nil)) pa_nil)))
      (pss_one (ps_ret (pe_cmpR (op_eqD hr.units) (pe_cX GReach hr (by decide) (by rfl) passL (pa_cons (pv 0) (pa_cons (pe_lst (pa_cons pe_int pa_nil)) (pa_cons (pv 1) pa_nil)))) (pv 1) (nomark _))))), ?_⟩
    -- everyone = list(range(net.count))
    refine ⟨_, rfl, _, _, _, _, _, rfl, (by fail "hp"), T.cl, T.n_count, (by fail "lk"), _, rfl, fun p2 np2 => ⟨_, n, rfl, upd_same, b2, fun p1 H1 np1 sm1 hp1 => ?_⟩⟩
    have smA : Same H H1 := (Same.new (Same.refl H) np2).trans sm1
    -- return reach_within(net, [0], everyone) == everyone
    refine ⟨_, rfl, (by fail "sz"), fun p4 np4 => ⟨_, rfl, _, _, _, _, _, _, _, rfl, (by fail "na"), (by fail "hp"), (by fail "hp"), fun od3 p3 H3 np3 sm3 hp3 => ⟨_, rfl, _, _, (by fail "dp"), (by fail "dp"), (by fail "shp"), (by fail "shp"), ?_⟩, fun x r e => (nil_cons_x (odd_every (n := n) (xs := [0]) (by intro x hx; have := List.mem_singleton.mp hx; omega)) e).elim⟩⟩
    rw [eqv_ii]
    refine k _ _ (by fail "sm") ?_
    rw [decide_eq_true_iff, rchL_tells, tells_every]
    exact ⟨fun h y hy => rchB_iff.mp (h y hy), fun h y hy => rchB_iff.mpr (h y hy)⟩
end
end K01

end
section
set_option Elab.async false
set_option linter.all false
set_option maxRecDepth 100000
set_option maxHeartbeats 4000000
namespace K01
open PySem L2 Kit KR KX KI RM
local macro_rules | `(tactic| fail "om") => `(tactic| first | omega | (simp only [List.length_map, List.length_append, List.length_cons, List.length_nil]; omega) | (simp only [List.length_map, List.length_append, List.length_cons, List.length_nil] at *; omega) | assumption | decide | (simp only [List.length_take, List.length_drop]; omega) | (rw [every_len]; omega) | fail "no om")
local macro_rules | `(tactic| fail "nz") => `(tactic| first | decide | omega | fail "no nz")
local macro_rules | `(tactic| fail "dv") => `(tactic| exact ⟨by first | decide | omega, by first | decide | omega⟩)
local macro_rules | `(tactic| fail "mul") => `(tactic| first | exact .inr ⟨by decide, by decide⟩ | exact .inl ⟨by decide, by decide⟩ | exact mulF (by decide) (by decide) | exact .inl ⟨by omega, by omega⟩ | exact .inr ⟨by omega, by omega⟩ | fail "no mul")
local macro_rules | `(tactic| fail "sz") => `(tactic| first | assumption | exact Nat.zero_le _ | (show 1 ≤ sizeLine; decide) | (show 2 ≤ sizeLine; decide) | (show 3 ≤ sizeLine; decide) | (show 4 ≤ sizeLine; decide) | (show 5 ≤ sizeLine; decide) | exact Evl.sz_of (by omega) | (refine Evl.sz_of ?_; simp only [List.length_append, List.length_map, List.length_cons, List.length_nil]; omega) | (refine Evl.sz_of ?_; simp only [List.length_append, List.length_map, List.length_cons, List.length_nil, List.length_take, List.length_drop]; omega) | fail "no sz")
local macro_rules | `(tactic| fail "szl") => `(tactic| first | exact Evl.sz_lt (by omega) | (refine Evl.sz_lt ?_; simp only [List.length_append, List.length_map, List.length_cons, List.length_nil]; omega) | fail "no szl")
local macro_rules | `(tactic| fail "ix") => `(tactic| first | assumption | exact ix0 | exact ix1 | exact ix2 | exact at_ref (by assumption) (by omega) | exact at_int (by assumption) (by omega) | exact at_drawn (by assumption) (by assumption) | exact at_lit (by first | assumption | omega) (by fail "om") | rfl | fail "no ix")
local macro_rules | `(tactic| fail "ixn") => `(tactic| first | rfl | assumption | fail "no ixn")
local macro_rules | `(tactic| fail "nb") => `(tactic| first | assumption | exact nb_tup | exact nb_nil | exact nb_ints | exact nb_refs | exact nb_ins | exact nb_dT | exact nb_frz | fail "no nb")
local macro_rules | `(tactic| fail "ne") => `(tactic| first | assumption | exact Ne.symm (by assumption) | exact ne_of_none (by assumption) (by assumption) | exact (ne_of_none (by assumption) (by assumption)).symm | exact ne_of (by assumption) (by assumption) (by intro q; cases q) | exact ne_of (by assumption) (by assumption) (by simp) | fail "no ne")
local macro_rules | `(tactic| fail "hp") => `(tactic| first | assumption | exact upd_same | exact lit0 | exact lit1 | exact lit3 | exact lit2 | (refine' Tk.get (by assumption) ?k1; (case k1 => fail "tk")) | (with_reducible refine' upd_new ?h1 ?n1; (case n1 => assumption); (case h1 => fail "hp")) | (refine' Same.get (by assumption) ?h1; (case h1 => fail "hp")) | (refine' Kp.get (by assumption) (by fail "bx") ?h1 ?d1; (case h1 => fail "hp"); (case d1 => fail "nb")) | (with_reducible refine' upd_oth ?h1 ?n1; (case n1 => fail "ne"); (case h1 => fail "hp")) | (with_reducible refine' upd_oth ?h1 ?n1; (case h1 => fail "hp"); (case n1 => fail "ne")) | (refine' Kq.get (by assumption) (by fail "bx") ?h1 ?d1 (by fail "ne"); (case h1 => fail "hp"); (case d1 => fail "nb")) | fail "no hp")
local macro_rules | `(tactic| fail "bx") => `(tactic| first | assumption | (with_reducible refine' BoxOk.new ?h1 ?n1; (case n1 => assumption); (case h1 => fail "bx")) | (refine' BoxOk.same (by assumption) ?h1; (case h1 => fail "bx")) | (with_reducible refine' BoxOk.mut ?h1 ?h2 ?n1; (case n1 => assumption); (case h2 => assumption); (case h1 => fail "bx")) | fail "no bx")
local macro_rules | `(tactic| fail "kp") => `(tactic| first | assumption | exact Kp.refl | (with_reducible refine' Kp.at ?h1; (case h1 => fail "kp")) | (with_reducible refine' Kp.new ?h1 ?n1; (case n1 => assumption); (case h1 => fail "kp")) | (with_reducible refine' Kp.mut ?h1 ?n1; (case n1 => assumption); (case h1 => fail "kp")) | (refine' Kp.tr (by assumption) ?h1; (case h1 => fail "kp")) | (refine' Kp.tr (Kp.of (by assumption)) ?h1; (case h1 => fail "kp")) | (refine' Kq.kp (by assumption) ?h1 (by assumption); (case h1 => fail "kp")) | fail "no kp")
local macro_rules | `(tactic| fail "ite") => `(tactic| first | refine iteT ?_ | refine iteF ?_)
local macro_rules | `(tactic| fail "tt") => `(tactic| first | rfl | exact decide_eq_true (by first | rfl | omega | assumption) | exact decide_eq_true (congrArg V.int (by first | rfl | omega)) | fail "no tt")
local macro_rules | `(tactic| fail "cv") => `(tactic| first | exact .ty _ | exact .own _)
local macro_rules | `(tactic| fail "tx") => `(tactic| first | exact .base (.int _) | exact .base (.bl _) | exact .base .non | exact .base (.lst (by fail "hp")) | exact .base (.tup (by fail "hp")) | fail "no tx")
local macro_rules | `(tactic| fail "dead") => `(tactic| (exfalso; first | omega | contradiction | simp_all))
local macro_rules | `(tactic| fail "dp") => `(tactic| first | exact .tup (SqT.of (by fail "hp")) (.cons (.int _) (.cons (.int _) .nil)) | exact .lst (SqL.of (by fail "hp")) (dpPrs (by fail "pr")) | exact .lst (SqL.of (by fail "hp")) (dpInts _) | exact .lst (SqL.of (by fail "hp")) .nil | fail "no dp")
local macro_rules | `(tactic| fail "shp") => `(tactic| first | assumption | exact prD_shaped _ | exact PySem.W.ke_shaped_ints _ | rfl | fail "no shp")
local macro_rules | `(tactic| fail "pr") => `(tactic| first | assumption | exact PrT.mono (by assumption) (by fail "tk") | fail "no pr")
local macro_rules | `(tactic| fail "tk") => `(tactic| first | assumption | exact Tk.refl | (with_reducible refine' Tk.new ?h1 ?n1; (case n1 => assumption); (case h1 => fail "tk")) | (refine' Tk.tr (Kp.tk (by assumption) (by fail "bx")) ?h1; (case h1 => fail "tk")) | (refine' Tk.tr (Same.tk (by assumption)) ?h1; (case h1 => fail "tk")) | (with_reducible refine' Tk.lst ?h1 ?n1; (case n1 => fail "hp"); (case h1 => fail "tk")) | fail "no tk")
local macro_rules | `(tactic| fail "lk") => `(tactic| first | exact netF_count _ _ | exact netF_links _ _ | exact netF_no _ _ (by decide +kernel) (by decide +kernel) | fail "no lk")
local macro_rules | `(tactic| fail "kt") => `(tactic| first | exact upd_same | assumption | fail "hp")
local macro_rules | `(tactic| fail "na") => `(tactic| first | assumption | (with_reducible refine' NetAt.new ?h1 ?n1; (case n1 => assumption); (case h1 => fail "na")) | (refine' NetAt.same (by assumption) ?h1; (case h1 => fail "na")) | (refine' NetAt.kp (by assumption) (by fail "bx") ?h1; (case h1 => fail "na")) | (with_reducible refine' NetAt.lst ?h1 ?n1; (case n1 => fail "hp"); (case h1 => fail "na")) | fail "no na")
local macro_rules | `(tactic| fail "mono") => `(tactic| first | exact fun _ _ _ _ h q => h _ _ q | exact fun _ _ _ _ h q => (let ⟨v, e, z⟩ := q; ⟨v, e, h _ _ z⟩) | exact fun _ _ _ _ h q => (let ⟨v, e, u, f, z⟩ := q; ⟨v, e, u, f, h _ _ z⟩) | fail "no mono")
local macro_rules | `(tactic| fail "sm") => `(tactic| first | assumption | exact Same.refl _ | (with_reducible refine' Same.new ?h1 ?n1; (case n1 => assumption); (case h1 => fail "sm")) | (refine' Same.tr (by assumption) ?h1; (case h1 => fail "sm")) | fail "no sm")
local macro_rules | `(tactic| fail "fld") => `(tactic| first | (show 0 < 1000; decide) | (show 1 < 1000; decide) | fail "no fld")
local macro_rules | `(tactic| fail "kq") => `(tactic| first | assumption | exact Kq.refl | (with_reducible refine' Kq.at ?h1; (case h1 => fail "kq")) | (with_reducible refine' Kq.new ?h1 ?n1; (case n1 => assumption); (case h1 => fail "kq")) | (refine' Kq.trans ?h1 (by assumption); (case h1 => fail "kq")) | (refine' Kq.trans ?h1 (Kq.of (by assumption)); (case h1 => fail "kq")) | (refine' Kq.trans ?h1 (Kq.ofS (by assumption)); (case h1 => fail "kq")) | fail "no kq")
local macro_rules | `(tactic| fail "mo") => `(tactic| first | assumption | exact MemOk.take (by assumption) _ | exact MemOk.drop (by assumption) _ | exact every_ok _ | fail "no mo")

section
variable {P : Program} {w : World} {K : PySem.W.Frag} {mg : Str → Option Value} {base : Heap} {CN CI CU CL CS : Addr} {mc mu : Value}


theorem mk_init1 {CN CI x dx l : Addr} {c : Int} {as : List Addr} {ps : List (Int × Int)} {H : Hp} {Z : Hp → Prop} {E : XK} (nx : H x = none) (ndx : H dx = none) (ne : dx ≠ x) (hl : H l = some (.lst (as.map V.ref))) (pa : PrT H as ps) (few : as.length < 1200)
    (kG : ∀ n : Nat, c = n → 1 ≤ n → n ≤ 24 → (∀ p ∈ ps, Good n p) → ∀ H', Same H H' → NetAt CN H' x n (relP ps false) → Z H') (kB : ¬ (1 ≤ c ∧ c ≤ 24) → RaisesI CI .non H E) (kC : ∀ n : Nat, c = n → 1 ≤ n → n ≤ 24 → BadRow CI n as ps H E) :
    spInit CN CI (.ref x :: ([.int c, .ref l] ++ [])) (upd (upd H dx (.own x)) x (.ins CN dx [])) (fun v H2 => v = .non ∧ Z H2) E := by
  have s1 : Same H (upd H dx (.own x)) := Same.new (Same.refl H) ndx
  have n1 : upd H dx (.own x) x = none := by rw [upd_ne ne.symm]; exact nx
  have s2 : Same H (upd (upd H dx (.own x)) x (.ins CN dx [])) := Same.new s1 n1
  exact ⟨x, dx, c, l, as, ps, rfl, upd_same, s2 _ _ hl, pa.mono (Same.tk s2), few, fun n e b1 b2 g H' k na => ⟨rfl, kG n e b1 b2 g H' (fun b o hb => k b o (ne_of_none hb nx) (s2 _ _ hb)) na⟩, fun z => (kB z).back s2, fun n e b1 b2 => (kC n e b1 b2).back s2⟩
def swp (ps : List (Int × Int)) : List (Int × Int) := ps.map fun p => (p.2, p.1)
theorem mem_swp {ps : List (Int × Int)} {x y : Int} : (x, y) ∈ swp ps ↔ (y, x) ∈ ps := by
  unfold swp
  rw [List.mem_map]
  constructor
  · rintro ⟨⟨a, b⟩, h, e⟩
    cases e
    exact h
  · intro h
    exact ⟨_, h, rfl⟩
theorem swp_len (ps : List (Int × Int)) : (swp ps).length = ps.length := List.length_map ..
theorem swp_snoc (ps : List (Int × Int)) (x y : Int) : swp (ps ++ [(x, y)]) = swp ps ++ [(y, x)] := by
  unfold swp
  rw [List.map_append]
  rfl
theorem good_swp {n : Nat} {ps : List (Int × Int)} (g : ∀ p ∈ ps, Good n p) : ∀ p ∈ swp ps, Good n p := fun p hp => by
  obtain ⟨x, y⟩ := p
  exact good_swap (g _ (mem_swp.mp hp))
theorem rel_swp {n : Nat} (R : Rel) : ∀ x y, x < n → y < n → relP (swp (ties n R)) false x y = turn R x y := fun x y hx hy => by
  rw [Bool.eq_iff_iff, relP_iff, mem_swp, has_nat hy hx]
  unfold turn
  simp
theorem eqv_pcons (p q : Int × Int) (ps qs : List (Int × Int)) : PyData.eqv (.list ((p :: ps).map prD)) (.list ((q :: qs).map prD)) = (decide (p = q) && PyData.eqv (.list (ps.map prD)) (.list (qs.map prD))) := by
  have e : PyData.eqv (.list ((p :: ps).map prD)) (.list ((q :: qs).map prD)) = (PyData.eqv (prD p) (prD q) && PyData.eqv (.list (ps.map prD)) (.list (qs.map prD))) := rfl
  rw [e]
  congr 1
  exact eqv_two p.1 p.2 q.1 q.2
theorem eqv_pp : ∀ (ps qs : List (Int × Int)), PyData.eqv (.list (ps.map prD)) (.list (qs.map prD)) = decide (ps = qs)
  | [], [] => rfl
  | [], q :: qs => rfl
  | p :: ps, [] => rfl
  | p :: ps, q :: qs => by
    rw [eqv_pcons, eqv_pp ps qs]
    by_cases h : p = q <;> by_cases g : ps = qs <;> simp [h, g]
theorem ties_iff {n : Nat} {R R' : Rel} : ties n R = ties n R' ↔ ∀ x y, x < n → y < n → R x y = R' x y := by
  constructor
  · intro h x y hx hy
    rw [Bool.eq_iff_iff, ← has_nat hx hy, ← has_nat (R := R') hx hy, h]
  · exact ties_congr
def spStrong (CN : Addr) : Sp := fun vs H Q _ => ∃ (a : Addr) (n : Nat) (R : Rel), vs = [.ref a] ∧ NetAt CN H a n R ∧ ∀ (b : Bool) H', Same H H' → (b = true ↔ Strong n R) → Q (.bl b) H'
def spIsRing (CN : Addr) : Sp := fun vs H Q _ => ∃ (a : Addr) (n : Nat) (R : Rel), vs = [.ref a] ∧ NetAt CN H a n R ∧ ∀ (b : Bool) H', Same H H' → (b = true ↔ 2 ≤ n ∧ ∀ x y, x < n → y < n → R x y = ringR n x y) → Q (.bl b) H'
def spIsComplete (CN : Addr) : Sp := fun vs H Q _ => ∃ (a : Addr) (n : Nat) (R : Rel), vs = [.ref a] ∧ NetAt CN H a n R ∧ ∀ (b : Bool) H', Same H H' → (b = true ↔ ∀ x y, x < n → y < n → R x y = wholeR n x y) → Q (.bl b) H'
abbrev sIsStrong : Stmt := top 16
theorem scIsStrong : FnScope ["net", "turned", "source", "reader"] ["net"] (defScope sIsStrong) := ⟨rfl, rfl, rfl, by decide +kernel, rfl, by decide +kernel, by decide +kernel⟩
theorem ok_IsStrong (D : Df K mg "is_strong" sIsStrong ["net"]) (T : NTx K mg CN mc mu) (GReachesAll : C8.Cal P w K mg base 7 "reaches_all" (spReachesAll CN) []) (KNet : MakX P w K mg base 5 "Net" CN (spInit CN CI)) (PLinks : PropC P w K mg base 1 CN "links" (spLinks CN)) : C8.Cal P w K mg base 8 "is_strong" (spStrong CN) [] := by
  obtain ⟨f, fd, F, hm, hb⟩ := D
  refine ⟨f, fd, ["net"], [], F.ok scIsStrong (fun vs H Q E h => ?_) (fun cdv A outer s H vs Q E hr h => ?_), hm, F.kp, hb, .nil⟩
  · obtain ⟨a, n, R, rfl, na, k⟩ := h
    rfl
  · obtain ⟨a, n, R, rfl, na, k⟩ := h
    have na2 := na
    obtain ⟨⟨dx, d, ha, hd⟩, b1, b2, ir⟩ := na2
    refine ⟨_, (pss_cons (ps_set (i := 1) scIsStrong.nd rfl (Or.inl rfl) (pe_mkX KNet hr (by decide) (by rfl) passL (pa_cons (pe_fld (pv 0) (by rfl)) (pa_cons (pe_lc (own := [("source", 2), ("reader", 3)]) (g := gTup K 2 (gCons (gName 2) (gCons (gName 3) gNil))) (tt := tYes) rfl scIsStrong.nd (pi_list (pe_pr PLinks hr (by decide) (pv 0))) (blkOk_by (N := ["net", "turned", "source", "reader"]) (sc := defScope sIsStrong) (by decide +kernel)) (fun _ _ _ _ _ => by exact (pg_tup rfl (pgs_cons (pg_name (i := 2) scIsStrong.nd rfl (Or.inl rfl)) (pgs_cons (pg_name (i := 3) scIsStrong.nd rfl (Or.inl rfl)) pgs_nil)))) (fun _ _ _ _ _ => pts_nil) (fun _ _ _ _ _ => (pe_tup (pa_cons (pv 3) (pa_cons (pv 2) pa_nil))))) pa_nil))))
      (pss_one (ps_ret (pe_and (C8.pe_c GReachesAll hr (by decide) (by rfl) (pa_cons (pv 0) pa_nil)) (pe_one (C8.pe_c GReachesAll hr (by decide) (by rfl) (pa_cons (pv 1) pa_nil))))))), ?_⟩
    -- turned = Net(net.count, [(reader, source) for source, reader in net.links])
    refine ⟨_, rfl, _, _, _, _, _, rfl, (by fail "hp"), T.cl, T.n_count, (by fail "lk"), _, rfl, _, _, _, rfl, (by fail "hp"), _, _, _, rfl, (by fail "na"), fun l2 as2 H2 nl2 sm2 hl2 pl2 => ⟨_, rfl, ⟨_, SqL.of (by fail "hp")⟩, fun D1 nD1 => lc_list (K := K) (a := l2) (xs := as2.map V.ref) (fun i H' => ∃ bs : List Addr, Same H2 H' ∧ H' D1 = some (.lst (bs.map V.ref)) ∧ PrT H' bs (swp ((ties n R).take i))) ⟨[], Same.new (Same.refl _) nD1, upd_same, PrT.nil⟩ (fun i H' _ z => by obtain ⟨bs, sm, _⟩ := z; exact SqL.of (sm _ _ hl2)) (fun i x H' hx z => by
      obtain ⟨bs, sm, hD, pb⟩ := z
      obtain ⟨t, x, y, rfl, e1, e2, e3⟩ := pl2.item hx
      have e4 := sm _ _ e3
      have lt := ties_len R b2
      have lb : bs.length ≤ 600 := by rw [pb.1, swp_len, List.length_take]; omega
      refine ⟨_, _, rfl, SqT.of e4, rfl, _, _, rfl, _, _, rfl, rfl, rfl, ?_⟩
      unfold tYes
      refine iteT ?_
      refine ⟨_, rfl, _, rfl, (by fail "sz"), fun p np => ⟨_, upd_new hD np, (by fail "szl"), bs ++ [p], Same.mut (Same.new sm np) nD1, ?_, ?_⟩⟩
      · rw [upd_same, snocR]
      · rw [take_at e2, swp_snoc]
        refine PrT.snoc (PrT.mono pb (by fail "tk")) ?_
        rw [upd_ne (ne_of_none' np hD), upd_same]) (fun H' z => by
      obtain ⟨bs, sm, hD, pb⟩ := z
      rw [List.length_map, pl2.1, List.take_length] at pb
      have smX : Same H H' := sm2.trans sm
      have lb : bs.length < 1200 := by have := ties_len R b2; rw [pb.1, swp_len]; omega
      refine fun a1 dx1 na1 ndx1 nx1 => mk_init1 na1 ndx1 nx1 hD pb lb (fun n1 e1 c1 d1 g1 H1 sm1 nt1 => ?_) (fun z => absurd (show (1 : Int) ≤ (n : Int) ∧ (n : Int) ≤ 24 by omega) z) (fun m e _ _ => by obtain rfl : n = m := (by omega); exact BadRow.none (good_swp (good_ties ir)))
      obtain rfl : n = n1 := by omega
      have smY : Same H H1 := smX.trans sm1
      have naT : NetAt CN H1 a1 n (turn R) := NetAt.congr nt1 (rel_swp R)
      clear nt1
      have naH : NetAt CN H1 a n R := NetAt.same smY na
      refine ⟨_, rfl, _, _, _, rfl, naH, fun b3 H3 sm3 tl3 => ⟨_, rfl, ?_⟩⟩
      refine ifB (fun g3 => ?_) (fun g3 => ?_)
      · refine ⟨_, rfl, _, _, _, rfl, NetAt.same sm3 naT, fun b5 H5 sm5 tl5 => ?_⟩
        refine k _ _ (smY.trans (sm3.trans sm5)) ?_
        rw [strong_iff b1, ← tl3, ← tl5]
        exact ⟨fun q => ⟨g3, q⟩, fun q => q.2⟩
      · refine k _ _ (smY.trans sm3) ?_
        rw [strong_iff b1, ← tl3, g3]
        exact ⟨fun q => (nomatch q), fun q => (nomatch q.1)⟩)⟩⟩
abbrev sIsRing : Stmt := top 19
theorem scIsRing : FnScope ["net"] ["net"] (defScope sIsRing) := ⟨rfl, rfl, rfl, by decide +kernel, rfl, by decide +kernel, by decide +kernel⟩
theorem ok_IsRing (D : Df K mg "is_ring" sIsRing ["net"]) (T : NTx K mg CN mc mu) (Nring : ClmX P w K mg base 7 CN "ring" (spNamed CN CI ringR)) (PLinks : PropC P w K mg base 1 CN "links" (spLinks CN)) : C8.Cal P w K mg base 9 "is_ring" (spIsRing CN) [] := by
  obtain ⟨f, fd, F, hm, hb⟩ := D
  refine ⟨f, fd, ["net"], [], F.ok scIsRing (fun vs H Q E h => ?_) (fun cdv A outer s H vs Q E hr h => ?_), hm, F.kp, hb, .nil⟩
  · obtain ⟨a, n, R, rfl, na, k⟩ := h
    rfl
  · obtain ⟨a, n, R, rfl, na, k⟩ := h
    have na2 := na
    obtain ⟨⟨dx, d, ha, hd⟩, b1, b2, ir⟩ := na2
    refine ⟨_, (pss_one (ps_ret (pe_and (pe_cmpR op_ge (pe_fld (pv 0) (by rfl)) pe_int (nomark _)) (pe_one (pe_cmpR (op_eqD hr.units) (pe_pr PLinks hr (by decide) (pv 0)) (pe_pr PLinks hr (by decide) (pe_clm Nring hr (by decide) passL (pe_glob (v := .ref CN) rfl T.mgNet rfl) (pa_cons (pe_fld (pv 0) (by rfl)) pa_nil))) (nomark _)))))), ?_⟩
    -- return net.count >= 2 and net.links == Net.ring(net.count).links
    refine ⟨_, rfl, _, _, _, _, _, rfl, (by fail "hp"), T.cl, T.n_count, (by fail "lk"), _, _, rfl, rfl, _, rfl, ?_⟩
    refine ifD (fun g4 => ?_) (fun g4 => ?_)
    · refine ⟨_, rfl, _, _, _, rfl, (by fail "hp"), _, _, _, rfl, (by fail "na"), fun l3 as3 H3 nl3 sm3 hl3 pl3 => ⟨rfl, _, rfl, _, _, _, _, _, rfl, (by fail "hp"), T.cl, T.n_count, (by fail "lk"), _, rfl, fun n2 e2 c2 d2 a2 H2 na2 sm2 nt2 => match nt2 with | ⟨⟨_, _, hA2, _⟩, _, _, _⟩ => ⟨_, _, _, rfl, hA2, _, _, _, rfl, (by fail "na"), fun l1 as1 H1 nl1 sm1 hl1 pl1 => ⟨_, _, (by fail "dp"), (by fail "dp"), (by fail "shp"), (by fail "shp"), ?_⟩⟩, fun z => absurd (show (1 : Int) ≤ (n : Int) ∧ (n : Int) ≤ 24 by omega) z⟩⟩
      obtain rfl : n = n2 := by omega
      rw [eqv_pp]
      refine k _ _ (sm3.trans (sm2.trans sm1)) ?_
      rw [decide_eq_true_iff, ties_iff]
      exact ⟨fun q => ⟨by omega, q⟩, fun q => q.2⟩
    · refine k _ _ (Same.refl H) ?_
      exact ⟨fun q => (nomatch q), fun q => absurd q.1 (by omega)⟩
abbrev sIsComplete : Stmt := top 20
theorem scIsComplete : FnScope ["net"] ["net"] (defScope sIsComplete) := ⟨rfl, rfl, rfl, by decide +kernel, rfl, by decide +kernel, by decide +kernel⟩
theorem ok_IsComplete (D : Df K mg "is_complete" sIsComplete ["net"]) (T : NTx K mg CN mc mu) (Ncomplete : ClmX P w K mg base 7 CN "complete" (spNamed CN CI wholeR)) (PLinks : PropC P w K mg base 1 CN "links" (spLinks CN)) : C8.Cal P w K mg base 9 "is_complete" (spIsComplete CN) [] := by
  obtain ⟨f, fd, F, hm, hb⟩ := D
  refine ⟨f, fd, ["net"], [], F.ok scIsComplete (fun vs H Q E h => ?_) (fun cdv A outer s H vs Q E hr h => ?_), hm, F.kp, hb, .nil⟩
  · obtain ⟨a, n, R, rfl, na, k⟩ := h
    rfl
  · obtain ⟨a, n, R, rfl, na, k⟩ := h
    have na2 := na
    obtain ⟨⟨dx, d, ha, hd⟩, b1, b2, ir⟩ := na2
    refine ⟨_, (pss_one (ps_ret (pe_cmpR (op_eqD hr.units) (pe_pr PLinks hr (by decide) (pv 0)) (pe_pr PLinks hr (by decide) (pe_clm Ncomplete hr (by decide) passL (pe_glob (v := .ref CN) rfl T.mgNet rfl) (pa_cons (pe_fld (pv 0) (by rfl)) pa_nil))) (nomark _)))), ?_⟩
    -- return net.links == Net.complete(net.count).links
    refine ⟨_, rfl, _, _, _, rfl, (by fail "hp"), _, _, _, rfl, (by fail "na"), fun l3 as3 H3 nl3 sm3 hl3 pl3 => ⟨rfl, _, rfl, _, _, _, _, _, rfl, (by fail "hp"), T.cl, T.n_count, (by fail "lk"), _, rfl, fun n2 e2 c2 d2 a2 H2 na2 sm2 nt2 => match nt2 with | ⟨⟨_, _, hA2, _⟩, _, _, _⟩ => ⟨_, _, _, rfl, hA2, _, _, _, rfl, (by fail "na"), fun l1 as1 H1 nl1 sm1 hl1 pl1 => ⟨_, _, (by fail "dp"), (by fail "dp"), (by fail "shp"), (by fail "shp"), ?_⟩⟩, fun z => absurd (show (1 : Int) ≤ (n : Int) ∧ (n : Int) ≤ 24 by omega) z⟩⟩
    obtain rfl : n = n2 := by omega
    rw [eqv_pp]
    refine k _ _ (sm3.trans (sm2.trans sm1)) ?_
    rw [decide_eq_true_iff, ties_iff]
end
end K01

end
section
set_option Elab.async false
set_option linter.all false
set_option maxRecDepth 100000
set_option maxHeartbeats 4000000
/- all(test for a, b in pairs) and all(test for a in items) over lists -/
namespace GQ
open PySem L2
structure GenS2 (env : Env) (scope : Scope) (xa xb : Str) : Prop where
  kind : scope.kind = ScopeKind.function
  co : scope.isCoroutine = false
  cell : ∀ (y : Str × NameKind), y ∈ scope.names → y.snd ≠ NameKind.cell
  dot : List.lookup (Str.ofString ".0") scope.names = some NameKind.local
  la : List.lookup xa scope.names = some NameKind.local
  lb : List.lookup xb scope.names = some NameKind.local
  ne : xa ≠ xb
  free : ∀ (y : Str × NameKind), y ∈ scope.names → y.snd = NameKind.free → ∃ c, List.lookup y.fst env.cells = some c
/-- what the test asks of one item, in the generator's own frame -/
def El2 (X : Cx) (σ : St) (P : Addr) (scope : Scope) (xa xb : Str) (elt : Expr) (H1 : Hp) (x y : V) (b : Bool) : Prop :=
  ∀ (pins : List (Addr × Obj)) (H2 : Hp) (s' s2 : Shared) (A' : Around) (E' : Value → Shared → Prop) (C : Addr) (code : Value) (m2 : Str → Option Value) (va vb : Value),
    L2.Inv X pins σ H2 s' → s2.heap = s'.heap → GxR.Tabbed P H1 H2 → A'.handled = none → A'.depth ≤ X.A.depth + 1 → A'.units ≤ X.A.units + 8 →
    s2.heap.Ns C m2 → m2 xa = some va → m2 xb = some vb → RelV x va → RelV y vb →
    wpAny (model X.prog X.w) A' (eval elt (genEnv scope (cloFrom X.env.cells scope.names []) C code builtinsNs X.env)) (fun u s3 => u = Value.bool b ∧ Keeps s2 s3) E' s2
def Ready2 (X : Cx) (pins : List (Addr × Obj)) (σ : St) (H1 : Hp) (P : Addr) (n : Nat) (b : Nat → Bool) (g : Addr) (s5 : Shared) : Prop :=
  ∃ fp wr G F St, WalksS X.prog X.w X.A.in1 g fp wr G n F St ∧ St 0 s5 ∧ TruthOf X.prog X.w X.A.in1 F b ∧
    ∀ s', Moved wr G s5 s' → ∃ H2, GxR.Tabbed P H1 H2 ∧ L2.Inv X pins σ H2 s'
theorem two_vals {x y : V} {its : List Value} (h : Vals [x, y] its) : ∃ u v, its = [u, v] ∧ RelV x u ∧ RelV y v := by
  cases h with
  | cons r t =>
    cases t with
    | cons r2 t2 =>
      cases t2
      exact ⟨_, _, rfl, r, r2⟩
theorem vals_refs : ∀ {as : List Addr} {its : List Value}, Vals (as.map V.ref) its → its = as.map Value.ref
  | [], _, h => by cases h; rfl
  | a :: as, _, h => by
    cases h with
    | cons r t =>
      have r : _ = Value.ref a := r
      rw [r, vals_refs t]
      rfl
theorem gen_pairs {X : Cx} {pins : List (Addr × Obj)} {σ : St} {H : Hp} {s : Shared} {c P : Addr} {elt iter : Expr} {xa xb : Str} {pa pb pt gpos : Pos} {kt : Nat} {scope : Scope} {te : TE} {k : Nat} {Q' : Value → Shared → Prop} {R : Hp → Nat → (Nat → Bool) → Prop}
    (hr : Room k X.A) (TB : GxR.TabB X.base X.mg c P) (hcode : X.env.code = Value.ref c) (S : GenS2 X.env scope xa xb) (hi : PE X iter te) (hs : ∀ v, genFold iter X.env v = pure v) (I : L2.Inv X pins σ H s)
    (h : te σ H fun v H1 => ∃ (l : Addr) (as : List Addr) (xs ys : Nat → V) (b : Nat → Bool), v = V.ref l ∧ H1 l = some (.lst (as.map V.ref)) ∧ GxR.TabG H1 P ∧
      (∀ i a, as[i]? = some a → H1 a = some (.tup [xs i, ys i]) ∧ El2 X σ P scope xa xb elt H1 (xs i) (ys i) (b i)) ∧
      R H1 as.length b)
    (hQR : ∀ H1 n b g s5, R H1 n b → Ready2 X pins σ H1 P n b g s5 → Q' (Value.ref g) s5) :
    wpAny (model X.prog X.w) X.A (eval (elt.GeneratorExp [{ target := Expr.Tuple [Expr.Name xa pa, Expr.Name xb pb] kt pt, iter := iter, ifs := [], is_async := 0 }] scope gpos) X.env) Q' X.xe s := by
  have hdp := hr.dp
  refine wpAny_GeneratorExp_walksQTD hr.hd S.co (closure_ok S.free) S.cell S.dot S.la S.lb S.ne S.kind (by omega) (thn (hi.run pins s σ H _ I h) fun xv s1 z => ?_) hs
  obtain ⟨v, H1, I1, r1, l, as, xs, ys, b, rfl, hl, ⟨ps, hP, ht⟩, hit, hR⟩ := z
  have hQ := fun g s5 => hQR H1 as.length b g s5 hR
  have e0 : xv = Value.ref l := r1
  subst e0
  obtain ⟨hln, its, n0, hv, hlst⟩ := I1.hok l _ hl
  have eits := vals_refs hv
  subst eits
  have hlen : (as.map Value.ref).toArray.size = as.length := by simp
  generalize ho : ({ cls := Value.type "list_iterator", data := Data.fields #[Value.ref l, Value.int 0 0] } : Obj) = o
  have hPs : s1.heap.get? P = some { cls := Value.none, data := Data.fields ps } := I1.hok P _ hP
  have hPlt := Heap.lt_size hPs
  have hP2 := Heap.get?_push_of_some o hPs
  have cd := W.CodeHd.keeps TB.code fun b u e => Heap.get?_push_of_some o (I1.bk b u e)
  have lim2 : (s1.heap.push o).NoLimit := Heap.NoLimit.keeps I1.nolimit fun b u e => Heap.get?_push_of_some o e
  have sz2 := Heap.size_push s1.heap o
  -- the lists and the tuples, as they stand
  have htup : ∀ i a, as[i]? = some a → ∃ u v, RelV (xs i) u ∧ RelV (ys i) v ∧ PyProof.Rows.IsTup s1.heap a #[u, v] := fun i a e => by
    obtain ⟨_, jts, jv, jt⟩ := I1.hok a _ (hit i a e).1
    obtain ⟨u, v, ej, ru, rv⟩ := two_vals jv
    subst ej
    exact ⟨u, v, ru, rv, jt⟩
  have hex : ∀ i, ∃ va : Array Value, (∃ u v, va = #[u, v]) ∧ ∀ a, as[i]? = some a → ∃ u v, va = #[u, v] ∧ RelV (xs i) u ∧ RelV (ys i) v ∧ PyProof.Rows.IsTup s1.heap a #[u, v] := fun i => by
    cases e : as[i]? with
    | none => exact ⟨#[Value.none, Value.none], ⟨_, _, rfl⟩, fun a q => nomatch q⟩
    | some a =>
      obtain ⟨u, v, ru, rv, it⟩ := htup i a e
      exact ⟨#[u, v], ⟨_, _, rfl⟩, fun a' q => by cases q; exact ⟨u, v, rfl, ru, rv, it⟩⟩
  obtain ⟨vals, hvals⟩ := Classical.axiomOfChoice hex
  have key : ∀ (Post : Value → Shared → Prop), (∀ (code : Value) (h3 : Heap) (tk : Nat) (ps' : Array Value), Heap.ExtBut P (s1.heap.push o) h3 → (s1.heap.push o).objs.size ≤ h3.objs.size → h3.get? P = some { cls := Value.none, data := Data.fields ps' } → (∃ more, ps' = ps ++ more) → TriplesOk ps'.toList →
      Post code { heap := h3, gens := s1.gens, drawn := s1.drawn, toks := tk, os := s1.os }) →
      wpAny (model X.prog X.w) X.A (genexprCode X.env gpos (X.env.qual ++ Str.ofString "<genexpr>") scope) Post X.xe { heap := s1.heap.push o, gens := s1.gens, drawn := s1.drawn, toks := s1.toks, os := s1.os } := by
    intro Post cont
    cases hf : codeAmong gpos ps.toList with
    | none =>
      refine wpAny_genexprCodeX hcode (cd.code hP2 ht) (cd.tab hP2) hf fun c' h' tk hx hge hlt hco' _ htab' _ => ?_
      obtain ⟨o1, vs, f1, tf, fl, tg, inF, tx, tt, op, _, _, _, _, _, _, _, _, _, htr, _⟩ := hco'
      exact cont _ h' tk _ hx (Nat.le_trans hge (Nat.le_of_lt hlt)) htab'.2 ⟨_, rfl⟩ htr
    | some cv => exact wpAny_genexprCode_hit hcode (cd.code hP2 ht) hf (cont cv (s1.heap.push o) s1.toks ps (Heap.ExtBut.refl P _) (Nat.le_refl _) hP2 ⟨#[], by simp⟩ ht)
  refine wpAny_pyIter_list (items := (as.map Value.ref).toArray) ⟨_, hlst, rfl, n0, rfl⟩ ?_
  rw [ho]
  refine ⟨lim2, key _ fun code h3 tk ps' hx hsz hP3 hmore ht3 => ?_⟩
  obtain ⟨bm, ob, e1, e2, e3, e4, e5, e6, e7, e8⟩ := TB.bm
  have keep3 : ∀ (b : Addr) (u : Obj), b ≠ P → s1.heap.get? b = some u → h3.get? b = some u := fun b u hb e => hx b u hb (Heap.get?_push_of_some o e)
  refine wpAny_builtinsFor (m := X.mg) ?gl e1 e2 (keep3 bm ob e4 (I1.bk bm ob e5)) e6 e7 e8 ?_
  case gl =>
    rw [I1.ok.glob]
    exact Heap.Ns.extBut (Heap.Ns.push (Heap.Ns.keeps I1.mod.glob I1.bk) o) hx TB.gP
  have hIt : h3.get? s1.heap.objs.size = some o := hx _ _ (Nat.ne_of_gt hPlt) (Heap.get?_push_size s1.heap (by rw [← ho]; rfl))
  have hlP : l ≠ P := fun e => by rw [e, hPs] at hlst; cases hlst
  have haP : ∀ i a, as[i]? = some a → a ≠ P := fun i a e z => by
    have := (hit i a e).1
    rw [z, hP] at this
    cases this
  have hli : l ≠ s1.heap.objs.size := Nat.ne_of_lt (Heap.lt_size hlst)
  have hsz3 : s1.heap.objs.size < h3.objs.size := by omega
  have hat : ∀ j, j < (as.map Value.ref).toArray.size → ∃ a, as[j]? = some a ∧ (as[j]?).getD 0 = a := fun j hj => by
    rw [hlen] at hj
    exact ⟨as[j], List.getElem?_eq_getElem hj, by rw [List.getElem?_eq_getElem hj]; rfl⟩
  have tup3 : ∀ j a, as[j]? = some a → h3.IsTuple a (vals j) := fun j a e => by
    obtain ⟨u, v, ev, ru, rv, ob, hob, hc, n, hd⟩ := (hvals j).2 a e
    rw [ev]
    exact ⟨ob, keep3 a ob (haP j a e) hob, hc, n, hd⟩
  have alt : ∀ j a, as[j]? = some a → a < s1.heap.objs.size := fun j a e => by
    obtain ⟨u, v, ev, ru, rv, ob, hob, _⟩ := (hvals j).2 a e
    exact Heap.lt_size hob
  have hcl : cStatics < s1.heap.objs.size := by
    obtain ⟨mc, hns, _⟩ := I1.nolimit
    exact Heap.Ns.lt hns
  have lim3 : h3.NoLimit := Heap.NoLimit.extBut lim2 hx fun e => by
    obtain ⟨mc, hns, _⟩ := I1.nolimit
    obtain ⟨o', es, ep, h1, h2, _⟩ := hns
    rw [e, hPs] at h1
    cases h1
    cases h2
  -- what the heap is once the table has grown
  have grown : ∀ (h' : Heap) (g' : Array GenState) (d' : Drawn) (t' : Nat), (∀ b u, b ≠ s1.heap.objs.size → b < h3.objs.size → h3.get? b = some u → h'.get? b = some u) → PyProof.Rows.AllBare g' →
      ∃ H2, GxR.Tabbed P H1 H2 ∧ L2.Inv X pins σ H2 { heap := h', gens := g', drawn := d', toks := t', os := s1.os } := fun h' g' d' t' hk hg => by
    obtain ⟨more, em⟩ := hmore
    refine ⟨upd H1 P (.tbl (ps ++ more)), ⟨⟨_, upd_same, ?_⟩, fun b hb => upd_ne hb⟩, GxR.inv_tab I1 hP (fun b u hb e => hk b u (Nat.ne_of_lt (Heap.lt_size e)) (Nat.lt_trans (Heap.lt_size e) hsz3) (keep3 b u hb e)) ?_ hg⟩
    · rw [← em]; exact ht3
    · rw [← em]; exact hk P _ (Nat.ne_of_lt hPlt) (Heap.lt_size hP3) hP3
  refine ⟨s1.heap.objs.size, s1.heap.objs.size :: l :: List.map (fun j => (as[j]?).getD 0) (List.range (as.map Value.ref).toArray.size), [s1.heap.objs.size], (as.map Value.ref).toArray.size, fun j v => j < (as.map Value.ref).toArray.size ∧ v = vals j, _, _, fun _ => true, fun i y => i < as.length ∧ y = Value.bool (b i), rfl, fun A' hA' => (WalksU.listOfTuples hA' s1.heap.objs.size l hli (as.map Value.ref).toArray (fun j => (as[j]?).getD 0) vals ?_ ?_).bound, ?_, ?_, ?_, lim3, ?_, ?_, ?_⟩
  · intro j hj
    obtain ⟨a, e, e2⟩ := hat j hj
    rw [e2]
    simp [e]
  · intro j hj
    obtain ⟨a, e, e2⟩ := hat j hj
    rw [e2]
    exact Nat.ne_of_lt (alt j a e)
  · rintro i v ⟨_, rfl⟩
    exact (hvals i).1
  · refine ⟨⟨o, hIt, by rw [← ho], by rw [← ho]; rfl⟩, ⟨_, keep3 l _ hlP hlst, rfl, n0, rfl⟩, fun j hj => ?_⟩
    obtain ⟨a, e, e2⟩ := hat j hj
    rw [e2]
    exact tup3 j a e
  · intro z hz
    show z < h3.objs.size
    cases List.mem_cons.mp hz with
    | inl e => rw [e]; exact hsz3
    | inr hz =>
      cases List.mem_cons.mp hz with
      | inl e => rw [e]; exact Nat.lt_trans (Heap.lt_size hlst) hsz3
      | inr hz =>
        obtain ⟨j, hj, ej⟩ := List.mem_map.mp hz
        obtain ⟨a, e, e2⟩ := hat j (List.mem_range.mp hj)
        rw [← ej, e2]
        exact Nat.lt_trans (alt j a e) hsz3
  · intro z
    rw [List.mem_singleton.mp z] at hcl
    exact Nat.lt_irrefl _ hcl
  · intro href hhref
    refine ⟨fun A' E' i va vb s2 m2 hA hD hU hv hn hma hmb hk => ?_, fun A' E' i va vb s2 m2 hA hD hU hv hp hn hma hmb hk => ?_⟩
    · exact wpAny_pure ⟨rfl, GxR.keeps_refl s2⟩
    · obtain ⟨hi, hv⟩ := hv
      obtain ⟨a, e, e2⟩ := hat i hi
      obtain ⟨u, v, ev, ru, rv, _⟩ := (hvals i).2 a e
      rw [ev] at hv
      cases hv
      obtain ⟨H2, tb, J⟩ := grown s2.heap s1.gens s2.drawn s2.toks (fun b u hb hl e => hk b (List.mem_range.mpr hl) (fun z => hb (List.mem_singleton.mp z)) u (hhref b u e)) I1.bare
      rw [hlen] at hi
      exact wpAny_mono ((hit i a e).2 pins H2 _ s2 A' E' _ code m2 _ _ J rfl tb hA hD hU hn hma hmb ru rv) (fun y s3 r => ⟨⟨hi, r.1⟩, r.2⟩) fun _ _ q => q
  · intro g h5 tk5 gs hgb hag hsz5 hk5 W5 hat5
    rw [GxR.passing_true, List.length_range, hlen] at W5
    rw [hlen] at hat5
    refine hQ g _ ⟨_, _, _, _, _, W5.in4_1, hat5, ?_, fun s' hm => ?_⟩
    · intro j y sj Qj Ej hy hQj
      obtain ⟨i, hij, _, rfl⟩ := hy
      obtain ⟨hj, ej⟩ := List.getElem?_eq_some_iff.mp hij
      rw [List.getElem_range hj] at ej
      rw [← ej]
      exact wpAny_truthy_bool hQj
    · obtain ⟨H2, tb, J⟩ := grown s'.heap s'.gens s'.drawn s'.toks (fun z u hz hl e => hm.heap z u (fun q => by
        cases List.mem_cons.mp q with
        | inl w => exact Nat.lt_irrefl _ (w ▸ hl)
        | inr w => exact hz (List.mem_singleton.mp w)) (hk5 z u e)) (PyProof.Rows.AllBare.movedS (PyProof.Rows.AllBare.push I1.bare hgb) hm)
      rw [GxR.sh_eta s1 s' hm.os] at J
      exact ⟨H2, tb, J⟩
end GQ

end
section
set_option Elab.async false
set_option linter.all false
set_option maxRecDepth 100000
set_option maxHeartbeats 4000000
namespace GQ
open PySem L2
def tAll2 (X : Cx) (P : Addr) (scope : Scope) (xa xb : Str) (elt : Expr) (te : TE) : TE := fun σ H Q =>
  te σ H fun v H1 => ∃ (l : Addr) (as : List Addr) (xs ys : Nat → V) (b : Nat → Bool), v = V.ref l ∧ H1 l = some (.lst (as.map V.ref)) ∧ GxR.TabG H1 P ∧
    (∀ i a, as[i]? = some a → H1 a = some (.tup [xs i, ys i]) ∧ El2 X σ P scope xa xb elt H1 (xs i) (ys i) (b i)) ∧
    ∀ H2, GxR.Tabbed P H1 H2 → Q (.bl ((List.range as.length).all b)) H2
theorem pe_all2 {X : Cx} {c P : Addr} {elt iter : Expr} {xa xb : Str} {pa pb pt gpos p pos : Pos} {kt : Nat} {scope : Scope} {te : TE} {k : Nat}
    (hr : Room k X.A) (hg : Gl X "all") (hm : X.mg "all" = none) (hb : bootBuiltins "all" = some (Value.builtin "all")) (TB : GxR.TabB X.base X.mg c P) (hcode : X.env.code = Value.ref c) (S : GenS2 X.env scope xa xb) (hi : PE X iter te) (hs : ∀ v, genFold iter X.env v = pure v) :
    PE X (.Call (.Name "all" p) [elt.GeneratorExp [{ target := Expr.Tuple [Expr.Name xa pa, Expr.Name xb pb] kt pt, iter := iter, ifs := [], is_async := 0 }] scope gpos] [] pos) (tAll2 X P scope xa xb elt te) := by
  refine ⟨fun pins s σ H Q I h => ?_⟩
  refine wpAny_Call_Name_kw (ld_blt I hg hm hb ?_)
  refine PyProof.Rows.callWith_builtin1 (Calls.spliced_cons ?_)
  refine gen_pairs (Q' := fun v s1 => wpAny (model X.prog X.w) X.A (spliced []) (fun vs s2 => wpAny (model X.prog X.w) X.A (call (Value.builtin "all") (v :: vs)) (EP X pins σ Q) X.xe s2) X.xe s1) (R := fun H1 n b => ∀ H2, GxR.Tabbed P H1 H2 → Q (.bl ((List.range n).all b)) H2) hr TB hcode S hi hs I h ?_
  intro H1 n b g s5 hR ⟨fp, wr, G, F, St, W, h0, tr, mv⟩
  refine Calls.spliced_nil (call_all_walkS (W.self 0 s5 _ _ h0 ?_))
  refine ⟨g, fp, wr, G, n, F, St, b, rfl, W, h0, tr, fun s' hm => ?_⟩
  obtain ⟨H2, tb, J⟩ := mv s' hm
  exact ⟨.bl ((List.range n).all b), H2, J, rfl, hR H2 tb⟩
end GQ

end
section
set_option Elab.async false
set_option linter.all false
set_option maxRecDepth 100000
set_option maxHeartbeats 4000000
namespace GQ
open PySem L2
theorem keeps_trans {a b c : Shared} (h : Keeps a b) (k : Keeps b c) : Keeps a c := by
  obtain ⟨h1, t1, e1, k1⟩ := h
  obtain ⟨h2, t2, e2, k2⟩ := k
  subst e1
  subst e2
  exact ⟨h2, t2, rfl, fun x o e => k2 x o (k1 x o e)⟩
/-- a call of a def whose body is one return, wherever it is called from, as long as its value is made quietly -/
theorem q_call {P : Program} {w : World} {K : PySem.W.Frag} {x qual : Str} {st : Stmt} {f : Addr} {fd : FuncData} {ps N : List Str} {A : Around} {E : Value → Shared → Prop} {Q : Value → Shared → Prop} {s : Shared} {us : List Value} {e : Expr} {rp : Pos}
    (F : L2.Fun K x qual st f fd) (sc : FnScope N ps (defScope st)) (hb : Binds K fd ps []) (hbody : defBody st = [.Return (some e) rp]) (kin : K.In s.heap) (lim : s.heap.NoLimit) (hd : A.depth < recursionLimit) (hlen : us.length = ps.length)
    (hq : ∀ (s1 : Shared) (env : Env) (m : Str → Option Value), Keeps s s1 → env.scope = defScope st → s1.heap.Ns env.locals m → m = bindL env.kindOf (ps.zip us) (fun _ => none) →
      wpAny (model P w) (A.deeper env) (eval e env) (fun v s2 => Keeps s1 s2 ∧ Q v s2) (fun _ _ => False) s1) :
    wpAny (model P w) A (call (.ref f) us) Q E s := by
  obtain ⟨oc, od, kV, doc, pm, an, cdv, ct, osl, rfl, hl, hc⟩ := F.ex
  refine wpAny_call (codeAny_call_function hd (kin f _ hl) rfl sc.co sc.gen (body := defBody st) rfl (W.codeRec_of kin hc) ?_)
  refine (hb s us kin (by rw [List.append_nil]; exact hlen)) _ _ _ _ ?_
  rw [List.append_nil]
  refine wpAny_newFunctionEnv_cells sc.kind (fun z hz => ?_) (fun env he s1 hc1 => ?_)
  · have hz' : z.1 ∈ ps := (List.of_mem_zip hz).1
    cases sc.par z.1 hz' with
    | inl h => exact .inl h
    | inr h => exact .inr ⟨h, W.cellsFrom_some _ _ _ (.inl h)⟩
  · have ic := hc1.toInCall
    have hk : Keeps s s1 := by
      obtain ⟨h', tk, es⟩ := ic.same
      subst es
      exact ⟨h', tk, rfl, ic.keep⟩
    refine ⟨Heap.NoLimit.keeps lim ic.keep, ?_⟩
    rw [hbody]
    refine codeAny_func ?_
    refine wpAny_execs_cons (wpAny_Return_some ?_)
    refine wpAny_mono (hq s1 env _ hk (by rw [he]; rfl) ic.ns rfl) (fun v s2 h => h.2) (fun _ _ h => h.elim)

/-- three parameters, all of them local -/
theorem bind3 {k : Str → Option NameKind} {a b c : Str} {u v w : Value} (ha : k a = some NameKind.local) (hb : k b = some NameKind.local) (hc : k c = some NameKind.local) (hab : a ≠ b) (hac : a ≠ c) (hbc : b ≠ c) :
    bindL k ([a, b, c].zip [u, v, w]) (fun _ => none) a = some u ∧ bindL k ([a, b, c].zip [u, v, w]) (fun _ => none) b = some v ∧ bindL k ([a, b, c].zip [u, v, w]) (fun _ => none) c = some w := by
  show bindL k [(a, u), (b, v), (c, w)] (fun _ => none) a = _ ∧ bindL k [(a, u), (b, v), (c, w)] (fun _ => none) b = _ ∧ bindL k [(a, u), (b, v), (c, w)] (fun _ => none) c = _
  unfold bindL
  rw [if_pos ha]
  unfold bindL
  rw [if_pos hb]
  unfold bindL
  rw [if_pos hc]
  unfold bindL
  refine ⟨?_, ?_, ?_⟩
  · show (if a = c then _ else if a = b then _ else if a = a then some u else none) = _
    rw [if_neg hac, if_neg hab, if_pos rfl]
  · show (if b = c then _ else if b = b then some v else _) = _
    rw [if_neg hbc, if_pos rfl]
  · show (if c = c then some w else _) = _
    rw [if_pos rfl]
theorem keeps_push {s : Shared} {o : Obj} : Keeps s { heap := s.heap.push o, gens := s.gens, drawn := s.drawn, toks := s.toks, os := s.os } :=
  ⟨_, _, rfl, fun b u e => Heap.get?_push_of_some o e⟩
/-- (a, b) in self.f, wherever it stands -/
theorem q_inF {P : Program} {w : World} {K : PySem.W.Frag} {A : Around} {E : Value → Shared → Prop} {s : Shared} {env : Env} {m : Str → Option Value} {H : Hp} {o dx C d : Addr} {fs : List (Str × V)} {kvs : List (List Key × V)} {na nb nS fl : Str} {x y : Int} {t1 t2 : Tok} {p1 p2 pt p3 p4 p5 : Pos} {kt : Nat}
    (hk : env.scope.kind = ScopeKind.function) (ka : env.kindOf na = some NameKind.local) (kb : env.kindOf nb = some NameKind.local) (kS : env.kindOf nS = some NameKind.local)
    (hns : s.heap.Ns env.locals m) (ma : m na = some (Value.int x t1)) (mb : m nb = some (Value.int y t2)) (mS : m nS = some (Value.ref o))
    (kin : K.In s.heap) (hok : HOk P w H s.heap) (ho : H o = some (.ins C dx fs)) (cl : Cls K C) (no : PySem.W.findIn K (.ref C) fl = some none) (hfl : fs.lookup fl = some (.ref d)) (hd : H d = some (.dT kvs)) (hu : A.units + 1 < cLine)
    (da : (na == Str.ofString "__debug__") = false) (db : (nb == Str.ofString "__debug__") = false) (dS : (nS == Str.ofString "__debug__") = false)
    (hat : attributeBase (.Name nS p3) fl env (eval (.Name nS p3) env) = eval (.Name nS p3) env) :
    wpAny (model P w) A (eval (.Compare (.Tuple [.Name na p1, .Name nb p2] kt pt) [.In] [.Attribute (.Name nS p3) fl p4] p5) env) (fun v s2 => v = Value.bool (valV kvs [.inl x, .inl y]).isSome ∧ Keeps s s2) E s := by
  have ldN : ∀ {n : Str} {p : Pos} {v : Value} {s' : Shared} {Q : Value → Shared → Prop}, env.kindOf n = some NameKind.local → s'.heap.Ns env.locals m → m n = some v → (n == Str.ofString "__debug__") = false → Q v s' → wpAny (model P w) A (eval (.Name n p) env) Q E s' :=
    fun kn hn mn dn q => wpAny_Name (wpAny_loadName_local hk kn hn mn q) dn
  refine wpAny_Compare1 (wpAny_Tuple_spliced ?_) rfl
  refine Calls.spliced_cons (ldN ka hns ma da ?_)
  refine Calls.spliced_cons (ldN kb hns mb db ?_)
  refine Calls.spliced_nil ⟨by show 2 ≤ sizeLine; decide, ?_⟩
  generalize ho1 : ({ cls := Value.type "tuple", data := Data.seq [Value.int x t1, Value.int y t2].toArray } : Obj) = ob
  have kp : ∀ (b : Addr) (u : Obj), s.heap.get? b = some u → (s.heap.push ob).get? b = some u := fun b u e => Heap.get?_push_of_some ob e
  have fr := hok.fresh (Nat.le_refl s.heap.objs.size)
  have hgt : (s.heap.push ob).get? s.heap.objs.size = some ob := Heap.get?_push_size s.heap (by rw [← ho1]; rfl)
  have hok2 : HOk P w (upd H s.heap.objs.size (.tup [.int x, .int y])) (s.heap.push ob) := hok.laid kp (Nat.le_refl _) (by
    unfold L2.ObjOk
    exact ⟨by show 2 ≤ sizeLine; decide, _, .cons ⟨t1, rfl⟩ (.cons ⟨t2, rfl⟩ .nil), ob, hgt, by rw [← ho1], _, by rw [← ho1]⟩)
  obtain ⟨mA, om, hrel, _, _, _⟩ := ins_get hok ho
  have om2 : ObjM (s.heap.push ob) o dx C mA := ⟨kp _ _ om.obj, Heap.Ns1.keeps om.ns kp, om.ne⟩
  have hmA : mA fl = some (Value.ref d) := by
    have r := hrel fl
    rw [hfl] at r
    cases e : mA fl with
    | none => rw [e] at r; cases r
    | some u =>
      rw [e] at r
      have r : u = Value.ref d := r
      rw [r]
  refine attr_of hat (ldN kS (Heap.Ns.keeps hns kp) mS dS ?_)
  refine get_map (kin.keeps kp) om2 (cl.get fl) cl.hd no hmA (handed_of (v := .ref d) rfl) ?_
  obtain ⟨_, hsm, xs, kt2, hdict⟩ := dt_rd (kvs := kvs) (a := d) hok2 (.inl (by rw [upd_ne (ne_of_none hd fr)]; exact hd))
  refine wpAny_in_heap (tupleKind_room_in1 hu) (key_of (ks := [.inl x, .inl y]) hok2 upd_same) hsm hdict ?_
  refine ⟨?_, ⟨_, _, rfl, kp⟩⟩
  have r := kt2.val [.inl x, .inl y]
  congr 1
  cases e1 : valV kvs [.inl x, .inl y] <;> cases e2 : atKey xs [.inl x, .inl y] <;> rw [e1, e2] at r <;> first | rfl | cases r
end GQ

end
section
set_option Elab.async false
set_option linter.all false
set_option maxRecDepth 100000
set_option maxHeartbeats 4000000
namespace GQ
open PySem L2
/-- a method of three parameters: return (b, c) in a.f -/
structure InDef (K : PySem.W.Frag) (st : Stmt) (x qual na nb nS fl : Str) (f : Addr) (fd : FuncData) : Prop where
  F : L2.Fun K x qual st f fd
  sc : FnScope [nS, na, nb] [nS, na, nb] (defScope st)
  hb : Binds K fd [nS, na, nb] []
  body : ∃ p1 p2 kt pt p3 p4 p5 rp, defBody st = [.Return (some (.Compare (.Tuple [.Name na p1, .Name nb p2] kt pt) [.In] [.Attribute (.Name nS p3) fl p4] p5)) rp] ∧ ∀ env : Env, attributeBase (.Name nS p3) fl env (eval (.Name nS p3) env) = eval (.Name nS p3) env
  la : List.lookup na (defScope st).names = some NameKind.local
  lb : List.lookup nb (defScope st).names = some NameKind.local
  lS : List.lookup nS (defScope st).names = some NameKind.local
  nab : na ≠ nb
  nSa : nS ≠ na
  nSb : nS ≠ nb
  da : (na == Str.ofString "__debug__") = false
  db : (nb == Str.ofString "__debug__") = false
  dS : (nS == Str.ofString "__debug__") = false
theorem q_has {P : Program} {w : World} {K : PySem.W.Frag} {st : Stmt} {x qual na nb nS fl : Str} {f : Addr} {fd : FuncData} {A : Around} {E : Value → Shared → Prop} {s : Shared} {H : Hp} {o dx C d : Addr} {fs : List (Str × V)} {kvs : List (List Key × V)} {a b : Int} {t1 t2 : Tok}
    (D : InDef K st x qual na nb nS fl f fd) (kin : K.In s.heap) (lim : s.heap.NoLimit) (hd : A.depth < recursionLimit) (hu : A.units + 8 < cLine) (hok : HOk P w H s.heap) (ho : H o = some (.ins C dx fs)) (cl : Cls K C) (no : PySem.W.findIn K (.ref C) fl = some none) (hfl : fs.lookup fl = some (.ref d)) (hdk : H d = some (.dT kvs)) :
    wpAny (model P w) A (call (.ref f) [.ref o, Value.int a t1, Value.int b t2]) (fun v s2 => v = Value.bool (valV kvs [.inl a, .inl b]).isSome ∧ Keeps s s2) E s := by
  obtain ⟨p1, p2, kt, pt, p3, p4, p5, rp, hbody, hat⟩ := D.body
  refine q_call (us := [.ref o, Value.int a t1, Value.int b t2]) D.F D.sc D.hb hbody kin lim hd rfl fun s1 env m hk hsc hns hm => ?_
  have hk2 := hk
  obtain ⟨h', tk, es, kp⟩ := hk2
  have ka : env.kindOf na = some NameKind.local := by show List.lookup na env.scope.names = _; rw [hsc]; exact D.la
  have kb : env.kindOf nb = some NameKind.local := by show List.lookup nb env.scope.names = _; rw [hsc]; exact D.lb
  have kS : env.kindOf nS = some NameKind.local := by show List.lookup nS env.scope.names = _; rw [hsc]; exact D.lS
  obtain ⟨mS, ma, mb⟩ := bind3 (u := .ref o) (v := Value.int a t1) (w := Value.int b t2) kS ka kb D.nSa D.nSb D.nab
  rw [← hm] at mS ma mb
  have kp1 : ∀ (b : Addr) (u : Obj), s.heap.get? b = some u → s1.heap.get? b = some u := by rw [es]; exact kp
  refine wpAny_mono (q_inF (E := fun _ _ => False) (by rw [hsc]; exact D.sc.kind) ka kb kS hns ma mb mS (kin.keeps kp1) (hok.kept kp1) ho cl no hfl hdk ?_ D.da D.db D.dS (hat env)) (fun v s2 h => ⟨h.2, h.1, keeps_trans hk h.2⟩) (fun _ _ h => h)
  show A.units + 3 + 1 < cLine
  omega
/-- o.m(b, a) with o a name of the def around, in the generator's frame -/
theorem el_has {X : Cx} {σ : St} {P : Addr} {scope : Scope} {k i : Nat} {st : Stmt} {x qual na nb nS fl xa xb no : Str} {f : Addr} {fd : FuncData} {H1 : Hp} {o dx C d : Addr} {fs : List (Str × V)} {kvs : List (List Key × V)} {a b : Int} {q1 q2 q3 q4 q5 : Pos}
    (hr : Room (k + 1) X.A) (D : InDef X.K st x qual na nb nS fl f fd) (M : Meth X.K C x f) (cl : Cls X.K C) (nf : PySem.W.findIn X.K (.ref C) fl = some none)
    (sk : scope.kind = ScopeKind.function) (la : List.lookup xa scope.names = some NameKind.local) (lb : List.lookup xb scope.names = some NameKind.local) (lo : List.lookup no scope.names = some NameKind.free)
    (hclo : ∀ c, List.lookup no X.env.cells = some c → List.lookup no (cloFrom X.env.cells scope.names []) = some c)
    (hN : X.N[i]? = some no) (hσ : σ[i]? = some (some (.ref o))) (hv : Vis X.env.scope no) (hkc : X.env.kindOf no ≠ some NameKind.local)
    (dxa : (xa == Str.ofString "__debug__") = false) (dxb : (xb == Str.ofString "__debug__") = false) (dno : (no == Str.ofString "__debug__") = false) (dcl : (no == Str.ofString "__classdict__") = false)
    (he : ∀ env : Env, ∃ pl : Sem Bool, eval (.Call (.Attribute (.Name no q1) x q2) [.Name xb q3, .Name xa q4] [] q5) env = (do
      let ov ← eval (Expr.Name no q1) env
      standAt q2.atName
      let __x ← holding [ov] (getMethod ov x pl)
      match __x with
        | (f, first) => callWith q5 f first (backTo q5 (starEach [.Name xb q3, .Name xa q4] env)) (backToKw q5 (keywordEach [] env))))
    (hP : GxR.TabG H1 P) (ho : H1 o = some (.ins C dx fs)) (hx : fs.lookup x = none) (hfl : fs.lookup fl = some (.ref d)) (hdk : H1 d = some (.dT kvs)) :
    El2 X σ P scope xa xb (.Call (.Attribute (.Name no q1) x q2) [.Name xb q3, .Name xa q4] [] q5) H1 (.int a) (.int b) (valV kvs [.inl b, .inl a]).isSome := by
  intro pins H2 s' s2 A' E' C' code m2 va vb I hh tb hA hD hU hns hma hmb ra rb
  obtain ⟨t1, rfl⟩ := ra
  obtain ⟨t2, rfl⟩ := rb
  obtain ⟨ps, hPt, _⟩ := hP
  have noP : o ≠ P := fun z => by rw [z, hPt] at ho; cases ho
  have ndP : d ≠ P := fun z => by rw [z, hPt] at hdk; cases hdk
  have ho2 : H2 o = some (.ins C dx fs) := by rw [tb.2 o noP]; exact ho
  have hd2 : H2 d = some (.dT kvs) := by rw [tb.2 d ndP]; exact hdk
  have hdp := hr.dp
  have hun := hr.un
  have kin : X.K.In s2.heap := by rw [hh]; exact I.kIn
  have lim : s2.heap.NoLimit := by rw [hh]; exact I.nolimit
  have hok : HOk X.prog X.w H2 s2.heap := by rw [hh]; exact I.hok
  obtain ⟨m, _, hlk⟩ := I.loc
  obtain ⟨u, ru, lk⟩ := hlk i no (.ref o) hN hσ hv
  have ru : u = Value.ref o := ru
  subst ru
  obtain ⟨c, hc1, hc2⟩ : ∃ c, List.lookup no X.env.cells = some c ∧ s'.heap.IsCell c (some (Value.ref o)) := by
    cases lk with
    | inl h => exact absurd h.1 hkc
    | inr h => exact h.2
  obtain ⟨mA, om, hrel, _, _, _⟩ := ins_get hok ho2
  have hmx : mA x = none := by
    have r := hrel x
    rw [hx] at r
    cases e : mA x with
    | none => rfl
    | some u => rw [e] at r; cases r
  obtain ⟨pl, he⟩ := he (genEnv scope (cloFrom X.env.cells scope.names []) C' code builtinsNs X.env)
  refine W.methodCall_KW (he := he) (wpAny_Name (wpAny_loadName_free sk lo (hclo c hc1) (by rw [hh]; exact hc2) ?_ dcl) dno)
  refine get_meth kin om (cl.get x) M.at_ M.fn hmx ?_
  refine W.callWith_K kin M.kp ?_
  refine Calls.spliced_cons (wpAny_Name (wpAny_loadName_local sk lb hns hmb ?_) dxb)
  refine Calls.spliced_cons (wpAny_Name (wpAny_loadName_local sk la hns hma ?_) dxa)
  refine Calls.spliced_nil ⟨kin, ?_⟩
  exact q_has D kin lim (by omega) (by omega) hok ho2 cl nf hfl hd2
end GQ

end
section
set_option Elab.async false
set_option linter.all false
set_option maxRecDepth 100000
set_option maxHeartbeats 4000000
namespace K01
open PySem L2 Kit KR KX KI RM GQ
/-- all is kept but the table at P -/
def Sp1 (P : Addr) (H H' : Hp) : Prop := ∀ a o, a ≠ P → H a = some o → H' a = some o
theorem Sp1.refl {P : Addr} {H : Hp} : Sp1 P H H := fun _ _ _ h => h
theorem Sp1.of {P : Addr} {H H' : Hp} (s : Same H H') : Sp1 P H H' := fun a o _ h => s a o h
theorem Sp1.trans {P : Addr} {H H1 H2 : Hp} (x : Sp1 P H H1) (y : Sp1 P H1 H2) : Sp1 P H H2 := fun a o n h => y a o n (x a o n h)
theorem Sp1.tab {P : Addr} {H H' : Hp} (t : GxR.Tabbed P H H') : Sp1 P H H' := fun a o n h => by rw [t.2 a n]; exact h
theorem tabG_same {P : Addr} {H H' : Hp} (s : Same H H') (t : GxR.TabG H P) : GxR.TabG H' P := by
  obtain ⟨ps, h, k⟩ := t
  exact ⟨ps, s _ _ h, k⟩
theorem tabG_ne {P a : Addr} {H : Hp} {o : HO} (t : GxR.TabG H P) (h : H a = some o) (n : ∀ ps, o ≠ .tbl ps) : a ≠ P := fun z => by
  obtain ⟨ps, q, _⟩ := t
  rw [z, q] at h
  cases h
  exact n ps rfl
theorem Sp1.net {C P a : Addr} {H H' : Hp} {n : Nat} {R : Rel} (s : Sp1 P H H') (t : GxR.TabG H P) (x : NetAt C H a n R) : NetAt C H' a n R := by
  obtain ⟨⟨dx, d, h1, h2⟩, b1, b2, ir⟩ := x
  exact ⟨⟨dx, d, s _ _ (tabG_ne t h1 fun _ z => nomatch z) h1, s _ _ (tabG_ne t h2 fun _ z => nomatch z) h2⟩, b1, b2, ir⟩
theorem Sp1.box {P b c : Addr} {H H' : Hp} (s : Sp1 P H H') (t : GxR.TabG H P) (x : BoxOk H b c) : BoxOk H' b c := by
  obtain ⟨ms, x1, x2, x3, x4, hb, hc, r⟩ := x
  exact ⟨ms, x1, x2, x3, x4, s _ _ (tabG_ne t hb fun _ z => nomatch z) hb, s _ _ (tabG_ne t hc fun _ z => nomatch z) hc, r⟩
theorem Sp1.lst {P a : Addr} {H H' : Hp} {xs : List V} (s : Sp1 P H H') (t : GxR.TabG H P) (h : H a = some (.lst xs)) : H' a = some (.lst xs) := s _ _ (tabG_ne t h fun _ z => nomatch z) h
/-- a def whose code object is known -/
structure FunT (K : PySem.W.Frag) (x : Str) (st : Stmt) (f c : Addr) (fd : FuncData) : Prop where
  ex : ∃ (oc kV doc pm ct : Value) (od an : Option Addr) (osl : Array (Option Value)), fd = PySem.W.fnOf x x (defArgs st) (defBody st) (defScope st) Value.none kV doc pm an (.ref c) ct ∧ List.lookup f K = some { cls := oc, dict := od, data := Data.func fd, slots := osl } ∧ PySem.W.codeIn K (.ref c) x = true
  kp : PySem.W.keepIn K (Value.ref f) = true
def DfT (K : PySem.W.Frag) (mg : Str → Option Value) (x : Str) (st : Stmt) (ps : List Str) (c : Addr) : Prop := ∃ (f : Addr) (fd : FuncData), FunT K x st f c fd ∧ mg x = some (.ref f) ∧ Binds K fd ps []
/-- has_link, as a def that a generator expression's test calls -/
def DfH (K : PySem.W.Frag) (C : Addr) : Prop := ∃ (f : Addr) (fd : FuncData), L2.Fun K "has_link" "Net.has_link" sNetHasLink f fd ∧ Meth K C "has_link" f ∧ Binds K fd ["self", "source", "reader"] []
theorem inDef {K : PySem.W.Frag} {f : Addr} {fd : FuncData} (F : L2.Fun K "has_link" "Net.has_link" sNetHasLink f fd) (hb : Binds K fd ["self", "source", "reader"] []) : InDef K sNetHasLink "has_link" "Net.has_link" "source" "reader" "self" "_links" f fd :=
  ⟨F, scNetHasLink, hb, ⟨_, _, _, _, _, _, _, _, rfl, fun _ => rfl⟩, rfl, rfl, rfl, by decide, by decide, by decide, by decide, by decide, by decide⟩
abbrev sIsTwoWay : Stmt := top 15
theorem scIsTwoWay : FnScope ["net"] ["net"] (defScope sIsTwoWay) := ⟨rfl, rfl, rfl, by decide +kernel, rfl, by decide +kernel, by decide +kernel⟩
def Two (n : Nat) (R : Rel) : Prop := ∀ x y, x < n → y < n → R x y = true → R y x = true
def spTwoWay (CN Pt : Addr) : Sp := fun vs H Q _ => ∃ (a : Addr) (n : Nat) (R : Rel), vs = [.ref a] ∧ NetAt CN H a n R ∧ GxR.TabG H Pt ∧ ∀ (b : Bool) H', Sp1 Pt H H' → GxR.TabG H' Pt → (b = true ↔ Two n R) → Q (.bl b) H'
section
variable {P : Program} {w : World} {K : PySem.W.Frag} {mg : Str → Option Value} {base : Heap} {CN CI CU CL CS : Addr} {mc mu : Value}
theorem ok_IsTwoWay {c Pt : Addr} (D : DfT K mg "is_two_way" sIsTwoWay ["net"] c) (T : NTx K mg CN mc mu) (aN : mg "all" = none) (TB : GxR.TabB base mg c Pt) (DH : DfH K CN) (PLinks : PropC P w K mg base 1 CN "links" (spLinks CN)) : C8.Cal P w K mg base 9 "is_two_way" (spTwoWay CN Pt) [] := by
  obtain ⟨f, fd, F, hm, hb⟩ := D
  obtain ⟨⟨oc, kV, doc, pm, ct, od, an, osl, rfl, lk, hcd⟩, kp⟩ := F
  refine ⟨f, _, ["net"], [], fn_of (CX := CX0) lk hcd scIsTwoWay (fun vs H Q E h => ?_) (fun A outer s H vs Q E hr h => ?_), hm, kp, hb, .nil⟩
  · obtain ⟨a, n, R, rfl, na, tg, k⟩ := h
    rfl
  · obtain ⟨a, n, R, rfl, na, tg, k⟩ := h
    have na2 := na
    obtain ⟨⟨dx, d, ha, hd⟩, b1, b2, ir⟩ := na2
    obtain ⟨fh, fdh, Fh, Mh, hbh⟩ := DH
    refine ⟨_, (pss_one (ps_ret (pe_all2 (c := c) (P := Pt) hr (by rfl) aN (by rfl) TB rfl ⟨rfl, rfl, by decide +kernel, rfl, rfl, rfl, by decide, fun y hy e => ?free⟩ (pe_pr PLinks hr (by decide) (pv 0)) (fun _ => rfl)))), ?_⟩
    case free =>
      have q : ∀ y ∈ ([(".0", NameKind.local), ("source", NameKind.local), ("reader", NameKind.local), ("net", NameKind.free)] : List (Str × NameKind)), y.2 = NameKind.free → y.1 = "net" := by decide +kernel
      rw [q y hy e]
      exact ⟨_, rfl⟩
    refine ⟨_, rfl, _, _, _, rfl, ha, _, _, _, rfl, na, fun l1 as1 H1 nl1 sm1 hl1 pl1 => ?_⟩
    refine ⟨l1, as1, fun i => V.int ((ties n R).getD i (0, 0)).1, fun i => V.int ((ties n R).getD i (0, 0)).2, fun i => (valV (linkKV n R) [.inl ((ties n R).getD i (0, 0)).2, .inl ((ties n R).getD i (0, 0)).1]).isSome, rfl, hl1, tabG_same sm1 tg, fun i t ht => ⟨?_, ?_⟩, fun H2 tb => ?_⟩
    · obtain ⟨t2, x, y, e0, e1, e2, e3⟩ := pl1.item (v := V.ref t) (by rw [List.getElem?_map, ht]; rfl)
      obtain rfl : t = t2 := V.ref.inj e0
      have q : (ties n R).getD i (0, 0) = (x, y) := by rw [List.getD_eq_getElem?_getD, e2]; rfl
      show H1 t = some (.tup [V.int ((ties n R).getD i (0, 0)).1, V.int ((ties n R).getD i (0, 0)).2])
      rw [e3, q]
    · refine el_has (i := 0) (fs := netF n d) (kvs := linkKV n R) (d := d) (dx := dx) (C := CN) (fl := "_links") (nb := "reader") hr (inDef Fh hbh) Mh T.cl T.n__links rfl rfl rfl rfl (fun c e => e) rfl rfl (by first | exact .inl rfl | exact .inr (.inl rfl) | exact .inr (.inr rfl) | decide +kernel) (by intro z; cases z) rfl rfl rfl rfl (fun env => ⟨_, rfl⟩) (tabG_same sm1 tg) (sm1 _ _ ha) (netF_no _ _ (by decide +kernel) (by decide +kernel)) (netF_links _ _) (sm1 _ _ hd)
    · refine k _ H2 ((Sp1.of sm1).trans (Sp1.tab tb)) tb.1 ?_
      rw [List.all_eq_true]
      constructor
      · intro h x y hx hy r
        obtain ⟨i, hi⟩ := List.getElem?_of_mem ((has_nat hx hy).mpr r)
        have lt : i < as1.length := by rw [pl1.1]; exact (List.getElem?_eq_some_iff.mp hi).1
        have z := h i (List.mem_range.mpr lt)
        have q : (ties n R).getD i (0, 0) = ((x : Int), (y : Int)) := by rw [List.getD_eq_getElem?_getD, hi]; rfl
        have z : (valV (linkKV n R) [.inl ((ties n R).getD i (0, 0)).2, .inl ((ties n R).getD i (0, 0)).1]).isSome = true := z
        rw [q, has_key] at z
        exact (has_nat hy hx).mp (of_decide_eq_true z)
      · intro tw i hi
        have lt := List.mem_range.mp hi
        rw [pl1.1] at lt
        obtain ⟨x, y, hx, hy, r, e⟩ := mem_ties.mp (List.getElem_mem lt)
        have q : (ties n R).getD i (0, 0) = ((x : Int), (y : Int)) := by rw [List.getD_eq_getElem?_getD, List.getElem?_eq_getElem lt, e]; rfl
        show (valV (linkKV n R) [.inl ((ties n R).getD i (0, 0)).2, .inl ((ties n R).getD i (0, 0)).1]).isSome = true
        rw [q, has_key]
        exact decide_eq_true ((has_nat hy hx).mpr (tw x y hx hy r))
end
end K01

end
section
set_option Elab.async false
set_option linter.all false
set_option maxRecDepth 100000
set_option maxHeartbeats 4000000
namespace K01
open PySem L2 Kit KR KX KI RM
local macro_rules | `(tactic| fail "om") => `(tactic| first | omega | (simp only [List.length_map, List.length_append, List.length_cons, List.length_nil]; omega) | (simp only [List.length_map, List.length_append, List.length_cons, List.length_nil] at *; omega) | assumption | decide | (simp only [List.length_take, List.length_drop]; omega) | (rw [every_len]; omega) | fail "no om")
local macro_rules | `(tactic| fail "nz") => `(tactic| first | decide | omega | fail "no nz")
local macro_rules | `(tactic| fail "dv") => `(tactic| exact ⟨by first | decide | omega, by first | decide | omega⟩)
local macro_rules | `(tactic| fail "mul") => `(tactic| first | exact .inr ⟨by decide, by decide⟩ | exact .inl ⟨by decide, by decide⟩ | exact mulF (by decide) (by decide) | exact .inl ⟨by omega, by omega⟩ | exact .inr ⟨by omega, by omega⟩ | fail "no mul")
local macro_rules | `(tactic| fail "sz") => `(tactic| first | assumption | exact Nat.zero_le _ | (show 1 ≤ sizeLine; decide) | (show 2 ≤ sizeLine; decide) | (show 3 ≤ sizeLine; decide) | (show 4 ≤ sizeLine; decide) | (show 5 ≤ sizeLine; decide) | exact Evl.sz_of (by omega) | (refine Evl.sz_of ?_; simp only [List.length_append, List.length_map, List.length_cons, List.length_nil]; omega) | (refine Evl.sz_of ?_; simp only [List.length_append, List.length_map, List.length_cons, List.length_nil, List.length_take, List.length_drop]; omega) | fail "no sz")
local macro_rules | `(tactic| fail "szl") => `(tactic| first | exact Evl.sz_lt (by omega) | (refine Evl.sz_lt ?_; simp only [List.length_append, List.length_map, List.length_cons, List.length_nil]; omega) | fail "no szl")
local macro_rules | `(tactic| fail "ix") => `(tactic| first | assumption | exact ix0 | exact ix1 | exact ix2 | exact at_ref (by assumption) (by omega) | exact at_int (by assumption) (by omega) | exact at_drawn (by assumption) (by assumption) | exact at_lit (by first | assumption | omega) (by fail "om") | rfl | fail "no ix")
local macro_rules | `(tactic| fail "ixn") => `(tactic| first | rfl | assumption | fail "no ixn")
local macro_rules | `(tactic| fail "nb") => `(tactic| first | assumption | exact nb_tup | exact nb_nil | exact nb_ints | exact nb_refs | exact nb_ins | exact nb_dT | exact nb_frz | fail "no nb")
local macro_rules | `(tactic| fail "ne") => `(tactic| first | assumption | exact Ne.symm (by assumption) | exact ne_of_none (by assumption) (by assumption) | exact (ne_of_none (by assumption) (by assumption)).symm | exact ne_of (by assumption) (by assumption) (by intro q; cases q) | exact ne_of (by assumption) (by assumption) (by simp) | fail "no ne")
local macro_rules | `(tactic| fail "hp") => `(tactic| first | assumption | exact upd_same | exact lit0 | exact lit1 | exact lit3 | exact lit2 | (refine' Tk.get (by assumption) ?k1; (case k1 => fail "tk")) | (with_reducible refine' upd_new ?h1 ?n1; (case n1 => assumption); (case h1 => fail "hp")) | (refine' Same.get (by assumption) ?h1; (case h1 => fail "hp")) | (refine' Kp.get (by assumption) (by fail "bx") ?h1 ?d1; (case h1 => fail "hp"); (case d1 => fail "nb")) | (with_reducible refine' upd_oth ?h1 ?n1; (case n1 => fail "ne"); (case h1 => fail "hp")) | (with_reducible refine' upd_oth ?h1 ?n1; (case h1 => fail "hp"); (case n1 => fail "ne")) | (refine' Kq.get (by assumption) (by fail "bx") ?h1 ?d1 (by fail "ne"); (case h1 => fail "hp"); (case d1 => fail "nb")) | fail "no hp")
local macro_rules | `(tactic| fail "bx") => `(tactic| first | assumption | (with_reducible refine' BoxOk.new ?h1 ?n1; (case n1 => assumption); (case h1 => fail "bx")) | (refine' BoxOk.same (by assumption) ?h1; (case h1 => fail "bx")) | (with_reducible refine' BoxOk.mut ?h1 ?h2 ?n1; (case n1 => assumption); (case h2 => assumption); (case h1 => fail "bx")) | fail "no bx")
local macro_rules | `(tactic| fail "kp") => `(tactic| first | assumption | exact Kp.refl | (with_reducible refine' Kp.at ?h1; (case h1 => fail "kp")) | (with_reducible refine' Kp.new ?h1 ?n1; (case n1 => assumption); (case h1 => fail "kp")) | (with_reducible refine' Kp.mut ?h1 ?n1; (case n1 => assumption); (case h1 => fail "kp")) | (refine' Kp.tr (by assumption) ?h1; (case h1 => fail "kp")) | (refine' Kp.tr (Kp.of (by assumption)) ?h1; (case h1 => fail "kp")) | (refine' Kq.kp (by assumption) ?h1 (by assumption); (case h1 => fail "kp")) | fail "no kp")
local macro_rules | `(tactic| fail "ite") => `(tactic| first | refine iteT ?_ | refine iteF ?_)
local macro_rules | `(tactic| fail "tt") => `(tactic| first | rfl | exact decide_eq_true (by first | rfl | omega | assumption) | exact decide_eq_true (congrArg V.int (by first | rfl | omega)) | fail "no tt")
local macro_rules | `(tactic| fail "cv") => `(tactic| first | exact .ty _ | exact .own _)
local macro_rules | `(tactic| fail "tx") => `(tactic| first | exact .base (.int _) | exact .base (.bl _) | exact .base .non | exact .base (.lst (by fail "hp")) | exact .base (.tup (by fail "hp")) | fail "no tx")
local macro_rules | `(tactic| fail "dead") => `(tactic| (exfalso; first | omega | contradiction | simp_all))
local macro_rules | `(tactic| fail "dp") => `(tactic| first | exact .tup (SqT.of (by fail "hp")) (.cons (.int _) (.cons (.int _) .nil)) | exact .lst (SqL.of (by fail "hp")) (dpPrs (by fail "pr")) | exact .lst (SqL.of (by fail "hp")) (dpInts _) | exact .lst (SqL.of (by fail "hp")) .nil | fail "no dp")
local macro_rules | `(tactic| fail "shp") => `(tactic| first | assumption | exact prD_shaped _ | exact PySem.W.ke_shaped_ints _ | rfl | fail "no shp")
local macro_rules | `(tactic| fail "pr") => `(tactic| first | assumption | exact PrT.mono (by assumption) (by fail "tk") | fail "no pr")
local macro_rules | `(tactic| fail "tk") => `(tactic| first | assumption | exact Tk.refl | (with_reducible refine' Tk.new ?h1 ?n1; (case n1 => assumption); (case h1 => fail "tk")) | (refine' Tk.tr (Kp.tk (by assumption) (by fail "bx")) ?h1; (case h1 => fail "tk")) | (refine' Tk.tr (Same.tk (by assumption)) ?h1; (case h1 => fail "tk")) | (with_reducible refine' Tk.lst ?h1 ?n1; (case n1 => fail "hp"); (case h1 => fail "tk")) | fail "no tk")
local macro_rules | `(tactic| fail "lk") => `(tactic| first | exact netF_count _ _ | exact netF_links _ _ | exact netF_no _ _ (by decide +kernel) (by decide +kernel) | fail "no lk")
local macro_rules | `(tactic| fail "kt") => `(tactic| first | exact upd_same | assumption | fail "hp")
local macro_rules | `(tactic| fail "na") => `(tactic| first | assumption | (with_reducible refine' NetAt.new ?h1 ?n1; (case n1 => assumption); (case h1 => fail "na")) | (refine' NetAt.same (by assumption) ?h1; (case h1 => fail "na")) | (refine' NetAt.kp (by assumption) (by fail "bx") ?h1; (case h1 => fail "na")) | (with_reducible refine' NetAt.lst ?h1 ?n1; (case n1 => fail "hp"); (case h1 => fail "na")) | fail "no na")
local macro_rules | `(tactic| fail "mono") => `(tactic| first | exact fun _ _ _ _ h q => h _ _ q | exact fun _ _ _ _ h q => (let ⟨v, e, z⟩ := q; ⟨v, e, h _ _ z⟩) | exact fun _ _ _ _ h q => (let ⟨v, e, u, f, z⟩ := q; ⟨v, e, u, f, h _ _ z⟩) | fail "no mono")
local macro_rules | `(tactic| fail "sm") => `(tactic| first | assumption | exact Same.refl _ | (with_reducible refine' Same.new ?h1 ?n1; (case n1 => assumption); (case h1 => fail "sm")) | (refine' Same.tr (by assumption) ?h1; (case h1 => fail "sm")) | fail "no sm")
local macro_rules | `(tactic| fail "fld") => `(tactic| first | (show 0 < 1000; decide) | (show 1 < 1000; decide) | fail "no fld")
local macro_rules | `(tactic| fail "kq") => `(tactic| first | assumption | exact Kq.refl | (with_reducible refine' Kq.at ?h1; (case h1 => fail "kq")) | (with_reducible refine' Kq.new ?h1 ?n1; (case n1 => assumption); (case h1 => fail "kq")) | (refine' Kq.trans ?h1 (by assumption); (case h1 => fail "kq")) | (refine' Kq.trans ?h1 (Kq.of (by assumption)); (case h1 => fail "kq")) | (refine' Kq.trans ?h1 (Kq.ofS (by assumption)); (case h1 => fail "kq")) | fail "no kq")
local macro_rules | `(tactic| fail "mo") => `(tactic| first | assumption | exact MemOk.take (by assumption) _ | exact MemOk.drop (by assumption) _ | exact every_ok _ | fail "no mo")

section
variable {P : Program} {w : World} {K : PySem.W.Frag} {mg : Str → Option Value} {base : Heap} {CN CI CU CL CS Pt : Addr} {mc mu : Value}


def Tree (n : Nat) (R : Rel) : Prop := (ties n R).length = 2 * (n - 1) ∧ Two n R ∧ Strong n R
def spIsTree (CN Pt : Addr) : Sp := fun vs H Q _ => ∃ (a : Addr) (n : Nat) (R : Rel), vs = [.ref a] ∧ NetAt CN H a n R ∧ GxR.TabG H Pt ∧ ∀ (b : Bool) H', Sp1 Pt H H' → GxR.TabG H' Pt → (b = true ↔ Tree n R) → Q (.bl b) H'
abbrev sIsTree : Stmt := top 18
theorem scIsTree : FnScope ["net"] ["net"] (defScope sIsTree) := ⟨rfl, rfl, rfl, by decide +kernel, rfl, by decide +kernel, by decide +kernel⟩
theorem ok_IsTree (D : Df K mg "is_tree" sIsTree ["net"]) (T : NTx K mg CN mc mu) (GTwoWay : C8.Cal P w K mg base 9 "is_two_way" (spTwoWay CN Pt) []) (GStrong : C8.Cal P w K mg base 8 "is_strong" (spStrong CN) []) (PLinks : PropC P w K mg base 1 CN "links" (spLinks CN)) : C8.Cal P w K mg base 11 "is_tree" (spIsTree CN Pt) [] := by
  obtain ⟨f, fd, F, hm, hb⟩ := D
  refine ⟨f, fd, ["net"], [], F.ok scIsTree (fun vs H Q E h => ?_) (fun cdv A outer s H vs Q E hr h => ?_), hm, F.kp, hb, .nil⟩
  · obtain ⟨a, n, R, rfl, na, tg, k⟩ := h
    rfl
  · obtain ⟨a, n, R, rfl, na, tg, k⟩ := h
    have na2 := na
    obtain ⟨⟨dx, d, ha, hd⟩, b1, b2, ir⟩ := na2
    refine ⟨_, (pss_one (ps_ret (pe_and (pe_cmpR op_eq (pe_callB call_len_seq (by rfl) T.len (by decide +kernel) (pa_cons (pe_pr PLinks hr (by decide) (pv 0)) pa_nil)) (pe_op op_mul pe_int (pe_op op_sub (pe_fld (pv 0) (by rfl)) pe_int)) (nomark _)) (pe_and (C8.pe_c GTwoWay hr (by decide) (by rfl) (pa_cons (pv 0) pa_nil)) (pe_one (C8.pe_c GStrong hr (by decide) (by rfl) (pa_cons (pv 0) pa_nil))))))), ?_⟩
    -- return len(net.links) == 2 * (net.count - 1) and is_two_way(net) and is_strong(net)
    refine ⟨_, rfl, _, _, _, rfl, (by fail "hp"), _, _, _, rfl, (by fail "na"), fun l1 as1 H1 nl1 sm1 hl1 pl1 => ⟨_, _, rfl, .inl (SqL.of (by fail "hp")), _, rfl, _, _, _, _, _, rfl, (by fail "hp"), T.cl, T.n_count, (by fail "lk"), _, _, rfl, rfl, _, _, rfl, rfl, (by fail "mul"), rfl, _, rfl, ?_⟩⟩
    refine ifEqI (fun g5 => ?_) (fun g5 => ?_)
    · refine ⟨_, rfl, _, _, _, rfl, (by fail "na"), (tabG_same sm1 tg), fun b2 H2 sp2 tp2 tl2 => ⟨_, rfl, ?_⟩⟩
      refine ifB (fun g4 => ?_) (fun g4 => ?_)
      · refine ⟨_, rfl, _, _, _, rfl, (Sp1.net sp2 (tabG_same sm1 tg) (NetAt.same sm1 na)), fun b3 H3 sm3 tl3 => ?_⟩
        rw [List.length_map, pl1.1] at g5
        refine k _ _ ((Sp1.of sm1).trans (sp2.trans (Sp1.of sm3))) (tabG_same sm3 tp2) ?_
        rw [tl3]
        exact ⟨fun q => ⟨by omega, tl2.mp g4, q⟩, fun q => q.2.2⟩
      · refine k _ _ ((Sp1.of sm1).trans sp2) tp2 ?_
        exact ⟨fun q => (nomatch q), fun q => absurd (tl2.mpr q.2.1) (by rw [g4]; exact Bool.false_ne_true)⟩
    · rw [List.length_map, pl1.1] at g5
      refine k _ _ (Sp1.of sm1) (tabG_same sm1 tg) ?_
      exact ⟨fun q => (nomatch q), fun q => absurd q.1 (by omega)⟩
end
end K01

end
section
set_option Elab.async false
set_option linter.all false
set_option maxRecDepth 100000
set_option maxHeartbeats 4000000
namespace K01
open PySem L2 Kit KR KX KI RM
local macro_rules | `(tactic| fail "om") => `(tactic| first | omega | (simp only [List.length_map, List.length_append, List.length_cons, List.length_nil]; omega) | (simp only [List.length_map, List.length_append, List.length_cons, List.length_nil] at *; omega) | assumption | decide | (simp only [List.length_take, List.length_drop]; omega) | (rw [every_len]; omega) | fail "no om")
local macro_rules | `(tactic| fail "nz") => `(tactic| first | decide | omega | fail "no nz")
local macro_rules | `(tactic| fail "dv") => `(tactic| exact ⟨by first | decide | omega, by first | decide | omega⟩)
local macro_rules | `(tactic| fail "mul") => `(tactic| first | exact .inr ⟨by decide, by decide⟩ | exact .inl ⟨by decide, by decide⟩ | exact mulF (by decide) (by decide) | exact .inl ⟨by omega, by omega⟩ | exact .inr ⟨by omega, by omega⟩ | fail "no mul")
local macro_rules | `(tactic| fail "sz") => `(tactic| first | assumption | exact Nat.zero_le _ | (show 1 ≤ sizeLine; decide) | (show 2 ≤ sizeLine; decide) | (show 3 ≤ sizeLine; decide) | (show 4 ≤ sizeLine; decide) | (show 5 ≤ sizeLine; decide) | exact Evl.sz_of (by omega) | (refine Evl.sz_of ?_; simp only [List.length_append, List.length_map, List.length_cons, List.length_nil]; omega) | (refine Evl.sz_of ?_; simp only [List.length_append, List.length_map, List.length_cons, List.length_nil, List.length_take, List.length_drop]; omega) | fail "no sz")
local macro_rules | `(tactic| fail "szl") => `(tactic| first | exact Evl.sz_lt (by omega) | (refine Evl.sz_lt ?_; simp only [List.length_append, List.length_map, List.length_cons, List.length_nil]; omega) | fail "no szl")
local macro_rules | `(tactic| fail "ix") => `(tactic| first | assumption | exact ix0 | exact ix1 | exact ix2 | exact at_ref (by assumption) (by omega) | exact at_int (by assumption) (by omega) | exact at_drawn (by assumption) (by assumption) | exact at_lit (by first | assumption | omega) (by fail "om") | rfl | fail "no ix")
local macro_rules | `(tactic| fail "ixn") => `(tactic| first | rfl | assumption | fail "no ixn")
local macro_rules | `(tactic| fail "nb") => `(tactic| first | assumption | exact nb_tup | exact nb_nil | exact nb_ints | exact nb_refs | exact nb_ins | exact nb_dT | exact nb_frz | fail "no nb")
local macro_rules | `(tactic| fail "ne") => `(tactic| first | assumption | exact Ne.symm (by assumption) | exact ne_of_none (by assumption) (by assumption) | exact (ne_of_none (by assumption) (by assumption)).symm | exact ne_of (by assumption) (by assumption) (by intro q; cases q) | exact ne_of (by assumption) (by assumption) (by simp) | fail "no ne")
local macro_rules | `(tactic| fail "hp") => `(tactic| first | assumption | exact upd_same | exact lit0 | exact lit1 | exact lit3 | exact lit2 | (refine' Tk.get (by assumption) ?k1; (case k1 => fail "tk")) | (with_reducible refine' upd_new ?h1 ?n1; (case n1 => assumption); (case h1 => fail "hp")) | (refine' Same.get (by assumption) ?h1; (case h1 => fail "hp")) | (refine' Kp.get (by assumption) (by fail "bx") ?h1 ?d1; (case h1 => fail "hp"); (case d1 => fail "nb")) | (with_reducible refine' upd_oth ?h1 ?n1; (case n1 => fail "ne"); (case h1 => fail "hp")) | (with_reducible refine' upd_oth ?h1 ?n1; (case h1 => fail "hp"); (case n1 => fail "ne")) | (refine' Kq.get (by assumption) (by fail "bx") ?h1 ?d1 (by fail "ne"); (case h1 => fail "hp"); (case d1 => fail "nb")) | fail "no hp")
local macro_rules | `(tactic| fail "bx") => `(tactic| first | assumption | (with_reducible refine' BoxOk.new ?h1 ?n1; (case n1 => assumption); (case h1 => fail "bx")) | (refine' BoxOk.same (by assumption) ?h1; (case h1 => fail "bx")) | (with_reducible refine' BoxOk.mut ?h1 ?h2 ?n1; (case n1 => assumption); (case h2 => assumption); (case h1 => fail "bx")) | fail "no bx")
local macro_rules | `(tactic| fail "kp") => `(tactic| first | assumption | exact Kp.refl | (with_reducible refine' Kp.at ?h1; (case h1 => fail "kp")) | (with_reducible refine' Kp.new ?h1 ?n1; (case n1 => assumption); (case h1 => fail "kp")) | (with_reducible refine' Kp.mut ?h1 ?n1; (case n1 => assumption); (case h1 => fail "kp")) | (refine' Kp.tr (by assumption) ?h1; (case h1 => fail "kp")) | (refine' Kp.tr (Kp.of (by assumption)) ?h1; (case h1 => fail "kp")) | (refine' Kq.kp (by assumption) ?h1 (by assumption); (case h1 => fail "kp")) | fail "no kp")
local macro_rules | `(tactic| fail "ite") => `(tactic| first | refine iteT ?_ | refine iteF ?_)
local macro_rules | `(tactic| fail "tt") => `(tactic| first | rfl | exact decide_eq_true (by first | rfl | omega | assumption) | exact decide_eq_true (congrArg V.int (by first | rfl | omega)) | fail "no tt")
local macro_rules | `(tactic| fail "cv") => `(tactic| first | exact .ty _ | exact .own _)
local macro_rules | `(tactic| fail "tx") => `(tactic| first | exact .base (.int _) | exact .base (.bl _) | exact .base .non | exact .base (.lst (by fail "hp")) | exact .base (.tup (by fail "hp")) | fail "no tx")
local macro_rules | `(tactic| fail "dead") => `(tactic| (exfalso; first | omega | contradiction | simp_all))
local macro_rules | `(tactic| fail "dp") => `(tactic| first | exact .tup (SqT.of (by fail "hp")) (.cons (.int _) (.cons (.int _) .nil)) | exact .lst (SqL.of (by fail "hp")) (dpPrs (by fail "pr")) | exact .lst (SqL.of (by fail "hp")) (dpInts _) | exact .lst (SqL.of (by fail "hp")) .nil | fail "no dp")
local macro_rules | `(tactic| fail "shp") => `(tactic| first | assumption | exact prD_shaped _ | exact PySem.W.ke_shaped_ints _ | rfl | fail "no shp")
local macro_rules | `(tactic| fail "pr") => `(tactic| first | assumption | exact PrT.mono (by assumption) (by fail "tk") | fail "no pr")
local macro_rules | `(tactic| fail "tk") => `(tactic| first | assumption | exact Tk.refl | (with_reducible refine' Tk.new ?h1 ?n1; (case n1 => assumption); (case h1 => fail "tk")) | (refine' Tk.tr (Kp.tk (by assumption) (by fail "bx")) ?h1; (case h1 => fail "tk")) | (refine' Tk.tr (Same.tk (by assumption)) ?h1; (case h1 => fail "tk")) | (with_reducible refine' Tk.lst ?h1 ?n1; (case n1 => fail "hp"); (case h1 => fail "tk")) | fail "no tk")
local macro_rules | `(tactic| fail "lk") => `(tactic| first | exact netF_count _ _ | exact netF_links _ _ | exact netF_no _ _ (by decide +kernel) (by decide +kernel) | fail "no lk")
local macro_rules | `(tactic| fail "kt") => `(tactic| first | exact upd_same | assumption | fail "hp")
local macro_rules | `(tactic| fail "na") => `(tactic| first | assumption | (with_reducible refine' NetAt.new ?h1 ?n1; (case n1 => assumption); (case h1 => fail "na")) | (refine' NetAt.same (by assumption) ?h1; (case h1 => fail "na")) | (refine' NetAt.kp (by assumption) (by fail "bx") ?h1; (case h1 => fail "na")) | (with_reducible refine' NetAt.lst ?h1 ?n1; (case n1 => fail "hp"); (case h1 => fail "na")) | fail "no na")
local macro_rules | `(tactic| fail "mono") => `(tactic| first | exact fun _ _ _ _ h q => h _ _ q | exact fun _ _ _ _ h q => (let ⟨v, e, z⟩ := q; ⟨v, e, h _ _ z⟩) | exact fun _ _ _ _ h q => (let ⟨v, e, u, f, z⟩ := q; ⟨v, e, u, f, h _ _ z⟩) | fail "no mono")
local macro_rules | `(tactic| fail "sm") => `(tactic| first | assumption | exact Same.refl _ | (with_reducible refine' Same.new ?h1 ?n1; (case n1 => assumption); (case h1 => fail "sm")) | (refine' Same.tr (by assumption) ?h1; (case h1 => fail "sm")) | fail "no sm")
local macro_rules | `(tactic| fail "fld") => `(tactic| first | (show 0 < 1000; decide) | (show 1 < 1000; decide) | fail "no fld")
local macro_rules | `(tactic| fail "kq") => `(tactic| first | assumption | exact Kq.refl | (with_reducible refine' Kq.at ?h1; (case h1 => fail "kq")) | (with_reducible refine' Kq.new ?h1 ?n1; (case n1 => assumption); (case h1 => fail "kq")) | (refine' Kq.trans ?h1 (by assumption); (case h1 => fail "kq")) | (refine' Kq.trans ?h1 (Kq.of (by assumption)); (case h1 => fail "kq")) | (refine' Kq.trans ?h1 (Kq.ofS (by assumption)); (case h1 => fail "kq")) | fail "no kq")
local macro_rules | `(tactic| fail "mo") => `(tactic| first | assumption | exact MemOk.take (by assumption) _ | exact MemOk.drop (by assumption) _ | exact every_ok _ | fail "no mo")

theorem rowI_yes {R : Rel} {x j : Nat} (h : R x j = true) : rowI R x (j + 1) = rowI R x j ++ [(j : Int)] := by
  rw [rowI_col, rowI_col, colI_yes (R := fun a b => R b a) h]
theorem rowI_no {R : Rel} {x j : Nat} (h : R x j = false) : rowI R x (j + 1) = rowI R x j := by
  rw [rowI_col, rowI_col, colI_no (R := fun a b => R b a) h]
section
variable {P : Program} {w : World} {K : PySem.W.Frag} {mg : Str → Option Value} {base : Heap}

/-- ones and noughts -/
def fr (n : Nat) (F : Nat → Bool) : List Int := (List.range n).map fun x => if F x = true then (1 : Int) else 0
theorem fr_len (n : Nat) (F : Nat → Bool) : (fr n F).length = n := by unfold fr; rw [List.length_map, List.length_range]
theorem fr_snoc (i : Nat) (F : Nat → Bool) : fr (i + 1) F = fr i F ++ [if F i = true then (1 : Int) else 0] := by
  unfold fr
  rw [List.range_succ, List.map_append]
  rfl
theorem fr_at {n x : Nat} (F : Nat → Bool) (h : x < n) : (fr n F)[x]? = some (if F x = true then (1 : Int) else 0) := by
  unfold fr
  rw [List.getElem?_map, List.getElem?_range h]
  rfl
theorem fr_ix {n x : Nat} (F : Nat → Bool) (h : x < n) : atI ((fr n F).map V.int) (x : Int) = some (V.int (if F x = true then (1 : Int) else 0)) := at_int (fr_at F h) rfl
theorem fr_congr {n : Nat} {F F' : Nat → Bool} (h : ∀ x, x < n → F x = F' x) : fr n F = fr n F' := by
  unfold fr
  exact List.map_congr_left fun x hx => by rw [h x (List.mem_range.mp hx)]
def off (F : Nat → Bool) (y : Nat) : Nat → Bool := fun x => F x && !decide (x = y)
theorem fr_set {n y : Nat} (F : Nat → Bool) (h : y < n) : (fr n F).set y 0 = fr n (off F y) := by
  refine List.ext_getElem? fun i => ?_
  by_cases e : i = y
  · subst e
    rw [List.getElem?_set_self (by rw [fr_len]; exact h), fr_at _ h]
    unfold off
    rw [decide_eq_true rfl, Bool.not_true, Bool.and_false]
    rfl
  · rw [List.getElem?_set_ne (fun z => e z.symm)]
    by_cases l : i < n
    · rw [fr_at _ l, fr_at _ l]
      unfold off
      rw [decide_eq_false e, Bool.not_false, Bool.and_true]
    · rw [List.getElem?_eq_none (by rw [fr_len]; omega), List.getElem?_eq_none (by rw [fr_len]; omega)]
theorem bit_one {b : Bool} : (if b = true then (1 : Int) else 0) = 1 ↔ b = true := by cases b <;> simp
/-- those in a list -/
def dm (rs : List Int) : Nat → Bool := fun x => decide ((x : Int) ∈ rs)
theorem dm_iff {rs : List Int} {x : Nat} : dm rs x = true ↔ (x : Int) ∈ rs := decide_eq_true_iff
theorem dm_snoc (rs : List Int) (y : Nat) : dm (rs ++ [(y : Int)]) = on (dm rs) y := by
  funext x
  rw [Bool.eq_iff_iff, dm_iff]
  unfold on
  rw [Bool.or_eq_true, dm_iff, decide_eq_true_iff, List.mem_append, List.mem_singleton]
  constructor
  · rintro (h | h)
    · exact .inl h
    · exact .inr (by omega)
  · rintro (h | h)
    · exact .inl h
    · exact .inr (by omega)
theorem dm_tells {D : Nat → Bool} {n x : Nat} (h : x < n) : dm (tells D n) x = D x := by
  rw [Bool.eq_iff_iff, dm_iff, mem_tells]
  exact ⟨fun q => q.2, fun q => ⟨h, q⟩⟩
theorem unm_congr {n : Nat} {D D' : Nat → Bool} (h : ∀ x, x < n → D x = D' x) : unm n D = unm n D' := by
  unfold unm
  congr 1
  exact List.filter_congr fun x hx => by rw [h x (List.mem_range.mp hx)]
theorem tells_unm (D : Nat → Bool) (n : Nat) : (tells D n).length + unm n D = n := by
  induction n with
  | zero => rfl
  | succ n ih =>
    rw [unm_succ]
    cases e : D n
    · rw [tells_no e]
      show _ + (_ + 1) = _
      omega
    · rw [tells_yes e, List.length_append]
      show _ + 1 + (_ + 0) = _
      omega
theorem _root_.RM.Srch.mem {n : Nat} {R : Rel} {S A : List Int} {D : Nat → Bool} {ws us : List Int} {cur : Option (Nat × List Int)} (h : Srch n R S A D ws cur) (m : ∀ q, q ∈ us ↔ q ∈ ws) : Srch n R S A D us cur :=
  ⟨h.snd, h.st, fun z hz => h.wt z ((m z).mp hz), fun x hx d nw => h.cl x hx d fun q => nw ((m _).mpr q), h.cu⟩
theorem _root_.RM.Srch.shift {n : Nat} {R : Rel} {S A : List Int} {D : Nat → Bool} {ws : List Int} {z : Int} (h : Srch n R S A D (z :: ws) none) : ∃ x : Nat, z = (x : Int) ∧ x < n ∧ Srch n R S A D ws (some (x, [])) :=
  (h.mem (us := ws ++ [z]) fun q => by rw [List.mem_append, List.mem_singleton, List.mem_cons]; exact or_comm).pop
theorem _root_.RM.Srch.dcon {n : Nat} {R : Rel} {S A : List Int} {D D' : Nat → Bool} {ws : List Int} (h : Srch n R S A D ws none) (e : ∀ x, x < n → D x = D' x) : Srch n R S A D' ws none :=
  ⟨fun x hx d => h.snd x hx (by rw [e x hx]; exact d), fun x hx a b => by rw [← e x hx]; exact h.st x hx a b, fun z hz => by obtain ⟨x, a, b, c⟩ := h.wt z hz; exact ⟨x, a, b, by rw [← e x b]; exact c⟩,
    fun x hx d nw nc y hy r m => by rw [← e y hy]; exact h.cl x hx (by rw [e x hx]; exact d) nw nc y hy r m, fun _ z => nomatch z⟩
theorem tells_at {D : Nat → Bool} {n i : Nat} {z : Int} (h : (tells D n)[i]? = some z) : ∃ x : Nat, z = (x : Int) ∧ x < n ∧ D x = true := by
  have m := List.mem_of_getElem? h
  unfold tells at m
  obtain ⟨x, hx, e⟩ := List.mem_map.mp m
  obtain ⟨h1, h2⟩ := List.mem_filter.mp hx
  exact ⟨x, e.symm, List.mem_range.mp h1, h2⟩
theorem off_dm (F : Nat → Bool) (rs : List Int) (y : Nat) : off (fun x => F x && !dm rs x) y = fun x => F x && !dm (rs ++ [(y : Int)]) x := by
  funext x
  rw [dm_snoc]
  show ((F x && !dm rs x) && !decide (x = y)) = (F x && !(dm rs x || decide (x = y)))
  cases F x <;> cases dm rs x <;> cases decide (x = y) <;> rfl
theorem drop_snoc {α : Type} {l : List α} {k : Nat} (x : α) (h : k ≤ l.length) : (l ++ [x]).drop k = l.drop k ++ [x] := List.drop_append_of_le_length h
def spLawReach : Sp := fun vs H Q _ => ∃ (t s l : Addr) (n : Nat) (M ss ws : List Int) (R : Rel), vs = [.int (n : Int), .ref t, .ref s, .ref l] ∧ n ≤ 24 ∧ H t = some (.lst (M.map V.int)) ∧ IsTab n M R ∧ H s = some (.lst (ss.map V.int)) ∧ H l = some (.lst (ws.map V.int)) ∧
  ∀ (p : Addr) (H' : Hp), H p = none → Same H H' → H' p = some (.lst ((rchL n R ss ws).map V.int)) → Q (.ref p) H'
abbrev sLawReach : Stmt := top 40
theorem scLawReach : FnScope ["count", "table", "starts", "allowed", "x", "free", "row", "k", "y"] ["count", "table", "starts", "allowed"] (defScope sLawReach) := ⟨rfl, rfl, rfl, by decide +kernel, rfl, by decide +kernel, by decide +kernel⟩
theorem ok_LawReach (D : Df K mg "_law_reach" sLawReach ["count", "table", "starts", "allowed"]) (T : Txt K mg) : C8.Cal P w K mg base 1 "_law_reach" spLawReach [] := by
  obtain ⟨f, fd, F, hm, hb⟩ := D
  refine ⟨f, fd, ["count", "table", "starts", "allowed"], [], F.ok scLawReach (fun vs H Q E h => ?_) (fun cdv A outer s H vs Q E hr h => ?_), hm, F.kp, hb, .nil⟩
  · obtain ⟨t, s0, l, n, M, ss, ws, R, rfl, n2, ht, tb, hs, hl, k⟩ := h
    rfl
  · obtain ⟨t, s0, l, n, M, ss, ws, R, rfl, n2, ht, tb, hs, hl, k⟩ := h
    refine ⟨_, (pss_cons (ps_set (i := 5) scLawReach.nd rfl (Or.inr rfl) (pe_lc (own := [("x", 4)]) (g := gName 4) (tt := tYes) rfl scLawReach.nd (pi_range1 rfl T.range (pa_cons (pv 0) pa_nil)) (blkOk_by (N := ["count", "table", "starts", "allowed", "x", "free", "row", "k", "y"]) (sc := defScope sLawReach) (by decide +kernel)) (fun _ _ _ _ _ => (pg_name (i := 4) scLawReach.nd rfl (Or.inl rfl))) (fun _ _ _ _ _ => pts_nil) (fun _ _ _ _ _ => (pe_callTy call_int1 (by rfl) T.int (by decide +kernel) (pa_cons (pe_cmpR op_inI (pv 4) (pv 3) (by rfl)) pa_nil)))))
      (pss_cons (ps_set (i := 6) scLawReach.nd rfl (Or.inr rfl) (pe_lc (own := [("x", 4)]) (g := gName 4) rfl scLawReach.nd (pi_range1 rfl T.range (pa_cons (pv 0) pa_nil)) (blkOk_by (N := ["count", "table", "starts", "allowed", "x", "free", "row", "k", "y"]) (sc := defScope sLawReach) (by decide +kernel)) (fun _ _ _ _ _ => (pg_name (i := 4) scLawReach.nd rfl (Or.inl rfl))) (fun _ _ _ _ _ => (pts_one (PW.pt (pw_and (pt_cmpR op_inI (pv 4) (pv 2) (by rfl)) (pw_and1 (pt_cmpR op_eq (pe_ix ix_I (pv 5) (pv 4) (fun _ _ => rfl)) pe_int (nomark _))))))) (fun _ _ _ _ _ => (pv 4))))
      (pss_cons (ps_for PassesOwn.never rfl (pi_list (pv 6)) (pg_name (i := 4) scLawReach.nd rfl (Or.inl rfl))
        (pss_one (ps_asg pe_int (pg_sub (pv 5) (pv 4) set_I))))
      (pss_cons (ps_for PassesOwn.never rfl (pi_range1 rfl T.range (pa_cons (pv 0) pa_nil)) (pg_name (i := 7) scLawReach.nd rfl (Or.inl rfl))
        (pss_one (ps_if (pt_cmpR op_lt (pv 7) (pe_callB call_lenI (by rfl) T.len (by decide +kernel) (pa_cons (pv 6) pa_nil)) (nomark _))
          (pss_one (ps_for PassesOwn.never rfl (pi_range1 rfl T.range (pa_cons (pv 0) pa_nil)) (pg_name (i := 8) scLawReach.nd rfl (Or.inl rfl))
            (pss_one (ps_if (PW.pt (pw_and (pt_cmpR op_eq (pe_ix ix_I (pv 5) (pv 8) (fun _ _ => rfl)) pe_int (nomark _)) (pw_and1 (pt_cmpR op_eq (pe_ix ix_I (pv 1) (pe_op op_add (pe_op op_mul (pe_ix ix_I (pv 6) (pv 7) (fun _ _ => rfl)) (pv 0)) (pv 8)) (fun _ _ => rfl)) pe_int (nomark _)))))
              (pss_cons (ps_asg pe_int (pg_sub (pv 5) (pv 8) set_I))
              (pss_one (ps_expr (pe_bm PySem.F.plainAttrs_list PySem.F.slot_list_append PySem.F.type_list_append mt_appendI (pv 6) (pa_cons (pv 8) pa_nil)))))
              pss_nil))))
          pss_nil)))
      (pss_one (ps_ret (pe_lc (own := [("x", 4)]) (g := gName 4) rfl scLawReach.nd (pi_range1 rfl T.range (pa_cons (pv 0) pa_nil)) (blkOk_by (N := ["count", "table", "starts", "allowed", "x", "free", "row", "k", "y"]) (sc := defScope sLawReach) (by decide +kernel)) (fun _ _ _ _ _ => (pg_name (i := 4) scLawReach.nd rfl (Or.inl rfl))) (fun _ _ _ _ _ => (pts_one (pt_cmpR op_inI (pv 4) (pv 6) (by rfl)))) (fun _ _ _ _ _ => (pv 4))))))))), ?_⟩
    -- free = [int(x in allowed) for x in range(count)]
    refine ⟨_, rfl, _, rfl, (by fail "om"), (by fail "om"), fun D1 nD1 => lc_range (lo := 0) (n := ((n : Int)).toNat) (fun i H' => Same H H' ∧ H' D1 = some (.lst ((fr i (dm ws)).map V.int))) ⟨Same.new (Same.refl _) nD1, upd_same⟩ (fun i H' hi z => by
      obtain ⟨sm, hD⟩ := z
      have hin : i < n := by omega
      refine ⟨rfl, ?_⟩
      unfold tYes
      refine iteT ?_
      refine ⟨_, rfl, _, rfl, _, _, _, rfl, rfl, sm _ _ hl, .inr ⟨_, rfl, ?_⟩⟩
      refine ⟨_, hD, Evl.sz_lt (by rw [List.length_map, fr_len]; omega), Same.mut sm nD1, ?_⟩
      rw [upd_same, fr_snoc, List.map_append, Int.zero_add]
      rfl) (fun H1 z => ?_)⟩
    obtain ⟨sm1, h11⟩ := z
    rw [Int.toNat_natCast] at h11
    -- row = [x for x in range(count) if x in starts and free[x] == 1]
    refine ⟨_, rfl, _, rfl, (by fail "om"), (by fail "om"), fun D2 nD2 => lc_range (lo := 0) (n := ((n : Int)).toNat) (fun i H' => Same H1 H' ∧ H' D2 = some (.lst ((tells (fun (x : Nat) => dm ws x && dm ss x) i).map V.int))) ⟨Same.new (Same.refl _) nD2, upd_same⟩ (fun i H' hi z => by
      obtain ⟨sm, hD⟩ := z
      have hin : i < n := by omega
      refine ⟨rfl, ?_⟩
      refine ⟨_, rfl, _, rfl, _, _, _, rfl, rfl, sm _ _ (sm1 _ _ hs), _, rfl, ?_⟩
      have lt := tells_len (fun (x : Nat) => dm ws x && dm ss x) i
      have ixi := fr_ix (dm ws) hin
      rw [Int.zero_add]
      refine ifB (fun g => ?_) fun g => ?_
      · refine ⟨_, rfl, _, rfl, _, _, _, _, rfl, rfl, sm _ _ h11, ixi, rfl, _, rfl, ?_⟩
        refine ifEqI (fun g2 => ?_) fun g2 => ?_
        · have e : (fun (x : Nat) => dm ws x && dm ss x) i = true := by show (dm ws i && dm ss i) = true; rw [bit_one.mp g2, show dm ss i = true from g]; rfl
          refine ⟨_, rfl, _, hD, Evl.sz_lt (by rw [List.length_map]; omega), Same.mut sm nD2, ?_⟩
          rw [upd_same, tells_yes e, List.map_append]
          rfl
        · have e : (fun (x : Nat) => dm ws x && dm ss x) i = false := by
            show (dm ws i && dm ss i) = false
            cases q : dm ws i
            · rfl
            · exact absurd (bit_one.mpr q) g2
          exact ⟨sm, by rw [tells_no e]; exact hD⟩
      · have e : (fun (x : Nat) => dm ws x && dm ss x) i = false := by show (dm ws i && dm ss i) = false; rw [show dm ss i = false from g, Bool.and_false]
        refine iteKF rfl ?_
        exact ⟨sm, by rw [tells_no e]; exact hD⟩) (fun H2 z => ?_)⟩
    obtain ⟨sm2a, h22⟩ := z
    rw [Int.toNat_natCast] at h22
    have sm2 := sm1.trans sm2a
    have h21 := sm2a _ _ h11
    have nD2h : H D2 = none := free_back nD2 sm1
    have n12 : D1 ≠ D2 := ne_of_none h11 nD2
    have sr0 : Srch n R ss ws (fun (x : Nat) => dm ws x && dm ss x) (tells (fun (x : Nat) => dm ws x && dm ss x) n) none := Srch.init fun _ => rfl
    have sr1 := sr0.dcon (D' := dm (tells (fun (x : Nat) => dm ws x && dm ss x) n)) fun x hx => (dm_tells (D := (fun (x : Nat) => dm ws x && dm ss x)) hx).symm
    have um0 := tells_unm (fun (x : Nat) => dm ws x && dm ss x) n
    have um1 : (tells (fun (x : Nat) => dm ws x && dm ss x) n).length + unm n (dm (tells (fun (x : Nat) => dm ws x && dm ss x) n)) = n := by rw [unm_congr (D' := (fun (x : Nat) => dm ws x && dm ss x)) fun x hx => dm_tells hx]; exact um0
    -- for x in row:
    refine ⟨_, rfl, _, rfl, ⟨_, SqL.of (by fail "hp")⟩, for_list (K := K) (a := D2) (xs := (tells (fun (x : Nat) => dm ws x && dm ss x) n).map V.int) (fun i σ Hk => ∃ v : Option V, σ = [some (.int (n : Int)), some (.ref t), some (.ref s0), some (.ref l), v, some (.ref D1), some (.ref D2), none, none] ∧ Same H Hk ∧ Hk D1 = some (.lst ((fr n fun x => dm ws x && !dm ((tells (fun (x : Nat) => dm ws x && dm ss x) n).take i) x).map V.int)) ∧ Hk D2 = some (.lst ((tells (fun (x : Nat) => dm ws x && dm ss x) n).map V.int))) ⟨_, rfl, sm2, by rw [h21]; congr 3; exact fr_congr fun x _ => by show dm ws x = (dm ws x && !decide ((x : Int) ∈ ([] : List Int))); rw [decide_eq_false List.not_mem_nil, Bool.not_false, Bool.and_true], h22⟩ (fun i σ Hk _ z => by obtain ⟨_, _, _, _, h⟩ := z; exact SqL.of h) ?_ ?_⟩
    · rintro i x0 σ Hk hx0 ⟨v, rfl, smk, hk1, hk2⟩
      obtain ⟨z, ez, rfl⟩ := item_of hx0
      obtain ⟨x, rfl, hx, _⟩ := tells_at ez
      have ixs : ixN (fr n fun x => dm ws x && !dm ((tells (fun (x : Nat) => dm ws x && dm ss x) n).take i) x).length (x : Int) = some x := by rw [fr_len]; exact ixN_nat hx
      -- free[x] = 0
      refine ⟨_, rfl, _, rfl, _, _, _, _, _, rfl, rfl, rfl, (by fail "hp"), (by fail "ixn"), ?_⟩
      refine ⟨_, rfl, Same.mut smk nD1, ?_, by rw [upd_ne n12.symm]; exact hk2⟩
      rw [upd_same, fr_set _ hx, off_dm, take_at ez]
    · rintro σ Hk ⟨v, rfl, smk, hk1, hk2⟩
      rw [List.length_map, List.take_length] at hk1
      -- for k in range(count):
      refine ⟨_, rfl, _, rfl, (by fail "om"), (by fail "om"), for_range (fun i σ Hk => ∃ (v u2 u3 : Option V) (rs : List Int), σ = [some (.int (n : Int)), some (.ref t), some (.ref s0), some (.ref l), v, some (.ref D1), some (.ref D2), u2, u3] ∧ Same H Hk ∧ Hk D1 = some (.lst ((fr n fun x => dm ws x && !dm rs x).map V.int)) ∧ Hk D2 = some (.lst (rs.map V.int)) ∧ rs.length + unm n (dm rs) = n ∧ Srch n R ss ws (dm rs) (rs.drop i) none) ⟨_, _, _, _, rfl, smk, hk1, hk2, um1, sr1⟩ ?_ ?_⟩
      · rintro i σ Hk hi ⟨v, u2, u3, rs, rfl, smk, hk1, hk2, um, sr⟩
        -- if k < len(row):
        refine ⟨_, rfl, _, rfl, _, _, rfl, (by fail "hp"), _, _, rfl, rfl, _, rfl, ?_⟩
        refine ifD (fun g1 => ?_) (fun g1 => ?_)
        · have li : i < rs.length := by omega
          obtain ⟨x, ex, hx, sr2⟩ : ∃ x : Nat, rs[i]? = some (x : Int) ∧ x < n ∧ Srch n R ss ws (dm rs) (rs.drop (i + 1)) (some (x, rowI R x 0)) := by
            rw [List.drop_eq_getElem_cons li] at sr
            obtain ⟨x, e, hx, sr2⟩ := sr.shift
            exact ⟨x, by rw [List.getElem?_eq_getElem li, e], hx, sr2⟩
          -- for y in range(count):
          refine ⟨_, rfl, _, rfl, (by fail "om"), (by fail "om"), for_range (fun j σ Hk => ∃ (v u3 : Option V) (rs : List Int), σ = [some (.int (n : Int)), some (.ref t), some (.ref s0), some (.ref l), v, some (.ref D1), some (.ref D2), some (.int (0 + (i : Int))), u3] ∧ Same H Hk ∧ Hk D1 = some (.lst ((fr n fun x => dm ws x && !dm rs x).map V.int)) ∧ Hk D2 = some (.lst (rs.map V.int)) ∧ rs.length + unm n (dm rs) = n ∧ i < rs.length ∧ rs[i]? = some (x : Int) ∧ Srch n R ss ws (dm rs) (rs.drop (i + 1)) (some (x, rowI R x j))) ⟨_, _, rs, rfl, smk, hk1, hk2, um, li, ex, sr2⟩ ?_ ?_⟩
          · rintro y σ Hk2 hy ⟨v2, u4, rt, rfl, smj, hj1, hj2, umj, lj, exj, srj⟩
            have hyn : y < n := by omega
            have ixf := fr_ix (fun x => dm ws x && !dm rt x) hyn
            have ixr : atI (rt.map V.int) (0 + (i : Int)) = some (V.int (x : Int)) := at_int exj (by omega)
            have ixt := tab_bit tb hx hyn
            have ixs : ixN (fr n fun x => dm ws x && !dm rt x).length (0 + (y : Int)) = some y := by rw [fr_len, Int.zero_add]; exact ixN_nat hyn
            have htj := smj _ _ ht
            have rl : rt.length ≤ n := by omega
            rw [← Int.zero_add (y : Int)] at ixf ixt
            -- if free[y] == 1 and table[row[k] * count + y] == 1:
            refine ⟨_, rfl, _, rfl, _, _, _, _, rfl, rfl, (by fail "hp"), (by fail "ix"), rfl, _, rfl, ?_⟩
            refine ifEqI (fun g2 => ?_) (fun g2 => ?_)
            · refine ⟨_, rfl, _, rfl, _, rfl, _, _, _, _, rfl, rfl, (by fail "hp"), (by fail "ix"), _, rfl, _, _, rfl, rfl, (by fail "mul"), _, rfl, _, _, rfl, rfl, _, _, _, _, rfl, rfl, (by fail "hp"), (by fail "ix"), rfl, _, rfl, ?_⟩
              refine ifEqI (fun g3 => ?_) (fun g3 => ?_)
              · -- free[y] = 0
                refine ⟨_, rfl, _, rfl, _, _, _, _, _, rfl, rfl, rfl, (by fail "hp"), (by fail "ixn"), ?_⟩
                -- row.append(y)
                refine ⟨_, rfl, .inl ⟨rfl, _, SqL.of (by fail "hp")⟩, _, rfl, _, _, _, rfl, rfl, (by fail "hp"), (by fail "szl"), ?_⟩
                have g2' := bit_one.mp g2
                rw [Bool.and_eq_true, Bool.not_eq_true'] at g2'
                have ry := bit_one.mp g3
                have um2 := unm_on hyn g2'.2
                refine ⟨_, _, rt ++ [(y : Int)], rfl, Same.mut (Same.mut smj nD1) nD2h, ?_, by rw [upd_same, Int.zero_add], ?_, by rw [List.length_append]; omega, by rw [List.getElem?_append_left lj]; exact exj, ?_⟩
                · rw [upd_ne n12, upd_same, fr_set _ hyn, off_dm]
                · rw [dm_snoc, List.length_append]
                  show _ + 1 + _ = _
                  omega
                · rw [drop_snoc _ (by omega), dm_snoc, rowI_yes ry]
                  exact srj.mark hyn ry (dm_iff.mp g2'.1)
              · refine ⟨_, _, rt, rfl, smj, hj1, hj2, umj, lj, exj, ?_⟩
                rw [rowI_no (Bool.eq_false_iff.mpr fun q => g3 (bit_one.mpr q))]
                exact srj
            · fail "ite"
              refine ⟨_, _, rt, rfl, smj, hj1, hj2, umj, lj, exj, ?_⟩
              cases q : R x y
              · rw [rowI_no q]
                exact srj
              · rw [rowI_yes q]
                refine srj.pass fun m => ?_
                cases e : dm rt y
                · exact absurd (bit_one.mpr (by show (dm ws y && !dm rt y) = true; rw [e, dm_iff.mpr m]; rfl)) g2
                · rfl
          · rintro σ Hk2 ⟨v2, u4, rt, rfl, smj, hj1, hj2, umj, lj, exj, srj⟩
            exact ⟨_, _, _, rt, rfl, smj, hj1, hj2, umj, srj.end fun y hy r => to_rowI (by omega) r⟩
        · refine ⟨_, _, _, rs, rfl, smk, hk1, hk2, um, ?_⟩
          rw [List.drop_of_length_le (by omega)]
          rw [List.drop_of_length_le (by omega)] at sr
          exact sr
      · rintro σ Hk ⟨v, u2, u3, rs, rfl, smk, hk1, hk2, um, sr⟩
        rw [Int.toNat_natCast, List.drop_of_length_le (by omega)] at sr
        have hp := sr.done
        -- return [x for x in range(count) if x in row]
        refine ⟨_, rfl, _, rfl, (by fail "om"), (by fail "om"), fun D3 nD3 => lc_range (lo := 0) (n := ((n : Int)).toNat) (fun i H' => Same Hk H' ∧ H' D3 = some (.lst ((tells (dm rs) i).map V.int))) ⟨Same.new (Same.refl _) nD3, upd_same⟩ (fun i H' hi z => by
      obtain ⟨sm, hD⟩ := z
      have hin : i < n := by omega
      refine ⟨rfl, ?_⟩
      have lt := tells_len (dm rs) i
      refine ⟨_, rfl, _, rfl, _, _, _, rfl, rfl, sm _ _ hk2, _, rfl, ?_⟩
      rw [Int.zero_add]
      refine ifB (fun g => ?_) fun g => ?_
      · refine ⟨_, rfl, _, hD, Evl.sz_lt (by rw [List.length_map]; omega), Same.mut sm nD3, ?_⟩
        rw [upd_same, tells_yes (D := dm rs) g, List.map_append]
        rfl
      · exact ⟨sm, by rw [tells_no (D := dm rs) g]; exact hD⟩) (fun H5 z => ?_)⟩
        obtain ⟨smE, hE⟩ := z
        rw [Int.toNat_natCast, tells_congr hp, ← rchL_tells] at hE
        exact k _ _ (free_back nD3 smk) (smk.trans smE) hE

end
end K01

end
section
set_option Elab.async false
set_option linter.all false
set_option maxRecDepth 100000
set_option maxHeartbeats 4000000
namespace K01
open PySem L2 Kit KR KX KI RM
local macro_rules | `(tactic| fail "om") => `(tactic| first | omega | (simp only [List.length_map, List.length_append, List.length_cons, List.length_nil]; omega) | (simp only [List.length_map, List.length_append, List.length_cons, List.length_nil] at *; omega) | assumption | decide | (simp only [List.length_take, List.length_drop]; omega) | (rw [every_len]; omega) | fail "no om")
local macro_rules | `(tactic| fail "nz") => `(tactic| first | decide | omega | fail "no nz")
local macro_rules | `(tactic| fail "dv") => `(tactic| exact ⟨by first | decide | omega, by first | decide | omega⟩)
local macro_rules | `(tactic| fail "mul") => `(tactic| first | exact .inr ⟨by decide, by decide⟩ | exact .inl ⟨by decide, by decide⟩ | exact mulF (by decide) (by decide) | exact .inl ⟨by omega, by omega⟩ | exact .inr ⟨by omega, by omega⟩ | fail "no mul")
local macro_rules | `(tactic| fail "sz") => `(tactic| first | assumption | exact Nat.zero_le _ | (show 1 ≤ sizeLine; decide) | (show 2 ≤ sizeLine; decide) | (show 3 ≤ sizeLine; decide) | (show 4 ≤ sizeLine; decide) | (show 5 ≤ sizeLine; decide) | exact Evl.sz_of (by omega) | (refine Evl.sz_of ?_; simp only [List.length_append, List.length_map, List.length_cons, List.length_nil]; omega) | (refine Evl.sz_of ?_; simp only [List.length_append, List.length_map, List.length_cons, List.length_nil, List.length_take, List.length_drop]; omega) | fail "no sz")
local macro_rules | `(tactic| fail "szl") => `(tactic| first | exact Evl.sz_lt (by omega) | (refine Evl.sz_lt ?_; simp only [List.length_append, List.length_map, List.length_cons, List.length_nil]; omega) | fail "no szl")
local macro_rules | `(tactic| fail "ix") => `(tactic| first | assumption | exact ix0 | exact ix1 | exact ix2 | exact at_ref (by assumption) (by omega) | exact at_int (by assumption) (by omega) | exact at_drawn (by assumption) (by assumption) | exact at_lit (by first | assumption | omega) (by fail "om") | rfl | fail "no ix")
local macro_rules | `(tactic| fail "ixn") => `(tactic| first | rfl | assumption | fail "no ixn")
local macro_rules | `(tactic| fail "nb") => `(tactic| first | assumption | exact nb_tup | exact nb_nil | exact nb_ints | exact nb_refs | exact nb_ins | exact nb_dT | exact nb_frz | fail "no nb")
local macro_rules | `(tactic| fail "ne") => `(tactic| first | assumption | exact Ne.symm (by assumption) | exact ne_of_none (by assumption) (by assumption) | exact (ne_of_none (by assumption) (by assumption)).symm | exact ne_of (by assumption) (by assumption) (by intro q; cases q) | exact ne_of (by assumption) (by assumption) (by simp) | fail "no ne")
local macro_rules | `(tactic| fail "hp") => `(tactic| first | assumption | exact upd_same | exact lit0 | exact lit1 | exact lit3 | exact lit2 | (refine' Tk.get (by assumption) ?k1; (case k1 => fail "tk")) | (with_reducible refine' upd_new ?h1 ?n1; (case n1 => assumption); (case h1 => fail "hp")) | (refine' Same.get (by assumption) ?h1; (case h1 => fail "hp")) | (refine' Kp.get (by assumption) (by fail "bx") ?h1 ?d1; (case h1 => fail "hp"); (case d1 => fail "nb")) | (with_reducible refine' upd_oth ?h1 ?n1; (case n1 => fail "ne"); (case h1 => fail "hp")) | (with_reducible refine' upd_oth ?h1 ?n1; (case h1 => fail "hp"); (case n1 => fail "ne")) | (refine' Kq.get (by assumption) (by fail "bx") ?h1 ?d1 (by fail "ne"); (case h1 => fail "hp"); (case d1 => fail "nb")) | fail "no hp")
local macro_rules | `(tactic| fail "bx") => `(tactic| first | assumption | (with_reducible refine' BoxOk.new ?h1 ?n1; (case n1 => assumption); (case h1 => fail "bx")) | (refine' BoxOk.same (by assumption) ?h1; (case h1 => fail "bx")) | (with_reducible refine' BoxOk.mut ?h1 ?h2 ?n1; (case n1 => assumption); (case h2 => assumption); (case h1 => fail "bx")) | fail "no bx")
local macro_rules | `(tactic| fail "kp") => `(tactic| first | assumption | exact Kp.refl | (with_reducible refine' Kp.at ?h1; (case h1 => fail "kp")) | (with_reducible refine' Kp.new ?h1 ?n1; (case n1 => assumption); (case h1 => fail "kp")) | (with_reducible refine' Kp.mut ?h1 ?n1; (case n1 => assumption); (case h1 => fail "kp")) | (refine' Kp.tr (by assumption) ?h1; (case h1 => fail "kp")) | (refine' Kp.tr (Kp.of (by assumption)) ?h1; (case h1 => fail "kp")) | (refine' Kq.kp (by assumption) ?h1 (by assumption); (case h1 => fail "kp")) | fail "no kp")
local macro_rules | `(tactic| fail "ite") => `(tactic| first | refine iteT ?_ | refine iteF ?_)
local macro_rules | `(tactic| fail "tt") => `(tactic| first | rfl | exact decide_eq_true (by first | rfl | omega | assumption) | exact decide_eq_true (congrArg V.int (by first | rfl | omega)) | fail "no tt")
local macro_rules | `(tactic| fail "cv") => `(tactic| first | exact .ty _ | exact .own _)
local macro_rules | `(tactic| fail "tx") => `(tactic| first | exact .base (.int _) | exact .base (.bl _) | exact .base .non | exact .base (.lst (by fail "hp")) | exact .base (.tup (by fail "hp")) | fail "no tx")
local macro_rules | `(tactic| fail "dead") => `(tactic| (exfalso; first | omega | contradiction | simp_all))
local macro_rules | `(tactic| fail "dp") => `(tactic| first | exact .tup (SqT.of (by fail "hp")) (.cons (.int _) (.cons (.int _) .nil)) | exact .lst (SqL.of (by fail "hp")) (dpPrs (by fail "pr")) | exact .lst (SqL.of (by fail "hp")) (dpInts _) | exact .lst (SqL.of (by fail "hp")) .nil | fail "no dp")
local macro_rules | `(tactic| fail "shp") => `(tactic| first | assumption | exact prD_shaped _ | exact PySem.W.ke_shaped_ints _ | rfl | fail "no shp")
local macro_rules | `(tactic| fail "pr") => `(tactic| first | assumption | exact PrT.mono (by assumption) (by fail "tk") | fail "no pr")
local macro_rules | `(tactic| fail "tk") => `(tactic| first | assumption | exact Tk.refl | (with_reducible refine' Tk.new ?h1 ?n1; (case n1 => assumption); (case h1 => fail "tk")) | (refine' Tk.tr (Kp.tk (by assumption) (by fail "bx")) ?h1; (case h1 => fail "tk")) | (refine' Tk.tr (Same.tk (by assumption)) ?h1; (case h1 => fail "tk")) | (with_reducible refine' Tk.lst ?h1 ?n1; (case n1 => fail "hp"); (case h1 => fail "tk")) | fail "no tk")
local macro_rules | `(tactic| fail "lk") => `(tactic| first | exact netF_count _ _ | exact netF_links _ _ | exact netF_no _ _ (by decide +kernel) (by decide +kernel) | fail "no lk")
local macro_rules | `(tactic| fail "kt") => `(tactic| first | exact upd_same | assumption | fail "hp")
local macro_rules | `(tactic| fail "na") => `(tactic| first | assumption | (with_reducible refine' NetAt.new ?h1 ?n1; (case n1 => assumption); (case h1 => fail "na")) | (refine' NetAt.same (by assumption) ?h1; (case h1 => fail "na")) | (refine' NetAt.kp (by assumption) (by fail "bx") ?h1; (case h1 => fail "na")) | (with_reducible refine' NetAt.lst ?h1 ?n1; (case n1 => fail "hp"); (case h1 => fail "na")) | fail "no na")
local macro_rules | `(tactic| fail "mono") => `(tactic| first | exact fun _ _ _ _ h q => h _ _ q | exact fun _ _ _ _ h q => (let ⟨v, e, z⟩ := q; ⟨v, e, h _ _ z⟩) | exact fun _ _ _ _ h q => (let ⟨v, e, u, f, z⟩ := q; ⟨v, e, u, f, h _ _ z⟩) | fail "no mono")
local macro_rules | `(tactic| fail "sm") => `(tactic| first | assumption | exact Same.refl _ | (with_reducible refine' Same.new ?h1 ?n1; (case n1 => assumption); (case h1 => fail "sm")) | (refine' Same.tr (by assumption) ?h1; (case h1 => fail "sm")) | fail "no sm")
local macro_rules | `(tactic| fail "fld") => `(tactic| first | (show 0 < 1000; decide) | (show 1 < 1000; decide) | fail "no fld")
local macro_rules | `(tactic| fail "kq") => `(tactic| first | assumption | exact Kq.refl | (with_reducible refine' Kq.at ?h1; (case h1 => fail "kq")) | (with_reducible refine' Kq.new ?h1 ?n1; (case n1 => assumption); (case h1 => fail "kq")) | (refine' Kq.trans ?h1 (by assumption); (case h1 => fail "kq")) | (refine' Kq.trans ?h1 (Kq.of (by assumption)); (case h1 => fail "kq")) | (refine' Kq.trans ?h1 (Kq.ofS (by assumption)); (case h1 => fail "kq")) | fail "no kq")
local macro_rules | `(tactic| fail "mo") => `(tactic| first | assumption | exact MemOk.take (by assumption) _ | exact MemOk.drop (by assumption) _ | exact every_ok _ | fail "no mo")

local macro_rules | `(tactic| fail "nt") => `(tactic| first | assumption | fail "no nt")
local macro_rules | `(tactic| fail "tg") => `(tactic| first | assumption | fail "no tg")
section
variable {P : Program} {w : World} {K : PySem.W.Frag} {mg : Str → Option Value} {base : Heap} {CN Pt : Addr} {mc mu : Value}

theorem two_bl {a b : Bool} {p : Prop} (h1 : a = true ↔ p) (h2 : b = true ↔ p) : [V.bl a, V.bl b] = [V.bl a, V.bl a] := by
  rw [show b = a from Bool.eq_iff_iff.mpr (h2.trans h1.symm)]
theorem bit_nz {b : Bool} (h : (if b = true then (1 : Int) else 0) ≠ 0) : b = true := by
  cases b
  · exact absurd rfl h
  · rfl
def Upto (n i j : Nat) (F : Nat → Nat → Prop) : Prop := ∀ x y, y < n → (x < i ∨ (x = i ∧ y < j)) → F x y
theorem Upto.zero {n : Nat} {F : Nat → Nat → Prop} : Upto n 0 0 F := fun x y _ h => by omega
theorem Upto.step {n i j : Nat} {F : Nat → Nat → Prop} (hj : j < n) : Upto n i (j + 1) F ↔ Upto n i j F ∧ F i j := by
  constructor
  · intro h
    exact ⟨fun x y hy q => h x y hy (by omega), h i j hj (by omega)⟩
  · rintro ⟨h, f⟩ x y hy q
    by_cases e : x = i ∧ y = j
    · rw [e.1, e.2]
      exact f
    · exact h x y hy (by omega)
theorem Upto.row {n i : Nat} {F : Nat → Nat → Prop} : Upto n (i + 1) 0 F ↔ Upto n i n F := ⟨fun h x y hy q => h x y hy (by omega), fun h x y hy q => h x y hy (by omega)⟩
theorem Upto.all {n : Nat} {F : Nat → Nat → Prop} : Upto n n 0 F ↔ ∀ x y, x < n → y < n → F x y := ⟨fun h x y hx hy => h x y hy (by omega), fun h x y hy q => h x y (by omega) hy⟩
theorem Upto.yes {n i j : Nat} {F : Nat → Nat → Prop} {b : Bool} (h : b = true ↔ Upto n i j F) (f : F i j) (hj : j < n) : b = true ↔ Upto n i (j + 1) F := by
  rw [Upto.step hj, h]
  exact ⟨fun q => ⟨q, f⟩, fun q => q.1⟩
theorem Upto.no {n i j : Nat} {F : Nat → Nat → Prop} (f : ¬ F i j) (hj : j < n) : false = true ↔ Upto n i (j + 1) F := by
  rw [Upto.step hj]
  exact ⟨fun q => (nomatch q), fun q => absurd q.2 f⟩
theorem Upto.yes2 {n i j : Nat} {F : Nat → Nat → Prop} {b : Bool} {p : Prop} (h : b = true ↔ p ∧ Upto n i j F) (f : F i j) (hj : j < n) : b = true ↔ p ∧ Upto n i (j + 1) F := by
  rw [Upto.step hj, h]
  exact ⟨fun q => ⟨q.1, q.2, f⟩, fun q => ⟨q.1, q.2.1⟩⟩
theorem Upto.no2 {n i j : Nat} {F : Nat → Nat → Prop} {p : Prop} (f : ¬ F i j) (hj : j < n) : false = true ↔ p ∧ Upto n i (j + 1) F := by
  rw [Upto.step hj]
  exact ⟨fun q => (nomatch q), fun q => absurd q.2.2 f⟩
theorem bit_bl {b : Bool} : decide (V.int (if b = true then (1 : Int) else 0) = V.int 1) = b := by cases b <;> rfl
theorem bit_zero {b : Bool} : (if b = true then (1 : Int) else 0) = 0 ↔ b = false := by cases b <;> simp
theorem ring_tv {n i j : Nat} (h1 : 1 < n) (hi : i < n) : decide (V.int (0 + (j : Int)) = V.int ((0 + (i : Int) + 1).fmod (n : Int))) = ringR n i j := by
  rw [ring_int]
  obtain ⟨q1, q2⟩ := ring_step h1 hi
  unfold ringR
  refine decide_eq_decide.mpr ⟨fun e => ?_, fun e => ?_⟩
  · have := V.int.inj e
    omega
  · rw [e.2, Int.zero_add]
theorem ring_f {n i j : Nat} (h1 : ¬ 1 < n) (hi : i < n) (hj : j < n) : ringR n i j = false := decide_eq_false fun z => z.1 (by omega)
theorem sum_row {n : Nat} {M : List Int} {R : Rel} (t : IsTab n M R) {i : Nat} (hi : i < n) : ∀ j, j ≤ n → (M.take (i * n + j)).sum = (M.take (i * n)).sum + ((rowT R i j).length : Nat)
  | 0, _ => by
    have : (rowT R i 0).length = 0 := by have := rowT_len R i 0; omega
    rw [this, Nat.add_zero]
    exact (Int.add_zero _).symm
  | j + 1, h => by
    have ih := sum_row t hi j (by omega)
    have e := take_at (t.get i j hi (by omega))
    rw [← Nat.add_assoc, e, List.sum_append, ih]
    cases q : R i j
    · rw [rowT_no q]
      show _ + (0 : Int) = _
      omega
    · rw [rowT_yes q, List.length_append]
      show _ + (1 : Int) = _ + ((_ + 1 : Nat) : Int)
      omega
theorem sum_to {n : Nat} {M : List Int} {R : Rel} (t : IsTab n M R) : ∀ i, i ≤ n → (M.take (i * n)).sum = ((tiesTo n R i).length : Nat)
  | 0, _ => by rw [Nat.zero_mul, List.take_zero]; rfl
  | i + 1, h => by
    rw [Nat.add_mul, Nat.one_mul, sum_row t (by omega) n (Nat.le_refl n), sum_to t i (by omega), tiesTo_succ, List.length_append]
    omega
theorem sum_tab {n : Nat} {M : List Int} {R : Rel} (t : IsTab n M R) : M.sum = ((ties n R).length : Nat) := by
  have h := sum_to t n (Nat.le_refl n)
  rw [List.take_of_length_le (by rw [t.len]; omega)] at h
  exact h
def F1 (R : Rel) (x y : Nat) : Prop := R x y = true → R y x = true
def F3 (n : Nat) (R : Rel) (x y : Nat) : Prop := R x y = ringR n x y
def F4 (n : Nat) (R : Rel) (x y : Nat) : Prop := R x y = wholeR n x y
def FS (n : Nat) (R : Rel) (x : Nat) : Prop := ∀ y, y < n → Rch n R [(x : Int)] (every n) y
def spKindsAre (CN Pt : Addr) : Sp := fun vs H Q _ => ∃ (a t : Addr) (n : Nat) (M : List Int) (R : Rel), vs = [.ref a, .int (n : Int), .ref t] ∧ NetAt CN H a n R ∧ H t = some (.lst (M.map V.int)) ∧ IsTab n M R ∧ GxR.TabG H Pt ∧
  ∀ H', Sp1 Pt H H' → GxR.TabG H' Pt → Q (.bl true) H'
abbrev sKindsAre : Stmt := top 41
theorem scKindsAre : FnScope ["net", "count", "table", "everyone", "two_way", "strong", "cycle", "dense", "x", "y", "there", "tree", "k"] ["net", "count", "table"] (defScope sKindsAre) := ⟨rfl, rfl, rfl, by decide +kernel, rfl, by decide +kernel, by decide +kernel⟩
theorem ok_KindsAre (D : Df K mg "_law_kinds_are" sKindsAre ["net", "count", "table"]) (T : NTx K mg CN mc mu) (GLawReach : C8.Cal P w K mg base 1 "_law_reach" spLawReach []) (GTruth : C8.Cal P w K mg base 1 "_law_truth" spTruth []) (GTwoWay : C8.Cal P w K mg base 9 "is_two_way" (spTwoWay CN Pt) []) (GIsStrong : C8.Cal P w K mg base 8 "is_strong" (spStrong CN) []) (GIsTree : C8.Cal P w K mg base 11 "is_tree" (spIsTree CN Pt) []) (GIsRing : C8.Cal P w K mg base 9 "is_ring" (spIsRing CN) []) (GIsComplete : C8.Cal P w K mg base 9 "is_complete" (spIsComplete CN) []) : C8.Cal P w K mg base 12 "_law_kinds_are" (spKindsAre CN Pt) [] := by
  obtain ⟨f, fd, F, hm, hb⟩ := D
  refine ⟨f, fd, ["net", "count", "table"], [], F.ok scKindsAre (fun vs H Q E h => ?_) (fun cdv A outer s H vs Q E hr h => ?_), hm, F.kp, hb, .nil⟩
  · obtain ⟨a, t, n, M, R, rfl, na, ht, tb, tg, k⟩ := h
    rfl
  · obtain ⟨a, t, n, M, R, rfl, na, ht, tb, tg, k⟩ := h
    have na2 := na
    obtain ⟨⟨dx, d, ha, hd⟩, b1, n2, ir⟩ := na2
    refine ⟨_, (pss_cons (ps_setLc (i := 3) (own := [("k", 12)]) (g := gName 12) (tt := tYes) rfl scKindsAre.nd rfl rfl (sw_true rfl rfl rfl (by decide +kernel)) (pi_range1 rfl T.range (pa_cons (pv 1) pa_nil)) (blkOk_by (N := ["net", "count", "table", "everyone", "two_way", "strong", "cycle", "dense", "x", "y", "there", "tree", "k"]) (sc := defScope sKindsAre) (by decide +kernel)) (fun _ _ _ _ _ => (pg_name (i := 12) scKindsAre.nd rfl (Or.inl rfl))) (fun _ _ _ _ _ => pts_nil) (fun _ _ _ _ _ => (pv 12)))
      (pss_cons (ps_set (i := 4) scKindsAre.nd rfl (Or.inl rfl) pe_bl)
      (pss_cons (ps_set (i := 5) scKindsAre.nd rfl (Or.inl rfl) pe_bl)
      (pss_cons (ps_set (i := 6) scKindsAre.nd rfl (Or.inl rfl) (pe_cmpR op_gt (pv 1) pe_int (nomark _)))
      (pss_cons (ps_set (i := 7) scKindsAre.nd rfl (Or.inl rfl) pe_bl)
      (pss_cons (ps_for PassesOwn.never rfl (pi_range1 rfl T.range (pa_cons (pv 1) pa_nil)) (pg_name (i := 8) scKindsAre.nd rfl (Or.inl rfl))
        (pss_cons (ps_for PassesOwn.never rfl (pi_range1 rfl T.range (pa_cons (pv 1) pa_nil)) (pg_name (i := 9) scKindsAre.nd rfl (Or.inl rfl))
          (pss_cons (ps_set (i := 10) scKindsAre.nd rfl (Or.inl rfl) (pe_cmpR op_eq (pe_ix ix_I (pv 2) (pe_op op_add (pe_op op_mul (pv 8) (pv 1)) (pv 9)) (fun _ _ => rfl)) pe_int (nomark _)))
          (C8.pss_cut (ps_if (PW.pt (pw_and (pt_val (pv 10)) (pw_and1 (pt_cmpR op_eq (pe_ix ix_I (pv 2) (pe_op op_add (pe_op op_mul (pv 9) (pv 1)) (pv 8)) (fun _ _ => rfl)) pe_int (nomark _)))))
            (pss_one (ps_set (i := 4) scKindsAre.nd rfl (Or.inl rfl) pe_bl))
            pss_nil)
          (C8.pss_cut (ps_if (PW.pt (pw_and (pt_cmpR op_ne (pv 8) (pv 9) (nomark _)) (pw_and1 (pt_not (pt_val (pv 10))))))
            (pss_one (ps_set (i := 7) scKindsAre.nd rfl (Or.inl rfl) pe_bl))
            pss_nil)
          (pss_one (ps_if (pt_cmpR op_ne (pv 10) (pe_and (pe_cmpR op_gt (pv 1) pe_int (nomark _)) (pe_one (pe_cmpR op_eq (pv 9) (pe_op op_modN (pe_callTy call_int1 (by rfl) T.int (by decide +kernel) (pa_cons (pe_op op_add (pv 8) pe_int) pa_nil)) (pv 1)) (nomark _)))) (nomark _))
            (pss_one (ps_set (i := 6) scKindsAre.nd rfl (Or.inl rfl) pe_bl))
            pss_nil))))))
        (pss_one (ps_if (pt_cmpR op_ne (pe_callB call_lenI (by rfl) T.len (by decide +kernel) (pa_cons (C8.pe_c GLawReach hr (by decide) (by rfl) (pa_cons (pv 1) (pa_cons (pv 2) (pa_cons (pe_lst (pa_cons (pv 8) pa_nil)) (pa_cons (pv 3) pa_nil))))) pa_nil)) (pv 1) (nomark _))
          (pss_one (ps_set (i := 5) scKindsAre.nd rfl (Or.inl rfl) pe_bl))
          pss_nil))))
      (C8.pss_cut (ps_set (i := 11) scKindsAre.nd rfl (Or.inl rfl) (pe_and (pv 4) (pe_and (pv 5) (pe_one (pe_cmpR op_eq (pe_callB (cr_sum rfl) (by rfl) T.sum (by decide +kernel) (pa_cons (pv 2) pa_nil)) (pe_op op_mul pe_int (pe_op op_sub (pv 1) pe_int)) (nomark _))))))
      (pss_cons (ps_if (PW.pt (pw_or (pt_not (pt_val (C8.pe_c GTruth hr (by decide) (by rfl) (pa_cons (C8.pe_c GTwoWay hr (by decide) (by rfl) (pa_cons (pv 0) pa_nil)) (pa_cons (pv 4) pa_nil))))) (pw_or1 (pt_not (pt_val (C8.pe_c GTruth hr (by decide) (by rfl) (pa_cons (C8.pe_c GIsStrong hr (by decide) (by rfl) (pa_cons (pv 0) pa_nil)) (pa_cons (pv 5) pa_nil))))))))
        (pss_one (ps_ret pe_bl))
        pss_nil)
      (pss_cons (ps_if (PW.pt (pw_or (pt_not (pt_val (C8.pe_c GTruth hr (by decide) (by rfl) (pa_cons (C8.pe_c GIsTree hr (by decide) (by rfl) (pa_cons (pv 0) pa_nil)) (pa_cons (pv 11) pa_nil))))) (pw_or1 (pt_not (pt_val (C8.pe_c GTruth hr (by decide) (by rfl) (pa_cons (C8.pe_c GIsRing hr (by decide) (by rfl) (pa_cons (pv 0) pa_nil)) (pa_cons (pv 6) pa_nil))))))))
        (pss_one (ps_ret pe_bl))
        pss_nil)
      (pss_one (ps_ret (C8.pe_c GTruth hr (by decide) (by rfl) (pa_cons (C8.pe_c GIsComplete hr (by decide) (by rfl) (pa_cons (pv 0) pa_nil)) (pa_cons (pv 7) pa_nil)))))))))))))), ?_⟩
    -- everyone = [k for k in range(count)]
    refine ⟨_, rfl, _, rfl, (by fail "om"), (by fail "om"), fun D1 nD1 => lc_range (lo := 0) (n := ((n : Int)).toNat) (fun i H' => Same H H' ∧ H' D1 = some (.lst ((every i).map V.int))) ⟨Same.new (Same.refl _) nD1, upd_same⟩ (fun i H' hi z => by
      obtain ⟨sm, hD⟩ := z
      have hl : (every i).length ≤ 24 := by rw [every_len]; omega
      refine ⟨rfl, ?_⟩
      unfold tYes
      refine iteT ?_
      refine ⟨_, rfl, _, hD, Evl.sz_lt (by rw [List.length_map]; omega), Same.mut sm nD1, ?_⟩
      rw [upd_same, every_succ, List.map_append, Int.zero_add]
      rfl) (fun H1 z => ?_)⟩
    obtain ⟨sm1, h11⟩ := z
    rw [Int.toNat_natCast] at h11
    -- two_way = True
    -- strong = True
    -- cycle = count > 1
    refine ⟨_, rfl, _, _, rfl, rfl, ?_⟩
    -- dense = True
    -- for x in range(count):
    refine ⟨_, rfl, _, rfl, (by fail "om"), (by fail "om"), for_range (fun i σ Hk => ∃ (tw st cy de : Bool) (u1 u2 u3 u4 : Option V), σ = [some (.ref a), some (.int (n : Int)), some (.ref t), some (.ref D1), some (.bl tw), some (.bl st), some (.bl cy), some (.bl de), u1, u2, u3, u4, none] ∧ Same H Hk ∧ Hk D1 = some (.lst ((every n).map V.int)) ∧ (tw = true ↔ Upto n i 0 (F1 R)) ∧ (cy = true ↔ 2 ≤ n ∧ Upto n i 0 (F3 n R)) ∧ (de = true ↔ Upto n i 0 (F4 n R)) ∧ (st = true ↔ ∀ x, x < i → FS n R x)) ⟨true, true, decide ((n : Int) > 1), true, _, _, _, _, rfl, sm1, h11, ⟨fun _ => Upto.zero, fun _ => rfl⟩, by rw [decide_eq_true_iff]; exact ⟨fun q => ⟨by omega, Upto.zero⟩, fun q => by omega⟩, ⟨fun _ => Upto.zero, fun _ => rfl⟩, ⟨fun _ x q => by omega, fun _ => rfl⟩⟩ ?_ ?_⟩
    · rintro i σ Hk hi ⟨tw, st, cy, de, u1, u2, u3, u4, rfl, smk, hk1, ft, fc, fd, fs⟩
      have hin : i < n := by omega
      have htk := smk _ _ ht
      -- for y in range(count):
      refine ⟨_, rfl, _, rfl, (by fail "om"), (by fail "om"), for_range (fun j σ Hj => ∃ (tw cy de : Bool) (u2 u3 u4 : Option V), σ = [some (.ref a), some (.int (n : Int)), some (.ref t), some (.ref D1), some (.bl tw), some (.bl st), some (.bl cy), some (.bl de), some (.int (0 + (i : Int))), u2, u3, u4, none] ∧ Same H Hj ∧ Hj D1 = some (.lst ((every n).map V.int)) ∧ (tw = true ↔ Upto n i j (F1 R)) ∧ (cy = true ↔ 2 ≤ n ∧ Upto n i j (F3 n R)) ∧ (de = true ↔ Upto n i j (F4 n R))) ⟨tw, cy, de, _, _, _, rfl, smk, hk1, ft, fc, fd⟩ ?_ ?_⟩
      · rintro j σ Hj hj ⟨tw2, cy2, de2, v2, v3, v4, rfl, smj, hj1, ft2, fc2, fd2⟩
        have hjn : j < n := by omega
        have htj := smj _ _ ht
        have ixt : atI (M.map V.int) ((0 + (i : Int)) * (n : Int) + (0 + (j : Int))) = some (V.int (if R i j = true then 1 else 0)) := by rw [Int.zero_add, Int.zero_add]; exact tab_bit tb hin hjn
        have ixu : atI (M.map V.int) ((0 + (j : Int)) * (n : Int) + (0 + (i : Int))) = some (V.int (if R j i = true then 1 else 0)) := by rw [Int.zero_add, Int.zero_add]; exact tab_bit tb hjn hin
        -- there = table[x * count + y] == 1
        refine ⟨_, rfl, _, rfl, _, rfl, _, _, rfl, rfl, (by fail "mul"), _, rfl, _, _, rfl, rfl, _, _, _, _, rfl, rfl, (by fail "hp"), (by fail "ix"), rfl, ?_⟩
        refine ⟨fun σ Hl => Hl = Hj ∧ ∃ tw3 : Bool, (tw3 = true ↔ Upto n i (j + 1) (F1 R)) ∧ σ = [some (.ref a), some (.int (n : Int)), some (.ref t), some (.ref D1), some (.bl tw3), some (.bl st), some (.bl cy2), some (.bl de2), some (.int (0 + (i : Int))), some (.int (0 + (j : Int))), some (.bl (R i j)), v4, none], ?_, ?_⟩
        · rw [bit_bl]
          -- if there and table[y * count + x] == 0:
          refine ⟨_, rfl, _, rfl, ?_⟩
          refine ifB (fun g1 => ?_) (fun g1 => ?_)
          · refine ⟨_, rfl, _, rfl, _, rfl, _, _, rfl, rfl, (by fail "mul"), _, rfl, _, _, rfl, rfl, _, _, _, _, rfl, rfl, (by fail "hp"), (by fail "ix"), rfl, _, rfl, ?_⟩
            refine ifEqI (fun g2 => ?_) (fun g2 => ?_)
            · -- two_way = False
              exact ⟨rfl, false, Upto.no (fun q => by have z := q g1; rw [bit_zero.mp g2] at z; cases z) hjn, rfl⟩
            · exact ⟨rfl, tw2, Upto.yes ft2 (fun _ => bit_nz g2) hjn, rfl⟩
          · fail "ite"
            exact ⟨rfl, tw2, Upto.yes ft2 (fun q => by rw [q] at g1; cases g1) hjn, rfl⟩
        · rintro σ Hl ⟨rfl, tw3, ft3, rfl⟩
          refine ⟨fun σ Hm => Hm = Hl ∧ ∃ de3 : Bool, (de3 = true ↔ Upto n i (j + 1) (F4 n R)) ∧ σ = [some (.ref a), some (.int (n : Int)), some (.ref t), some (.ref D1), some (.bl tw3), some (.bl st), some (.bl cy2), some (.bl de3), some (.int (0 + (i : Int))), some (.int (0 + (j : Int))), some (.bl (R i j)), v4, none], ?_, ?_⟩
          · -- if x != y and (not there):
            refine ⟨_, rfl, _, rfl, rfl, _, rfl, ?_⟩
            refine ifNeI (fun g3 => ?_) (fun g3 => ?_)
            · refine ⟨_, rfl, _, rfl, ?_⟩
              refine nifB (fun g4 => ?_) (fun g4 => ?_)
              · -- dense = False
                exact ⟨rfl, false, Upto.no (fun q => by have z : R i j = wholeR n i j := q; rw [g4] at z; exact absurd (decide_eq_true (p := i ≠ j) (by omega)) (by rw [show decide (i ≠ j) = false from z.symm]; exact Bool.false_ne_true)) hjn, rfl⟩
              · exact ⟨rfl, de2, Upto.yes fd2 (by show R i j = wholeR n i j; rw [g4]; exact (decide_eq_true (p := i ≠ j) (by omega)).symm) hjn, rfl⟩
            · fail "ite"
              exact ⟨rfl, de2, Upto.yes fd2 (by obtain rfl : i = j := (by omega); show R i i = wholeR n i i; rw [show wholeR n i i = false from decide_eq_false fun z => z rfl]; exact Bool.eq_false_iff.mpr fun q => ir i i hin hin q rfl) hjn, rfl⟩
          · rintro σ Hm ⟨rfl, de3, fd3, rfl⟩
            -- if there != (count > 1 and y == int(x + 1) % count):
            have E3 := ring_f (n := n) (i := i) (j := j)
            refine ⟨_, rfl, _, rfl, _, _, rfl, rfl, _, rfl, ?_⟩
            refine ifD (fun h1 => ?_) (fun h1 => ?_)
            · have tv := ring_tv (n := n) (i := i) (j := j) (by omega) hin
              refine ⟨_, rfl, _, rfl, _, _, rfl, rfl, .inl ⟨_, rfl, _, rfl, _, _, rfl, rfl, (by fail "nz"), rfl, rfl, _, rfl, ?_⟩⟩
              rw [tv]
              refine nifD (fun g5 => ?_) (fun g5 => ?_)
              · exact ⟨tw3, false, de3, _, _, _, rfl, smj, hj1, ft3, Upto.no2 (fun q => g5 (congrArg V.bl q)) hjn, fd3⟩
              · exact ⟨tw3, cy2, de3, _, _, _, rfl, smj, hj1, ft3, Upto.yes2 fc2 (V.bl.inj g5) hjn, fd3⟩
            · have tv := ring_f (n := n) (i := i) (j := j) (by omega) hin hjn
              refine ⟨rfl, _, rfl, ?_⟩
              refine nifD (fun g5 => ?_) (fun g5 => ?_)
              · exact ⟨tw3, false, de3, _, _, _, rfl, smj, hj1, ft3, Upto.no2 (fun q => g5 (congrArg V.bl (q.trans tv))) hjn, fd3⟩
              · exact ⟨tw3, cy2, de3, _, _, _, rfl, smj, hj1, ft3, Upto.yes2 fc2 ((V.bl.inj g5).trans tv.symm) hjn, fd3⟩
      · rintro σ Hj ⟨tw2, cy2, de2, v2, v3, v4, rfl, smj, hj1, ft2, fc2, fd2⟩
        rw [Int.toNat_natCast] at ft2 fc2 fd2
        have htj := smj _ _ ht
        -- if len(_law_reach(count, table, [x], everyone)) != count:
        refine ⟨_, rfl, _, rfl, _, rfl, (by fail "sz"), fun p7 np7 => ⟨_, rfl, _, _, _, _, _, _, _, _, rfl, (by fail "om"), (by fail "hp"), (by assumption), (by fail "hp"), (by fail "hp"), fun p6 H6 np6 sm6 hp6 => ⟨_, _, rfl, (by fail "hp"), _, rfl, rfl, _, rfl, ?_⟩⟩⟩
        refine ifNeI (fun g8 => ?_) (fun g8 => ?_)
        · -- strong = False
          have smz : Same Hj H6 := (Same.new (Same.refl Hj) np7).trans sm6
          have lq : (rchL n R [0 + (i : Int)] (every n)).length = n ↔ FS n R i := by
            rw [Int.zero_add, rchL_tells, tells_count]
            exact ⟨fun h y hy => rchB_iff.mp (h y hy), fun h y hy => rchB_iff.mpr (h y hy)⟩
          refine ⟨tw2, false, cy2, de2, _, _, _, _, rfl, smj.trans smz, smz _ _ hj1, ft2.trans Upto.row.symm, fc2.trans (and_congr_right fun _ => Upto.row.symm), fd2.trans Upto.row.symm, ?_⟩
          refine ⟨fun q => (nomatch q), fun q => absurd (congrArg (fun (m : Nat) => (m : Int)) (lq.mpr (q i (by omega)))) g8⟩
        · have smz : Same Hj H6 := (Same.new (Same.refl Hj) np7).trans sm6
          have lq : (rchL n R [0 + (i : Int)] (every n)).length = n ↔ FS n R i := by
            rw [Int.zero_add, rchL_tells, tells_count]
            exact ⟨fun h y hy => rchB_iff.mp (h y hy), fun h y hy => rchB_iff.mpr (h y hy)⟩
          refine ⟨tw2, st, cy2, de2, _, _, _, _, rfl, smj.trans smz, smz _ _ hj1, ft2.trans Upto.row.symm, fc2.trans (and_congr_right fun _ => Upto.row.symm), fd2.trans Upto.row.symm, ?_⟩
          rw [fs]
          refine ⟨fun q x hx => ?_, fun q x hx => q x (by omega)⟩
          by_cases e : x = i
          · rw [e]
            exact lq.mp (by omega)
          · exact q x (by omega)
    · rintro σ Hk ⟨tw, st, cy, de, u1, u2, u3, u4, rfl, smk, hk1, ft, fc, fd, fs⟩
      rw [Int.toNat_natCast] at ft fc fd fs
      rw [Upto.all] at ft fc fd
      have fs : st = true ↔ Strong n R := fs.trans ⟨fun h x y hx hy => h x hx y hy, fun h x hx y hy => h x y hx hy⟩
      have ft : tw = true ↔ Two n R := ft
      have htk := smk _ _ ht
      have ms := sum_tab tb
      refine ⟨fun σ Hl => Hl = Hk ∧ ∃ tr : Bool, (tr = true ↔ Tree n R) ∧ σ = [some (.ref a), some (.int (n : Int)), some (.ref t), some (.ref D1), some (.bl tw), some (.bl st), some (.bl cy), some (.bl de), u1, u2, u3, some (.bl tr), none], ?_, ?_⟩
      · -- tree = two_way and strong and (sum(table) == 2 * (count - 1))
        refine ⟨_, rfl, _, rfl, ?_⟩
        refine ifB (fun g10 => ?_) (fun g10 => ?_)
        · refine ⟨_, rfl, _, rfl, ?_⟩
          refine ifB (fun g9 => ?_) (fun g9 => ?_)
          · refine ⟨_, rfl, _, _, rfl, SqL.of (by fail "hp"), _, rfl, _, _, rfl, rfl, _, _, rfl, rfl, (by fail "mul"), rfl, ?_⟩
            refine ⟨rfl, _, ?_, rfl⟩
            have q1 := ft.mp g10
            have q2 := fs.mp g9
            rw [decide_eq_true_iff, ms]
            exact ⟨fun q => ⟨by have := V.int.inj q; omega, q1, q2⟩, fun q => congrArg V.int (by have := q.1; omega)⟩
          · refine ⟨rfl, false, ?_, rfl⟩
            exact ⟨fun q => (nomatch q), fun q => absurd (fs.mpr q.2.2) (by rw [g9]; exact Bool.false_ne_true)⟩
        · refine ⟨rfl, false, ?_, rfl⟩
          exact ⟨fun q => (nomatch q), fun q => absurd (ft.mpr q.2.1) (by rw [g10]; exact Bool.false_ne_true)⟩
      · rintro σ Hl ⟨rfl, tr, fr, rfl⟩
        -- if not _law_truth(is_two_way(net), two_way) or not _law_truth(is_strong(net), strong):
        have naK := NetAt.same smk na
        have tgK := tabG_same smk tg
        refine ⟨_, rfl, _, _, _, rfl, (by fail "nt"), (by fail "tg"), fun b12 H12 sp12 tp12 tl12 => ⟨_, rfl, _, two_bl tl12 (by assumption), ⟨_, rfl, ?_⟩⟩⟩
        fail "ite"
        have na1 := sp12.net tgK naK
        refine ⟨_, rfl, _, _, _, rfl, (by fail "nt"), fun b14 H14 sm14 tl14 => ⟨_, rfl, _, two_bl tl14 (by assumption), ⟨_, rfl, ?_⟩⟩⟩
        fail "ite"
        -- if not _law_truth(is_tree(net), tree) or not _law_truth(is_ring(net), cycle):
        have na2 := NetAt.same sm14 na1
        have tg2 := tabG_same sm14 tp12
        refine ⟨_, rfl, _, _, _, rfl, (by fail "nt"), (by fail "tg"), fun b16 H16 sp16 tp16 tl16 => ⟨_, rfl, _, two_bl tl16 (by assumption), ⟨_, rfl, ?_⟩⟩⟩
        fail "ite"
        have na3 := sp16.net tg2 na2
        refine ⟨_, rfl, _, _, _, rfl, (by fail "nt"), fun b18 H18 sm18 tl18 => ⟨_, rfl, _, two_bl tl18 (by assumption), ⟨_, rfl, ?_⟩⟩⟩
        fail "ite"
        -- return _law_truth(is_complete(net), dense)
        have na4 := NetAt.same sm18 na3
        have tg4 := tabG_same sm18 tp16
        refine ⟨_, rfl, _, _, _, rfl, (by fail "nt"), fun b20 H20 sm20 tl20 => ⟨_, rfl, _, two_bl tl20 (by assumption), ?_⟩⟩
        exact k _ ((Sp1.of smk).trans (sp12.trans ((Sp1.of sm14).trans (sp16.trans ((Sp1.of sm18).trans (Sp1.of sm20)))))) (tabG_same sm20 tg4)
end
end K01

end
section
set_option Elab.async false
set_option linter.all false
set_option maxRecDepth 100000
set_option maxHeartbeats 4000000
namespace K01
open PySem L2 Kit KR KX KI RM
local macro_rules | `(tactic| fail "om") => `(tactic| first | omega | (simp only [List.length_map, List.length_append, List.length_cons, List.length_nil]; omega) | (simp only [List.length_map, List.length_append, List.length_cons, List.length_nil] at *; omega) | assumption | decide | (simp only [List.length_take, List.length_drop]; omega) | (rw [every_len]; omega) | fail "no om")
local macro_rules | `(tactic| fail "nz") => `(tactic| first | decide | omega | fail "no nz")
local macro_rules | `(tactic| fail "dv") => `(tactic| exact ⟨by first | decide | omega, by first | decide | omega⟩)
local macro_rules | `(tactic| fail "mul") => `(tactic| first | exact .inr ⟨by decide, by decide⟩ | exact .inl ⟨by decide, by decide⟩ | exact mulF (by decide) (by decide) | exact .inl ⟨by omega, by omega⟩ | exact .inr ⟨by omega, by omega⟩ | fail "no mul")
local macro_rules | `(tactic| fail "sz") => `(tactic| first | assumption | exact Nat.zero_le _ | (show 1 ≤ sizeLine; decide) | (show 2 ≤ sizeLine; decide) | (show 3 ≤ sizeLine; decide) | (show 4 ≤ sizeLine; decide) | (show 5 ≤ sizeLine; decide) | exact Evl.sz_of (by omega) | (refine Evl.sz_of ?_; simp only [List.length_append, List.length_map, List.length_cons, List.length_nil]; omega) | (refine Evl.sz_of ?_; simp only [List.length_append, List.length_map, List.length_cons, List.length_nil, List.length_take, List.length_drop]; omega) | fail "no sz")
local macro_rules | `(tactic| fail "szl") => `(tactic| first | exact Evl.sz_lt (by omega) | (refine Evl.sz_lt ?_; simp only [List.length_append, List.length_map, List.length_cons, List.length_nil]; omega) | fail "no szl")
local macro_rules | `(tactic| fail "ix") => `(tactic| first | assumption | exact ix0 | exact ix1 | exact ix2 | exact at_ref (by assumption) (by omega) | exact at_int (by assumption) (by omega) | exact at_drawn (by assumption) (by assumption) | exact at_lit (by first | assumption | omega) (by fail "om") | rfl | fail "no ix")
local macro_rules | `(tactic| fail "ixn") => `(tactic| first | rfl | assumption | fail "no ixn")
local macro_rules | `(tactic| fail "nb") => `(tactic| first | assumption | exact nb_tup | exact nb_nil | exact nb_ints | exact nb_refs | exact nb_ins | exact nb_dT | exact nb_frz | fail "no nb")
local macro_rules | `(tactic| fail "ne") => `(tactic| first | assumption | exact Ne.symm (by assumption) | exact ne_of_none (by assumption) (by assumption) | exact (ne_of_none (by assumption) (by assumption)).symm | exact ne_of (by assumption) (by assumption) (by intro q; cases q) | exact ne_of (by assumption) (by assumption) (by simp) | fail "no ne")
local macro_rules | `(tactic| fail "hp") => `(tactic| first | assumption | exact upd_same | exact lit0 | exact lit1 | exact lit3 | exact lit2 | (refine' Tk.get (by assumption) ?k1; (case k1 => fail "tk")) | (with_reducible refine' upd_new ?h1 ?n1; (case n1 => assumption); (case h1 => fail "hp")) | (refine' Same.get (by assumption) ?h1; (case h1 => fail "hp")) | (refine' Kp.get (by assumption) (by fail "bx") ?h1 ?d1; (case h1 => fail "hp"); (case d1 => fail "nb")) | (with_reducible refine' upd_oth ?h1 ?n1; (case n1 => fail "ne"); (case h1 => fail "hp")) | (with_reducible refine' upd_oth ?h1 ?n1; (case h1 => fail "hp"); (case n1 => fail "ne")) | (refine' Kq.get (by assumption) (by fail "bx") ?h1 ?d1 (by fail "ne"); (case h1 => fail "hp"); (case d1 => fail "nb")) | fail "no hp")
local macro_rules | `(tactic| fail "bx") => `(tactic| first | assumption | (with_reducible refine' BoxOk.new ?h1 ?n1; (case n1 => assumption); (case h1 => fail "bx")) | (refine' BoxOk.same (by assumption) ?h1; (case h1 => fail "bx")) | (with_reducible refine' BoxOk.mut ?h1 ?h2 ?n1; (case n1 => assumption); (case h2 => assumption); (case h1 => fail "bx")) | fail "no bx")
local macro_rules | `(tactic| fail "kp") => `(tactic| first | assumption | exact Kp.refl | (with_reducible refine' Kp.at ?h1; (case h1 => fail "kp")) | (with_reducible refine' Kp.new ?h1 ?n1; (case n1 => assumption); (case h1 => fail "kp")) | (with_reducible refine' Kp.mut ?h1 ?n1; (case n1 => assumption); (case h1 => fail "kp")) | (refine' Kp.tr (by assumption) ?h1; (case h1 => fail "kp")) | (refine' Kp.tr (Kp.of (by assumption)) ?h1; (case h1 => fail "kp")) | (refine' Kq.kp (by assumption) ?h1 (by assumption); (case h1 => fail "kp")) | fail "no kp")
local macro_rules | `(tactic| fail "ite") => `(tactic| first | refine iteT ?_ | refine iteF ?_)
local macro_rules | `(tactic| fail "tt") => `(tactic| first | rfl | exact decide_eq_true (by first | rfl | omega | assumption) | exact decide_eq_true (congrArg V.int (by first | rfl | omega)) | fail "no tt")
local macro_rules | `(tactic| fail "cv") => `(tactic| first | exact .ty _ | exact .own _)
local macro_rules | `(tactic| fail "tx") => `(tactic| first | exact .base (.int _) | exact .base (.bl _) | exact .base .non | exact .base (.lst (by fail "hp")) | exact .base (.tup (by fail "hp")) | fail "no tx")
local macro_rules | `(tactic| fail "dead") => `(tactic| (exfalso; first | omega | contradiction | simp_all))
local macro_rules | `(tactic| fail "dp") => `(tactic| first | exact .tup (SqT.of (by fail "hp")) (.cons (.int _) (.cons (.int _) .nil)) | exact .lst (SqL.of (by fail "hp")) (dpPrs (by fail "pr")) | exact .lst (SqL.of (by fail "hp")) (dpInts _) | exact .lst (SqL.of (by fail "hp")) .nil | fail "no dp")
local macro_rules | `(tactic| fail "shp") => `(tactic| first | assumption | exact prD_shaped _ | exact PySem.W.ke_shaped_ints _ | rfl | fail "no shp")
local macro_rules | `(tactic| fail "pr") => `(tactic| first | assumption | exact PrT.mono (by assumption) (by fail "tk") | fail "no pr")
local macro_rules | `(tactic| fail "tk") => `(tactic| first | assumption | exact Tk.refl | (with_reducible refine' Tk.new ?h1 ?n1; (case n1 => assumption); (case h1 => fail "tk")) | (refine' Tk.tr (Kp.tk (by assumption) (by fail "bx")) ?h1; (case h1 => fail "tk")) | (refine' Tk.tr (Same.tk (by assumption)) ?h1; (case h1 => fail "tk")) | (with_reducible refine' Tk.lst ?h1 ?n1; (case n1 => fail "hp"); (case h1 => fail "tk")) | fail "no tk")
local macro_rules | `(tactic| fail "lk") => `(tactic| first | exact netF_count _ _ | exact netF_links _ _ | exact netF_no _ _ (by decide +kernel) (by decide +kernel) | fail "no lk")
local macro_rules | `(tactic| fail "kt") => `(tactic| first | exact upd_same | assumption | fail "hp")
local macro_rules | `(tactic| fail "na") => `(tactic| first | assumption | (with_reducible refine' NetAt.new ?h1 ?n1; (case n1 => assumption); (case h1 => fail "na")) | (refine' NetAt.same (by assumption) ?h1; (case h1 => fail "na")) | (refine' NetAt.kp (by assumption) (by fail "bx") ?h1; (case h1 => fail "na")) | (with_reducible refine' NetAt.lst ?h1 ?n1; (case n1 => fail "hp"); (case h1 => fail "na")) | fail "no na")
local macro_rules | `(tactic| fail "mono") => `(tactic| first | exact fun _ _ _ _ h q => h _ _ q | exact fun _ _ _ _ h q => (let ⟨v, e, z⟩ := q; ⟨v, e, h _ _ z⟩) | exact fun _ _ _ _ h q => (let ⟨v, e, u, f, z⟩ := q; ⟨v, e, u, f, h _ _ z⟩) | fail "no mono")
local macro_rules | `(tactic| fail "sm") => `(tactic| first | assumption | exact Same.refl _ | (with_reducible refine' Same.new ?h1 ?n1; (case n1 => assumption); (case h1 => fail "sm")) | (refine' Same.tr (by assumption) ?h1; (case h1 => fail "sm")) | fail "no sm")
local macro_rules | `(tactic| fail "fld") => `(tactic| first | (show 0 < 1000; decide) | (show 1 < 1000; decide) | fail "no fld")
local macro_rules | `(tactic| fail "kq") => `(tactic| first | assumption | exact Kq.refl | (with_reducible refine' Kq.at ?h1; (case h1 => fail "kq")) | (with_reducible refine' Kq.new ?h1 ?n1; (case n1 => assumption); (case h1 => fail "kq")) | (refine' Kq.trans ?h1 (by assumption); (case h1 => fail "kq")) | (refine' Kq.trans ?h1 (Kq.of (by assumption)); (case h1 => fail "kq")) | (refine' Kq.trans ?h1 (Kq.ofS (by assumption)); (case h1 => fail "kq")) | fail "no kq")
local macro_rules | `(tactic| fail "mo") => `(tactic| first | assumption | exact MemOk.take (by assumption) _ | exact MemOk.drop (by assumption) _ | exact every_ok _ | fail "no mo")

section
variable {P : Program} {w : World} {K : PySem.W.Frag} {mg : Str → Option Value} {base : Heap} {CN Pt : Addr} {mc mu : Value}

theorem kp_free {b c p : Addr} {H H1 : Hp} (k : Kp b H H1) (x : BoxOk H1 b c) (h : H1 p = none) : H p = none := by
  cases e : H p with
  | none => rfl
  | some o =>
    have ne : p ≠ b := fun z => by
      obtain ⟨ms, x1, x2, x3, x4, hb, _⟩ := x
      rw [z, hb] at h
      cases h
    rw [k p o ne e] at h
    cases h
def spSome : Sp := fun vs H Q _ => ∃ (b bc : Addr) (n : Nat), vs = [.ref b, .int (n : Int)] ∧ BoxOk H b bc ∧ 1 ≤ n ∧ n ≤ 24 ∧
  ∀ (p : Addr) (ns : List Int) (H' : Hp), ns.length ≤ 26 → Kp b H H' → BoxOk H' b bc → H p = none → H' p = some (.lst (ns.map V.int)) → Q (.ref p) H'
abbrev sSome : Stmt := top 42
theorem scSome : FnScope ["box", "count", "share", "some", "x"] ["box", "count"] (defScope sSome) := ⟨rfl, rfl, rfl, by decide +kernel, rfl, by decide +kernel, by decide +kernel⟩
theorem ok_Some (D : Df K mg "_law_some" sSome ["box", "count"]) (T : Txt K mg) (GDraw : C8.Cal P w K mg base 1 "_law_draw" spDraw []) (GShuffle : C8.Cal P w K mg base 2 "_law_shuffle" spShuffle []) (GStranger : C8.Cal P w K mg base 3 "_law_stranger" spStranger []) : C8.Cal P w K mg base 4 "_law_some" spSome [] := by
  obtain ⟨f, fd, F, hm, hb⟩ := D
  refine ⟨f, fd, ["box", "count"], [], F.ok scSome (fun vs H Q E h => ?_) (fun cdv A outer s H vs Q E hr h => ?_), hm, F.kp, hb, .nil⟩
  · obtain ⟨b, bc, n, rfl, bx, n1, n2, k⟩ := h
    rfl
  · obtain ⟨b, bc, n, rfl, bx, n1, n2, k⟩ := h
    refine ⟨_, (pss_cons (ps_set (i := 2) scSome.nd rfl (Or.inl rfl) (pe_op op_add pe_int (C8.pe_c GDraw hr (by decide) (by rfl) (pa_cons (pv 0) (pa_cons pe_int pa_nil)))))
      (pss_cons (ps_set (i := 3) scSome.nd rfl (Or.inl rfl) (pe_lst pa_nil))
      (pss_cons (ps_for PassesOwn.never rfl (pi_list (C8.pe_c GShuffle hr (by decide) (by rfl) (pa_cons (pv 0) (pa_cons (pv 1) pa_nil)))) (pg_name (i := 4) scSome.nd rfl (Or.inl rfl))
        (pss_one (ps_if (pt_cmpR op_lt (C8.pe_c GDraw hr (by decide) (by rfl) (pa_cons (pv 0) (pa_cons pe_int pa_nil))) (pv 2) (nomark _))
          (pss_one (ps_expr (pe_bm PySem.F.plainAttrs_list PySem.F.slot_list_append PySem.F.type_list_append mt_appendI (pv 3) (pa_cons (pv 4) pa_nil))))
          pss_nil)))
      (C8.pss_cut (ps_if (PW.pt (pw_and (pt_cmpR (op_neD hr.units) (pv 3) (pe_lst pa_nil) (nomark _)) (pw_and1 (pt_cmpR op_eq (C8.pe_c GDraw hr (by decide) (by rfl) (pa_cons (pv 0) (pa_cons pe_int pa_nil))) pe_int (nomark _)))))
        (pss_one (ps_expr (pe_bm PySem.F.plainAttrs_list PySem.F.slot_list_insert PySem.F.type_list_insert mt_insertI (pv 3) (pa_cons (C8.pe_c GDraw hr (by decide) (by rfl) (pa_cons (pv 0) (pa_cons (pe_op op_add (pe_callB call_lenI (by rfl) T.len (by decide +kernel) (pa_cons (pv 3) pa_nil)) pe_int) pa_nil))) (pa_cons (pe_ix ix_I (pv 3) (C8.pe_c GDraw hr (by decide) (by rfl) (pa_cons (pv 0) (pa_cons (pe_callB call_lenI (by rfl) T.len (by decide +kernel) (pa_cons (pv 3) pa_nil)) pa_nil))) (fun _ _ => rfl)) pa_nil)))))
        pss_nil)
      (C8.pss_cut (ps_if (pt_cmpR op_eq (C8.pe_c GDraw hr (by decide) (by rfl) (pa_cons (pv 0) (pa_cons pe_int pa_nil))) pe_int (nomark _))
        (pss_one (ps_expr (pe_bm PySem.F.plainAttrs_list PySem.F.slot_list_insert PySem.F.type_list_insert mt_insertI (pv 3) (pa_cons (C8.pe_c GDraw hr (by decide) (by rfl) (pa_cons (pv 0) (pa_cons (pe_op op_add (pe_callB call_lenI (by rfl) T.len (by decide +kernel) (pa_cons (pv 3) pa_nil)) pe_int) pa_nil))) (pa_cons (C8.pe_c GStranger hr (by decide) (by rfl) (pa_cons (pv 0) (pa_cons (pv 1) pa_nil))) pa_nil)))))
        pss_nil)
      (pss_one (ps_ret (pv 3)))))))), ?_⟩
    -- share = 1 + _law_draw(box, 4)
    refine ⟨_, rfl, _, _, _, rfl, (by fail "bx"), (by fail "om"), (by fail "om"), fun d1 H1 da1 db1 kp1 bx1 => ⟨_, _, rfl, rfl, ?_⟩⟩
    -- some = []
    refine ⟨(by fail "sz"), fun p2 np2 => ?_⟩
    -- for x in _law_shuffle(box, count):
    refine ⟨_, rfl, _, rfl, _, _, _, rfl, (by fail "bx"), (by fail "om"), fun p3 ms3 H3 mo3 ml3 kp3 bx3 np3 hp3 => ?_⟩
    have nP : H p2 = none := kp_free kp1 bx1 np2
    have ne3 : p3 ≠ p2 := (ne_of_none (show upd H1 p2 (.lst []) p2 = some (.lst []) from upd_same) np3).symm
    have hp2 : H3 p2 = some (.lst (([] : List Int).map V.int)) := kp3.get (BoxOk.new bx1 np2) (show upd H1 p2 (.lst []) p2 = some (.lst (([] : List Int).map V.int)) from upd_same) nb_ints
    have kpA : Kp b H H3 := Kp.trans (Kp.new kp1 np2) kp3
    refine ⟨_, rfl, ⟨_, SqL.of (by fail "hp")⟩, for_list (K := K) (a := p3) (xs := ms3.map V.int) (fun i σ H2 => ∃ (v : Option V) (ns : List Int), σ = [some (.ref b), some (.int (n : Int)), some (.int (1 + d1)), some (.ref p2), v] ∧ Kp b H H2 ∧ BoxOk H2 b bc ∧ H2 p2 = some (.lst (ns.map V.int)) ∧ H2 p3 = some (.lst (ms3.map V.int)) ∧ ns.length ≤ i) ⟨_, [], rfl, kpA, bx3, hp2, hp3, Nat.le_refl _⟩ (fun i σ H2 _ z => by obtain ⟨v, ns, _, _, _, _, h, _⟩ := z; exact SqL.of h) ?_ ?_⟩
    · rintro i x0 σ Hi hx ⟨v, ns, rfl, kpi, bxi, hpi, h3i, li⟩
      obtain ⟨x, ex, rfl⟩ := item_of hx
      have ilt : i < ms3.length := (List.getElem?_eq_some_iff.mp ex).1
      -- if _law_draw(box, 4) < share:
      refine ⟨_, rfl, _, _, _, rfl, (by fail "bx"), (by fail "om"), (by fail "om"), fun d4 H4 da4 db4 kp4 bx4 => ⟨_, rfl, _, _, rfl, rfl, _, rfl, ?_⟩⟩
      refine ifD (fun g5 => ?_) (fun g5 => ?_)
      · -- some.append(x)
        refine ⟨_, rfl, .inl ⟨rfl, _, SqL.of (by fail "hp")⟩, _, rfl, _, _, _, rfl, rfl, (by fail "hp"), (by fail "szl"), ?_⟩
        exact ⟨_, ns ++ [x], rfl, Kp.mut (Kp.trans kpi kp4) nP, BoxOk.mut bx4 bx nP, upd_same, by rw [upd_ne ne3]; exact kp4.get bxi h3i nb_ints, by rw [List.length_append]; show _ + 1 ≤ _; omega⟩
      · exact ⟨_, ns, rfl, Kp.trans kpi kp4, bx4, kp4.get bxi hpi nb_ints, kp4.get bxi h3i nb_ints, by omega⟩
    · rintro σ Hi ⟨v, ns, rfl, kpi, bxi, hpi, h3i, li⟩
      rw [List.length_map] at li
      refine ⟨fun σ H2 => ∃ (v : Option V) (ns : List Int), σ = [some (.ref b), some (.int (n : Int)), some (.int (1 + d1)), some (.ref p2), v] ∧ Kp b H H2 ∧ BoxOk H2 b bc ∧ H2 p2 = some (.lst (ns.map V.int)) ∧ ns.length ≤ 25, ?_, ?_⟩
      · -- if some != [] and _law_draw(box, 3) == 2:
        refine ⟨_, rfl, (by fail "sz"), fun p6 np6 => ⟨_, _, (by fail "dp"), (by fail "dp"), (by fail "shp"), (by fail "shp"), _, rfl, ?_⟩⟩
        refine nifB (fun g7 => have ne1 := eq_nil g7; ?_) (fun g7 => ?_)
        · refine ⟨_, rfl, _, _, _, rfl, (by fail "bx"), (by fail "om"), (by fail "om"), fun d8 H8 da8 db8 kp8 bx8 => ⟨rfl, _, rfl, ?_⟩⟩
          refine ifEqI (fun g9 => ?_) (fun g9 => ?_)
          · -- some.insert(_law_draw(box, len(some) + 1), some[_law_draw(box, len(some))])
            refine ⟨_, rfl, .inl ⟨rfl, _, SqL.of (by fail "hp")⟩, _, rfl, _, rfl, _, _, rfl, (by fail "hp"), _, _, rfl, rfl, _, _, _, rfl, (by fail "bx"), (by fail "om"), (by fail "om"), fun d11 H11 da11 db11 kp11 bx11 => ⟨_, rfl, _, rfl, _, rfl, _, _, rfl, (by fail "hp"), _, _, _, rfl, (by fail "bx"), (by fail "om"), (by fail "om"), fun d10 H10 da10 db10 kp10 bx10 => ⟨_, _, _, _, rfl, rfl, (by fail "hp"), (by fail "ix"), _, _, _, _, rfl, rfl, (by fail "hp"), (by fail "szl"), (by fail "om"), (by fail "om"), ?_⟩⟩⟩
            exact ⟨_, _, rfl, Kp.mut (Kp.trans (Kp.trans (Kp.trans (Kp.new kpi np6) kp8) kp11) kp10) nP, BoxOk.mut bx10 bx nP, upd_same, by simp only [List.length_append, List.length_take, List.length_drop, List.length_cons, List.length_nil]; omega⟩
          · exact ⟨_, _, rfl, Kp.trans (Kp.new kpi np6) kp8, bx8, by fail "hp", by omega⟩
        · fail "ite"
          exact ⟨_, _, rfl, Kp.new kpi np6, BoxOk.new bxi np6, by fail "hp", by omega⟩
      · rintro σ Hi ⟨v, ns, rfl, kpi, bxi, hpi, li⟩
        refine ⟨fun σ H2 => ∃ (v : Option V) (ns : List Int), σ = [some (.ref b), some (.int (n : Int)), some (.int (1 + d1)), some (.ref p2), v] ∧ Kp b H H2 ∧ BoxOk H2 b bc ∧ H2 p2 = some (.lst (ns.map V.int)) ∧ ns.length ≤ 26, ?_, ?_⟩
        · -- if _law_draw(box, 4) == 3:
          refine ⟨_, rfl, _, _, _, rfl, (by fail "bx"), (by fail "om"), (by fail "om"), fun d12 H12 da12 db12 kp12 bx12 => ⟨rfl, _, rfl, ?_⟩⟩
          refine ifEqI (fun g13 => ?_) (fun g13 => ?_)
          · -- some.insert(_law_draw(box, len(some) + 1), _law_stranger(box, count))
            refine ⟨_, rfl, .inl ⟨rfl, _, SqL.of (by fail "hp")⟩, _, rfl, _, rfl, _, _, rfl, (by fail "hp"), _, _, rfl, rfl, _, _, _, rfl, (by fail "bx"), (by fail "om"), (by fail "om"), fun d15 H15 da15 db15 kp15 bx15 => ⟨_, rfl, _, rfl, _, _, _, rfl, (by fail "bx"), (by fail "om"), fun d14 H14 da14 kp14 bx14 => ⟨_, _, _, _, rfl, rfl, (by fail "hp"), (by fail "szl"), (by fail "om"), (by fail "om"), ?_⟩⟩⟩
            exact ⟨_, _, rfl, Kp.mut (Kp.trans (Kp.trans (Kp.trans kpi kp12) kp15) kp14) nP, BoxOk.mut bx14 bx nP, upd_same, by simp only [List.length_append, List.length_take, List.length_drop, List.length_cons, List.length_nil]; omega⟩
          · exact ⟨_, _, rfl, Kp.trans kpi kp12, bx12, by fail "hp", by omega⟩
        · rintro σ Hi ⟨v, ns, rfl, kpi, bxi, hpi, li⟩
          -- return some
          refine ⟨_, rfl, ?_⟩
          exact k _ ns _ li kpi bxi nP hpi
end
end K01

end
section
set_option Elab.async false
set_option linter.all false
set_option maxRecDepth 100000
set_option maxHeartbeats 4000000
namespace K01
open PySem L2 Kit KR KX KI RM L2H
local macro_rules | `(tactic| fail "om") => `(tactic| first | omega | (simp only [List.length_map, List.length_append, List.length_cons, List.length_nil]; omega) | (simp only [List.length_map, List.length_append, List.length_cons, List.length_nil] at *; omega) | assumption | decide | (simp only [List.length_take, List.length_drop]; omega) | (rw [every_len]; omega) | fail "no om")
local macro_rules | `(tactic| fail "nz") => `(tactic| first | decide | omega | fail "no nz")
local macro_rules | `(tactic| fail "dv") => `(tactic| exact ⟨by first | decide | omega, by first | decide | omega⟩)
local macro_rules | `(tactic| fail "mul") => `(tactic| first | exact .inr ⟨by decide, by decide⟩ | exact .inl ⟨by decide, by decide⟩ | exact mulF (by decide) (by decide) | exact .inl ⟨by omega, by omega⟩ | exact .inr ⟨by omega, by omega⟩ | fail "no mul")
local macro_rules | `(tactic| fail "sz") => `(tactic| first | assumption | exact Nat.zero_le _ | (show 1 ≤ sizeLine; decide) | (show 2 ≤ sizeLine; decide) | (show 3 ≤ sizeLine; decide) | (show 4 ≤ sizeLine; decide) | (show 5 ≤ sizeLine; decide) | exact Evl.sz_of (by omega) | (refine Evl.sz_of ?_; simp only [List.length_append, List.length_map, List.length_cons, List.length_nil]; omega) | (refine Evl.sz_of ?_; simp only [List.length_append, List.length_map, List.length_cons, List.length_nil, List.length_take, List.length_drop]; omega) | fail "no sz")
local macro_rules | `(tactic| fail "szl") => `(tactic| first | exact Evl.sz_lt (by omega) | (refine Evl.sz_lt ?_; simp only [List.length_append, List.length_map, List.length_cons, List.length_nil]; omega) | fail "no szl")
local macro_rules | `(tactic| fail "ix") => `(tactic| first | assumption | exact ix0 | exact ix1 | exact ix2 | exact at_ref (by assumption) (by omega) | exact at_int (by assumption) (by omega) | exact at_drawn (by assumption) (by assumption) | exact at_lit (by first | assumption | omega) (by fail "om") | rfl | fail "no ix")
local macro_rules | `(tactic| fail "ixn") => `(tactic| first | rfl | assumption | fail "no ixn")
local macro_rules | `(tactic| fail "nb") => `(tactic| first | assumption | exact nb_tup | exact nb_nil | exact nb_ints | exact nb_refs | exact nb_ins | exact nb_dT | exact nb_frz | fail "no nb")
local macro_rules | `(tactic| fail "ne") => `(tactic| first | assumption | exact Ne.symm (by assumption) | exact ne_of_none (by assumption) (by assumption) | exact (ne_of_none (by assumption) (by assumption)).symm | exact ne_of (by assumption) (by assumption) (by intro q; cases q) | exact ne_of (by assumption) (by assumption) (by simp) | fail "no ne")
local macro_rules | `(tactic| fail "hp") => `(tactic| first | assumption | exact upd_same | exact lit0 | exact lit1 | exact lit3 | exact lit2 | (refine' Tk.get (by assumption) ?k1; (case k1 => fail "tk")) | (with_reducible refine' upd_new ?h1 ?n1; (case n1 => assumption); (case h1 => fail "hp")) | (refine' Same.get (by assumption) ?h1; (case h1 => fail "hp")) | (refine' Kp.get (by assumption) (by fail "bx") ?h1 ?d1; (case h1 => fail "hp"); (case d1 => fail "nb")) | (with_reducible refine' upd_oth ?h1 ?n1; (case n1 => fail "ne"); (case h1 => fail "hp")) | (with_reducible refine' upd_oth ?h1 ?n1; (case h1 => fail "hp"); (case n1 => fail "ne")) | (refine' Kq.get (by assumption) (by fail "bx") ?h1 ?d1 (by fail "ne"); (case h1 => fail "hp"); (case d1 => fail "nb")) | fail "no hp")
local macro_rules | `(tactic| fail "bx") => `(tactic| first | assumption | (with_reducible refine' BoxOk.new ?h1 ?n1; (case n1 => assumption); (case h1 => fail "bx")) | (refine' BoxOk.same (by assumption) ?h1; (case h1 => fail "bx")) | (with_reducible refine' BoxOk.mut ?h1 ?h2 ?n1; (case n1 => assumption); (case h2 => assumption); (case h1 => fail "bx")) | fail "no bx")
local macro_rules | `(tactic| fail "kp") => `(tactic| first | assumption | exact Kp.refl | (with_reducible refine' Kp.at ?h1; (case h1 => fail "kp")) | (with_reducible refine' Kp.new ?h1 ?n1; (case n1 => assumption); (case h1 => fail "kp")) | (with_reducible refine' Kp.mut ?h1 ?n1; (case n1 => assumption); (case h1 => fail "kp")) | (refine' Kp.tr (by assumption) ?h1; (case h1 => fail "kp")) | (refine' Kp.tr (Kp.of (by assumption)) ?h1; (case h1 => fail "kp")) | (refine' Kq.kp (by assumption) ?h1 (by assumption); (case h1 => fail "kp")) | fail "no kp")
local macro_rules | `(tactic| fail "ite") => `(tactic| first | refine iteT ?_ | refine iteF ?_)
local macro_rules | `(tactic| fail "tt") => `(tactic| first | rfl | exact decide_eq_true (by first | rfl | omega | assumption) | exact decide_eq_true (congrArg V.int (by first | rfl | omega)) | fail "no tt")
local macro_rules | `(tactic| fail "cv") => `(tactic| first | exact .ty _ | exact .own _)
local macro_rules | `(tactic| fail "tx") => `(tactic| first | exact .base (.int _) | exact .base (.bl _) | exact .base .non | exact .base (.lst (by fail "hp")) | exact .base (.tup (by fail "hp")) | fail "no tx")
local macro_rules | `(tactic| fail "dead") => `(tactic| (exfalso; first | omega | contradiction | simp_all))
local macro_rules | `(tactic| fail "dp") => `(tactic| first | exact .tup (SqT.of (by fail "hp")) (.cons (.int _) (.cons (.int _) .nil)) | exact .lst (SqL.of (by fail "hp")) (dpPrs (by fail "pr")) | exact .lst (SqL.of (by fail "hp")) (dpInts _) | exact .lst (SqL.of (by fail "hp")) .nil | fail "no dp")
local macro_rules | `(tactic| fail "shp") => `(tactic| first | assumption | exact prD_shaped _ | exact PySem.W.ke_shaped_ints _ | rfl | fail "no shp")
local macro_rules | `(tactic| fail "pr") => `(tactic| first | assumption | exact PrT.mono (by assumption) (by fail "tk") | fail "no pr")
local macro_rules | `(tactic| fail "tk") => `(tactic| first | assumption | exact Tk.refl | (with_reducible refine' Tk.new ?h1 ?n1; (case n1 => assumption); (case h1 => fail "tk")) | (refine' Tk.tr (Kp.tk (by assumption) (by fail "bx")) ?h1; (case h1 => fail "tk")) | (refine' Tk.tr (Same.tk (by assumption)) ?h1; (case h1 => fail "tk")) | (with_reducible refine' Tk.lst ?h1 ?n1; (case n1 => fail "hp"); (case h1 => fail "tk")) | fail "no tk")
local macro_rules | `(tactic| fail "lk") => `(tactic| first | exact netF_count _ _ | exact netF_links _ _ | exact netF_no _ _ (by decide +kernel) (by decide +kernel) | fail "no lk")
local macro_rules | `(tactic| fail "kt") => `(tactic| first | exact upd_same | assumption | fail "hp")
local macro_rules | `(tactic| fail "na") => `(tactic| first | assumption | (with_reducible refine' NetAt.new ?h1 ?n1; (case n1 => assumption); (case h1 => fail "na")) | (refine' NetAt.same (by assumption) ?h1; (case h1 => fail "na")) | (refine' NetAt.kp (by assumption) (by fail "bx") ?h1; (case h1 => fail "na")) | (with_reducible refine' NetAt.lst ?h1 ?n1; (case n1 => fail "hp"); (case h1 => fail "na")) | fail "no na")
local macro_rules | `(tactic| fail "mono") => `(tactic| first | exact fun _ _ _ _ h q => h _ _ q | exact fun _ _ _ _ h q => (let ⟨v, e, z⟩ := q; ⟨v, e, h _ _ z⟩) | exact fun _ _ _ _ h q => (let ⟨v, e, u, f, z⟩ := q; ⟨v, e, u, f, h _ _ z⟩) | fail "no mono")
local macro_rules | `(tactic| fail "sm") => `(tactic| first | assumption | exact Same.refl _ | (with_reducible refine' Same.new ?h1 ?n1; (case n1 => assumption); (case h1 => fail "sm")) | (refine' Same.tr (by assumption) ?h1; (case h1 => fail "sm")) | fail "no sm")
local macro_rules | `(tactic| fail "fld") => `(tactic| first | (show 0 < 1000; decide) | (show 1 < 1000; decide) | fail "no fld")
local macro_rules | `(tactic| fail "kq") => `(tactic| first | assumption | exact Kq.refl | (with_reducible refine' Kq.at ?h1; (case h1 => fail "kq")) | (with_reducible refine' Kq.new ?h1 ?n1; (case n1 => assumption); (case h1 => fail "kq")) | (refine' Kq.trans ?h1 (by assumption); (case h1 => fail "kq")) | (refine' Kq.trans ?h1 (Kq.of (by assumption)); (case h1 => fail "kq")) | (refine' Kq.trans ?h1 (Kq.ofS (by assumption)); (case h1 => fail "kq")) | fail "no kq")
local macro_rules | `(tactic| fail "mo") => `(tactic| first | assumption | exact MemOk.take (by assumption) _ | exact MemOk.drop (by assumption) _ | exact every_ok _ | fail "no mo")

section
variable {P : Program} {w : World} {K : PySem.W.Frag} {mg : Str → Option Value} {base : Heap} {CN CI CU CT CS Pt : Addr} {mc mu : Value}

structure LTx (K : PySem.W.Frag) (mg : Str → Option Value) (CN CI CU CT CS : Addr) (mc mu : Value) : Prop extends NTx K mg CN mc mu where
  all : mg "all" = none
  mgInvalidNet : mg "InvalidNet" = some (.ref CI)
  mgUnknownReplica : mg "UnknownReplica" = some (.ref CU)
  mgNotTree : mg "NotTree" = some (.ref CT)
  mgStoreError : mg "StoreError" = some (.ref CS)
  mgV : mg "ValueError" = none
  isU : IsX K CU
  xU : PySem.W.exmOne K (.ref CU) (.ref CS) = some true
  kUI : PySem.W.kitOne K (.ref CU) (.ref CI) = some false
  kUT : PySem.W.kitOne K (.ref CU) (.ref CT) = some false
  kUU : PySem.W.kitOne K (.ref CU) (.ref CU) = some true
  kUV : PySem.W.kitOne K (.ref CU) (.type "ValueError") = some true
  noU : PySem.W.findIn K (.ref CU) "replica" = some none
section
variable {X : Cx} {k j : Nat} {x : Str} {sp : Sp} {E : L2.St → XK} {p pos : Pos} {e : Expr} {es : List Expr} {t : TA}
/-- a def that may raise, in a try's body -/
theorem pe_cS (c : CalX X.prog X.w X.K X.mg X.base k x sp) (hr : Room j X.A) (hk : k ≤ j) (hg : Gl X x) (hx : ∀ σ, PassesAt (L2.CX X.prog X.w) X σ (E σ)) (ha : PA X (e :: es) t)
    (hdb : (x == ("__debug__" : Str)) = false := by decide) (he : starEach (e :: es) X.env = (false, eval e X.env) :: starEach es X.env := by rfl) (hpl : (backTo pos (starEach es X.env)).any (·.1) = false := by rfl) :
    PE X (.Call (.Name x p) (e :: es) [] pos) (tCallS sp E t) := by
  obtain ⟨f, fd, ps, F, hm, kp, b⟩ := c.ex
  exact pe_callS F (hr.mono hk) hg hm kp b hx ha hdb he hpl
end
theorem roomHS {k j : Nat} {B : Around} {v : Option Value} (r : Room j B) (h : k ≤ j) : RoomH k (B.mark v) := ⟨(r.mono h).dp, (r.mono h).un⟩
def spAsked (CN : Addr) : Sp := fun vs H Q _ => ∃ (a s l : Addr) (n : Nat) (R : Rel) (ss ws : List Int), vs = [.ref a, .ref s, .ref l] ∧ NetAt CN H a n R ∧ H s = some (.lst (ss.map V.int)) ∧ H l = some (.lst (ws.map V.int)) ∧
  (odd n (ss ++ ws) = [] → ∀ (t p : Addr) (H' : Hp), H t = none → H p = none → Same H H' → H' t = some (.tup [.bl true, .ref p]) → H' p = some (.lst ((rchL n R ss ws).map V.int)) → Q (.ref t) H') ∧
  (∀ x r, odd n (ss ++ ws) = x :: r → ∀ (t : Addr) (H' : Hp), H t = none → Same H H' → H' t = some (.tup [.bl false, .int x]) → Q (.ref t) H')
abbrev sAsked : Stmt := top 43
theorem scAsked : FnScope ["net", "starts", "allowed", "e", "kinds"] ["net", "starts", "allowed"] (defScope sAsked) := ⟨rfl, rfl, rfl, by decide +kernel, rfl, by decide +kernel, by decide +kernel⟩
theorem ok_Asked (D : Df K mg "_law_asked" sAsked ["net", "starts", "allowed"]) (T : LTx K mg CN CI CU CT CS mc mu) (GReach : CalX P w K mg base 6 "reach_within" (spReach CN CU)) : C8.Cal P w K mg base 8 "_law_asked" (spAsked CN) [] := by
  obtain ⟨f, fd, F, hm, hb⟩ := D
  refine ⟨f, fd, ["net", "starts", "allowed"], [], F.ok scAsked (fun vs H Q E h => ?_) (fun cdv A outer s H vs Q E hr h => ?_), hm, F.kp, hb, .nil⟩
  · obtain ⟨a, s0, l, n, R, ss, ws, rfl, na, hs, hl, kG, kB⟩ := h
    rfl
  · obtain ⟨a, s0, l, n, R, ss, ws, rfl, na, hs, hl, kG, kB⟩ := h
    refine ⟨_, (pss_one (ps_try_as (i := 3) (Wout := fun _ _ _ _ => False) rfl rfl scAsked.nd rfl rfl ⟨rfl, by decide, Or.inl T.mgStoreError⟩ takes0
        (fun W pn xe tk _ => (pss_one (ps_ret (pe_tup (pa_cons pe_bl (pa_cons (pe_cS GReach hr (by decide) (by rfl) (fun σ => passAt tk σ) (pa_cons (pv 0) (pa_cons (pv 1) (pa_cons (pv 2) pa_nil)))) pa_nil))))))
        (fun a oe cls d pn hz hf => (pss_cons (ps_set (i := 4) scAsked.nd rfl (Or.inl rfl) (pe_lst (pa_cons (pe_callB (call_isX hz hf) (by rfl) T.isinstance (by decide +kernel) (pa_cons (pv 3) (pa_cons (pe_glob (v := .ref CU) rfl T.mgUnknownReplica rfl) pa_nil))) (pa_cons (pe_callB (call_isX hz hf) (by rfl) T.isinstance (by decide +kernel) (pa_cons (pv 3) (pa_cons (pe_glob (v := .ref CI) rfl T.mgInvalidNet rfl) pa_nil))) (pa_cons (pe_callB (call_isX hz hf) (by rfl) T.isinstance (by decide +kernel) (pa_cons (pv 3) (pa_cons (pe_glob (v := .ref CT) rfl T.mgNotTree rfl) pa_nil))) pa_nil)))))
        (pss_cons (ps_if (PW.pt (pw_or (pt_cmpR (op_neDB (K := K) hr.units (by rfl)) (pv 4) (pe_lst (pa_cons pe_bl (pa_cons pe_bl (pa_cons pe_bl pa_nil)))) (nomark _)) (pw_or1 (pt_not (pt_val (pe_callB (call_isX hz hf) (by rfl) T.isinstance (by decide +kernel) (pa_cons (pv 3) (pa_cons (pe_bltn (v := .ty "ValueError") (u := .type "ValueError") (by rfl) T.mgV (by decide +kernel) rfl) pa_nil))))))))
          (pss_one (ps_ret (pe_tup (pa_cons pe_bl (pa_cons pe_non pa_nil)))))
          pss_nil)
        (pss_one (ps_ret (pe_tup (pa_cons pe_bl (pa_cons (pe_xf T.isU.xf T.noU hz hf (pv 3)) pa_nil)))))))))), ?_⟩
    refine ⟨_, rfl, _, rfl, _, rfl, _, _, _, _, _, _, _, rfl, na, hs, hl, fun od p H1 np sm hp => ?_, fun x r e d H1 nd sm hx => ?_⟩
    · refine ⟨(by fail "sz"), fun t nt0 => ?_⟩
      exact kG od t p _ (free_back nt0 sm) np (by fail "sm") upd_same (by fail "hp")
    · refine ⟨true, T.xU, fun _ a0 na0 => ?_, fun q => Bool.noConfusion q⟩
      refine ⟨_, rfl, _, _, _, _, _, _, rfl, T.isU, rfl, (fun _ z => z), rfl, hx, T.kUU, ?_⟩
      refine ⟨_, rfl, _, _, _, _, _, _, rfl, T.isU, rfl, (fun _ z => z), rfl, hx, T.kUI, ?_⟩
      refine ⟨_, rfl, _, _, _, _, _, _, rfl, T.isU, rfl, (fun _ z => z), rfl, hx, T.kUT, ?_⟩
      refine ⟨(by fail "sz"), fun p1 np1 => ?_⟩
      refine ⟨_, rfl, (by fail "sz"), fun p2 np2 => ⟨_, _, .lst (SqL.of (by fail "hp")) (.cons (.bl _) (.cons (.bl _) (.cons (.bl _) .nil))), .lst (SqL.of (by fail "hp")) (.cons (.bl _) (.cons (.bl _) (.cons (.bl _) .nil))), rfl, rfl, _, rfl, ?_⟩⟩
      refine iteKF rfl ?_
      refine ⟨_, rfl, _, _, _, _, _, _, rfl, T.isU, rfl, (fun _ z => z), rfl, (by fail "hp"), T.kUV, _, rfl, ?_⟩
      refine iteKF rfl ?_
      refine ⟨_, rfl, rfl, rfl, _, _, _, rfl, (by fail "hp"), (by rfl), (by fail "sz"), fun p3 np3 => ?_⟩
      exact kB x r e p3 _ (free_back (fresh2 (fresh2 np3).1).1 sm) (by fail "sm") upd_same
end
end K01

end
section
set_option Elab.async false
set_option linter.all false
set_option maxRecDepth 100000
set_option maxHeartbeats 4000000
namespace K01
open PySem L2 Kit KR KX KI RM L2H
local macro_rules | `(tactic| fail "om") => `(tactic| first | omega | (simp only [List.length_map, List.length_append, List.length_cons, List.length_nil]; omega) | (simp only [List.length_map, List.length_append, List.length_cons, List.length_nil] at *; omega) | assumption | decide | (simp only [List.length_take, List.length_drop]; omega) | (rw [every_len]; omega) | fail "no om")
local macro_rules | `(tactic| fail "nz") => `(tactic| first | decide | omega | fail "no nz")
local macro_rules | `(tactic| fail "dv") => `(tactic| exact ⟨by first | decide | omega, by first | decide | omega⟩)
local macro_rules | `(tactic| fail "mul") => `(tactic| first | exact .inr ⟨by decide, by decide⟩ | exact .inl ⟨by decide, by decide⟩ | exact mulF (by decide) (by decide) | exact .inl ⟨by omega, by omega⟩ | exact .inr ⟨by omega, by omega⟩ | fail "no mul")
local macro_rules | `(tactic| fail "sz") => `(tactic| first | assumption | exact Nat.zero_le _ | (show 1 ≤ sizeLine; decide) | (show 2 ≤ sizeLine; decide) | (show 3 ≤ sizeLine; decide) | (show 4 ≤ sizeLine; decide) | (show 5 ≤ sizeLine; decide) | exact Evl.sz_of (by omega) | (refine Evl.sz_of ?_; simp only [List.length_append, List.length_map, List.length_cons, List.length_nil]; omega) | (refine Evl.sz_of ?_; simp only [List.length_append, List.length_map, List.length_cons, List.length_nil, List.length_take, List.length_drop]; omega) | fail "no sz")
local macro_rules | `(tactic| fail "szl") => `(tactic| first | exact Evl.sz_lt (by omega) | (refine Evl.sz_lt ?_; simp only [List.length_append, List.length_map, List.length_cons, List.length_nil]; omega) | fail "no szl")
local macro_rules | `(tactic| fail "ix") => `(tactic| first | assumption | exact ix0 | exact ix1 | exact ix2 | exact at_ref (by assumption) (by omega) | exact at_int (by assumption) (by omega) | exact at_drawn (by assumption) (by assumption) | exact at_lit (by first | assumption | omega) (by fail "om") | rfl | fail "no ix")
local macro_rules | `(tactic| fail "ixn") => `(tactic| first | rfl | assumption | fail "no ixn")
local macro_rules | `(tactic| fail "nb") => `(tactic| first | assumption | exact nb_tup | exact nb_nil | exact nb_ints | exact nb_refs | exact nb_ins | exact nb_dT | exact nb_frz | fail "no nb")
local macro_rules | `(tactic| fail "ne") => `(tactic| first | assumption | exact Ne.symm (by assumption) | exact ne_of_none (by assumption) (by assumption) | exact (ne_of_none (by assumption) (by assumption)).symm | exact ne_of (by assumption) (by assumption) (by intro q; cases q) | exact ne_of (by assumption) (by assumption) (by simp) | fail "no ne")
local macro_rules | `(tactic| fail "hp") => `(tactic| first | assumption | exact upd_same | exact lit0 | exact lit1 | exact lit3 | exact lit2 | (refine' Tk.get (by assumption) ?k1; (case k1 => fail "tk")) | (with_reducible refine' upd_new ?h1 ?n1; (case n1 => assumption); (case h1 => fail "hp")) | (refine' Same.get (by assumption) ?h1; (case h1 => fail "hp")) | (refine' Kp.get (by assumption) (by fail "bx") ?h1 ?d1; (case h1 => fail "hp"); (case d1 => fail "nb")) | (with_reducible refine' upd_oth ?h1 ?n1; (case n1 => fail "ne"); (case h1 => fail "hp")) | (with_reducible refine' upd_oth ?h1 ?n1; (case h1 => fail "hp"); (case n1 => fail "ne")) | (refine' Kq.get (by assumption) (by fail "bx") ?h1 ?d1 (by fail "ne"); (case h1 => fail "hp"); (case d1 => fail "nb")) | fail "no hp")
local macro_rules | `(tactic| fail "bx") => `(tactic| first | assumption | (with_reducible refine' BoxOk.new ?h1 ?n1; (case n1 => assumption); (case h1 => fail "bx")) | (refine' BoxOk.same (by assumption) ?h1; (case h1 => fail "bx")) | (with_reducible refine' BoxOk.mut ?h1 ?h2 ?n1; (case n1 => assumption); (case h2 => assumption); (case h1 => fail "bx")) | fail "no bx")
local macro_rules | `(tactic| fail "kp") => `(tactic| first | assumption | exact Kp.refl | (with_reducible refine' Kp.at ?h1; (case h1 => fail "kp")) | (with_reducible refine' Kp.new ?h1 ?n1; (case n1 => assumption); (case h1 => fail "kp")) | (with_reducible refine' Kp.mut ?h1 ?n1; (case n1 => assumption); (case h1 => fail "kp")) | (refine' Kp.tr (by assumption) ?h1; (case h1 => fail "kp")) | (refine' Kp.tr (Kp.of (by assumption)) ?h1; (case h1 => fail "kp")) | (refine' Kq.kp (by assumption) ?h1 (by assumption); (case h1 => fail "kp")) | fail "no kp")
local macro_rules | `(tactic| fail "ite") => `(tactic| first | refine iteT ?_ | refine iteF ?_)
local macro_rules | `(tactic| fail "tt") => `(tactic| first | rfl | exact decide_eq_true (by first | rfl | omega | assumption) | exact decide_eq_true (congrArg V.int (by first | rfl | omega)) | fail "no tt")
local macro_rules | `(tactic| fail "cv") => `(tactic| first | exact .ty _ | exact .own _)
local macro_rules | `(tactic| fail "tx") => `(tactic| first | exact .base (.int _) | exact .base (.bl _) | exact .base .non | exact .base (.lst (by fail "hp")) | exact .base (.tup (by fail "hp")) | fail "no tx")
local macro_rules | `(tactic| fail "dead") => `(tactic| (exfalso; first | omega | contradiction | simp_all))
local macro_rules | `(tactic| fail "dp") => `(tactic| first | exact .tup (SqT.of (by fail "hp")) (.cons (.int _) (.cons (.int _) .nil)) | exact .lst (SqL.of (by fail "hp")) (dpPrs (by fail "pr")) | exact .lst (SqL.of (by fail "hp")) (dpInts _) | exact .lst (SqL.of (by fail "hp")) .nil | fail "no dp")
local macro_rules | `(tactic| fail "shp") => `(tactic| first | assumption | exact prD_shaped _ | exact PySem.W.ke_shaped_ints _ | rfl | fail "no shp")
local macro_rules | `(tactic| fail "pr") => `(tactic| first | assumption | exact PrT.mono (by assumption) (by fail "tk") | fail "no pr")
local macro_rules | `(tactic| fail "tk") => `(tactic| first | assumption | exact Tk.refl | (with_reducible refine' Tk.new ?h1 ?n1; (case n1 => assumption); (case h1 => fail "tk")) | (refine' Tk.tr (Kp.tk (by assumption) (by fail "bx")) ?h1; (case h1 => fail "tk")) | (refine' Tk.tr (Same.tk (by assumption)) ?h1; (case h1 => fail "tk")) | (with_reducible refine' Tk.lst ?h1 ?n1; (case n1 => fail "hp"); (case h1 => fail "tk")) | fail "no tk")
local macro_rules | `(tactic| fail "lk") => `(tactic| first | exact netF_count _ _ | exact netF_links _ _ | exact netF_no _ _ (by decide +kernel) (by decide +kernel) | fail "no lk")
local macro_rules | `(tactic| fail "kt") => `(tactic| first | exact upd_same | assumption | fail "hp")
local macro_rules | `(tactic| fail "na") => `(tactic| first | assumption | (with_reducible refine' NetAt.new ?h1 ?n1; (case n1 => assumption); (case h1 => fail "na")) | (refine' NetAt.same (by assumption) ?h1; (case h1 => fail "na")) | (refine' NetAt.kp (by assumption) (by fail "bx") ?h1; (case h1 => fail "na")) | (with_reducible refine' NetAt.lst ?h1 ?n1; (case n1 => fail "hp"); (case h1 => fail "na")) | fail "no na")
local macro_rules | `(tactic| fail "mono") => `(tactic| first | exact fun _ _ _ _ h q => h _ _ q | exact fun _ _ _ _ h q => (let ⟨v, e, z⟩ := q; ⟨v, e, h _ _ z⟩) | exact fun _ _ _ _ h q => (let ⟨v, e, u, f, z⟩ := q; ⟨v, e, u, f, h _ _ z⟩) | fail "no mono")
local macro_rules | `(tactic| fail "sm") => `(tactic| first | assumption | exact Same.refl _ | (with_reducible refine' Same.new ?h1 ?n1; (case n1 => assumption); (case h1 => fail "sm")) | (refine' Same.tr (by assumption) ?h1; (case h1 => fail "sm")) | fail "no sm")
local macro_rules | `(tactic| fail "fld") => `(tactic| first | (show 0 < 1000; decide) | (show 1 < 1000; decide) | fail "no fld")
local macro_rules | `(tactic| fail "kq") => `(tactic| first | assumption | exact Kq.refl | (with_reducible refine' Kq.at ?h1; (case h1 => fail "kq")) | (with_reducible refine' Kq.new ?h1 ?n1; (case n1 => assumption); (case h1 => fail "kq")) | (refine' Kq.trans ?h1 (by assumption); (case h1 => fail "kq")) | (refine' Kq.trans ?h1 (Kq.of (by assumption)); (case h1 => fail "kq")) | (refine' Kq.trans ?h1 (Kq.ofS (by assumption)); (case h1 => fail "kq")) | fail "no kq")
local macro_rules | `(tactic| fail "mo") => `(tactic| first | assumption | exact MemOk.take (by assumption) _ | exact MemOk.drop (by assumption) _ | exact every_ok _ | fail "no mo")

section
variable {P : Program} {w : World} {K : PySem.W.Frag} {mg : Str → Option Value} {base : Heap} {CN CI CU CT CS Pt : Addr} {mc mu : Value}


theorem odd_len (n : Nat) (xs : List Int) : (odd n xs).length ≤ xs.length := List.length_filter_le _ _
theorem not_chain {x : Int} {n : Nat} (h : 0 ≤ x → ¬ x < (n : Int)) : ¬ (0 ≤ x ∧ x < (n : Int)) := fun z => h z.1 z.2
def spReachIs (CN : Addr) : Sp := fun vs H Q _ => ∃ (a t s l : Addr) (n : Nat) (M ss ws : List Int) (R : Rel), vs = [.ref a, .int (n : Int), .ref t, .ref s, .ref l] ∧ NetAt CN H a n R ∧ H t = some (.lst (M.map V.int)) ∧ IsTab n M R ∧ H s = some (.lst (ss.map V.int)) ∧ H l = some (.lst (ws.map V.int)) ∧ ss.length ≤ 26 ∧ ws.length ≤ 26 ∧
  ∀ H', Same H H' → Q (.bl true) H'
abbrev sReachIs : Stmt := top 44
theorem scReachIs : FnScope ["net", "count", "table", "starts", "allowed", "strange", "turn", "first", "second", "told", "due", "rows", "x"] ["net", "count", "table", "starts", "allowed"] (defScope sReachIs) := ⟨rfl, rfl, rfl, by decide +kernel, rfl, by decide +kernel, by decide +kernel⟩
theorem ok_ReachIs (D : Df K mg "_law_reach_is" sReachIs ["net", "count", "table", "starts", "allowed"]) (T : LTx K mg CN CI CU CT CS mc mu) (GLawReach : C8.Cal P w K mg base 1 "_law_reach" spLawReach []) (GAsked : C8.Cal P w K mg base 8 "_law_asked" (spAsked CN) []) (GIsInt : C8.Cal P w K mg base 1 "_law_is_int" spIsInt []) (GIntsAre : C8.Cal P w K mg base 2 "_law_ints_are" spIntsAre []) : C8.Cal P w K mg base 10 "_law_reach_is" (spReachIs CN) [] := by
  obtain ⟨f, fd, F, hm, hb⟩ := D
  refine ⟨f, fd, ["net", "count", "table", "starts", "allowed"], [], F.ok scReachIs (fun vs H Q E h => ?_) (fun cdv A outer s H vs Q E hr h => ?_), hm, F.kp, hb, .nil⟩
  · obtain ⟨a, t, s0, l, n, M, ss, ws, R, rfl, na, ht, tb, hs, hl, ls, lw, k⟩ := h
    rfl
  · obtain ⟨a, t, s0, l, n, M, ss, ws, R, rfl, na, ht, tb, hs, hl, ls, lw, k⟩ := h
    have n2 := na.b2
    refine ⟨_, (pss_cons (ps_setLc (i := 5) (own := [("x", 12)]) (g := gName 12) rfl scReachIs.nd rfl rfl (sw_true rfl rfl rfl (by decide +kernel)) (pi_list (pe_op op_catI (pv 3) (pv 4))) (blkOk_by (N := ["net", "count", "table", "starts", "allowed", "strange", "turn", "first", "second", "told", "due", "rows", "x"]) (sc := defScope sReachIs) (by decide +kernel)) (fun _ _ _ _ _ => (pg_name (i := 12) scReachIs.nd rfl (Or.inl rfl))) (fun _ _ _ _ _ => (pts_one (pt_not (pt_chain op_le op_lt pe_int (pv 12) (pv 1))))) (fun _ _ _ _ _ => (pv 12)))
      (pss_cons (ps_for PassesOwn.never rfl (pi_range1 rfl T.range (pa_cons pe_int pa_nil)) (pg_name (i := 6) scReachIs.nd rfl (Or.inl rfl))
        (pss_cons (ps_set (i := 7) scReachIs.nd rfl (Or.inl rfl) (pe_callTy call_list_of (by rfl) T.list (by decide +kernel) (pa_cons (pv 3) pa_nil)))
        (pss_cons (ps_set (i := 8) scReachIs.nd rfl (Or.inl rfl) (pe_callTy call_list_of (by rfl) T.list (by decide +kernel) (pa_cons (pv 4) pa_nil)))
        (C8.pss_cut (ps_set (i := 9) scReachIs.nd rfl (Or.inl rfl) (C8.pe_c GAsked hr (by decide) (by rfl) (pa_cons (pv 0) (pa_cons (pv 7) (pa_cons (pv 8) pa_nil)))))
        (pss_cons (ps_if (PW.pt (pw_or (pt_cmpR (op_neD hr.units) (pv 7) (pv 3) (nomark _)) (pw_or1 (pt_cmpR (op_neD hr.units) (pv 8) (pv 4) (nomark _)))))
          (pss_one (ps_ret pe_bl))
          pss_nil)
        (pss_one (ps_if (pt_cmpR (op_neD hr.units) (pv 5) (pe_lst pa_nil) (nomark _))
          (pss_one (ps_if (PW.pt (pw_or (pt_val (pe_ix ix_tup (pv 9) pe_int (fun _ _ => rfl))) (pw_or (pt_not (pt_val (C8.pe_c GIsInt hr (by decide) (by rfl) (pa_cons (pe_ix ix_tup (pv 9) pe_int (fun _ _ => rfl)) pa_nil)))) (pw_or1 (pt_cmpR op_ne (pe_ix ix_tup (pv 9) pe_int (fun _ _ => rfl)) (pe_ix ix_I (pv 5) pe_int (fun _ _ => rfl)) (nomark _))))))
            (pss_one (ps_ret pe_bl))
            pss_nil))
          (pss_cons (ps_set (i := 10) scReachIs.nd rfl (Or.inl rfl) (C8.pe_c GLawReach hr (by decide) (by rfl) (pa_cons (pv 1) (pa_cons (pv 2) (pa_cons (pv 3) (pa_cons (pv 4) pa_nil))))))
          (pss_cons (ps_if (PW.pt (pw_or (pt_not (pt_val (pe_ix ix_tup (pv 9) pe_int (fun _ _ => rfl)))) (pw_or1 (pt_not (pt_val (C8.pe_c GIntsAre hr (by decide) (by rfl) (pa_cons (pe_ix ix_tup (pv 9) pe_int (fun _ _ => rfl)) (pa_cons (pv 10) pa_nil))))))))
            (pss_one (ps_ret pe_bl))
            pss_nil)
          (pss_cons (ps_set (i := 11) scReachIs.nd rfl (Or.inl rfl) (pe_ix ix_tup (pv 9) pe_int (fun _ _ => rfl)))
          (pss_cons (ps_expr (pe_bm0 PySem.F.plainAttrs_list PySem.F.slot_list_reverse PySem.F.type_list_reverse mt_reverse (pv 11)))
          (pss_cons (ps_expr (pe_bm PySem.F.plainAttrs_list PySem.F.slot_list_append PySem.F.type_list_append mt_append (pv 11) (pa_cons (pe_un un_neg pe_int) pa_nil)))
          (pss_one (ps_if (PW.pt (pw_or (pt_cmpR (op_neD hr.units) (pv 7) (pv 3) (nomark _)) (pw_or1 (pt_cmpR (op_neD hr.units) (pv 8) (pv 4) (nomark _)))))
            (pss_one (ps_ret pe_bl))
            pss_nil))))))))))))))
      (pss_one (ps_ret pe_bl)))), ?_⟩
    -- strange = [x for x in starts + allowed if not 0 <= x < count]
    refine ⟨_, rfl, _, rfl, _, _, _, _, rfl, rfl, (by fail "hp"), (by fail "hp"), (by fail "sz"), fun p1 np1 => ⟨_, rfl, ⟨_, SqL.of (by fail "hp")⟩, fun D1 nD1 => lc_list (K := K) (a := p1) (xs := (ss ++ ws).map V.int) (fun i H' => Same H H' ∧ H' D1 = some (.lst ((odd n ((ss ++ ws).take i)).map V.int)) ∧ H' p1 = some (.lst ((ss ++ ws).map V.int))) ⟨Same.new (Same.new (Same.refl _) np1) nD1, upd_same, upd_new upd_same nD1⟩ (fun i H' _ z => SqL.of z.2.2) (fun i x0 H' hx z => by
      obtain ⟨sm, hD, hP⟩ := z
      obtain ⟨x, ex, rfl⟩ := item_of hx
      have nDh : H D1 = none := free_back nD1 (Same.new (Same.refl _) np1)
      have neD : p1 ≠ D1 := ne_of_none (show upd H p1 (.lst ((ss ++ ws).map V.int)) p1 = some (.lst ((ss ++ ws).map V.int)) from upd_same) nD1
      have lo : (odd n ((ss ++ ws).take i)).length ≤ 60 := by
        have := odd_len n ((ss ++ ws).take i)
        rw [List.length_take, List.length_append] at this
        omega
      have yes : (0 ≤ x ∧ x < (n : Int)) → H' D1 = some (.lst ((odd n ((ss ++ ws).take (i + 1))).map V.int)) := fun b => by rw [odd_take ex, odd_ok b, List.append_nil]; exact hD
      have no : ¬ (0 ≤ x ∧ x < (n : Int)) → (odd n ((ss ++ ws).take i)).map V.int ++ [V.int x] = (odd n ((ss ++ ws).take (i + 1))).map V.int := fun b => by rw [odd_take ex, odd_no b, List.map_append]; rfl
      refine ⟨rfl, ?_⟩
      refine ⟨_, rfl, _, _, rfl, rfl, _, rfl, ?_⟩
      refine ifD (fun g1 => ?_) (fun g1 => ?_)
      · refine ⟨_, rfl, _, _, rfl, rfl, _, rfl, ?_⟩
        refine nifD (fun g2 => ?_) (fun g2 => ?_)
        · refine ⟨_, rfl, _, hD, Evl.sz_lt (by rw [List.length_map]; omega), Same.mut sm nDh, ?_, by rw [upd_ne neD]; exact hP⟩
          rw [upd_same, no (by omega)]
        · exact ⟨sm, yes (by omega), hP⟩
      · refine ⟨_, rfl, ?_⟩
        fail "ite"
        refine ⟨_, rfl, _, hD, Evl.sz_lt (by rw [List.length_map]; omega), Same.mut sm nDh, ?_, by rw [upd_ne neD]; exact hP⟩
        rw [upd_same, no (by omega)]) (fun H1 z => ?_)⟩⟩
    obtain ⟨sm1, h11, _⟩ := z
    rw [List.length_map, List.take_length] at h11
    have lo := odd_len n (ss ++ ws)
    rw [List.length_append] at lo
    -- for turn in range(2):
    refine ⟨_, rfl, (by fail "om"), (by fail "om"), for_range (fun i σ Hk => ∃ (u1 u2 u3 u4 u5 u6 : Option V), σ = [some (.ref a), some (.int (n : Int)), some (.ref t), some (.ref s0), some (.ref l), some (.ref D1), u1, u2, u3, u4, u5, u6, none] ∧ Same H Hk ∧ Hk D1 = some (.lst ((odd n (ss ++ ws)).map V.int))) ⟨_, _, _, _, _, _, rfl, sm1, h11⟩ ?_ ?_⟩
    · rintro i σ Hk hi ⟨u1, u2, u3, u4, u5, u6, rfl, smk, hk1⟩
      have htk := smk _ _ ht
      have hsk := smk _ _ hs
      have hlk := smk _ _ hl
      have nak := NetAt.same smk na
      -- first = list(starts)
      refine ⟨_, rfl, _, _, rfl, .inl (SqL.of (by fail "hp")), fun p2 np2 => ?_⟩
      -- second = list(allowed)
      refine ⟨_, rfl, _, _, rfl, .inl (SqL.of (by fail "hp")), fun p3 np3 => ?_⟩
      refine ⟨fun σ Hm => ∃ tt : Addr, σ = [some (.ref a), some (.int (n : Int)), some (.ref t), some (.ref s0), some (.ref l), some (.ref D1), some (.int (0 + (i : Int))), some (.ref p2), some (.ref p3), some (.ref tt), u5, u6, none] ∧ Same H Hm ∧ Hm D1 = some (.lst ((odd n (ss ++ ws)).map V.int)) ∧ Hm p2 = some (.lst (ss.map V.int)) ∧ Hm p3 = some (.lst (ws.map V.int)) ∧ ((odd n (ss ++ ws) = [] ∧ ∃ q, Hm tt = some (.tup [.bl true, .ref q]) ∧ Hm q = some (.lst ((rchL n R ss ws).map V.int)) ∧ H q = none ∧ p2 ≠ q ∧ p3 ≠ q ∧ D1 ≠ q) ∨ ∃ x r, odd n (ss ++ ws) = x :: r ∧ Hm tt = some (.tup [.bl false, .int x])), ?_, ?_⟩
      · -- told = _law_asked(net, first, second)
        refine ⟨_, rfl, _, rfl, _, rfl, _, _, _, _, _, _, _, rfl, (by fail "na"), (by fail "hp"), (by fail "hp"), fun od4 t4 q4 H4 nt4 nq4 sm4 ht4 hq4 => ?_, fun x4 r4 e4 t4 H4 nt4 sm4 ht4 => ⟨_, rfl, by fail "sm", by fail "hp", by fail "hp", by fail "hp", .inr ⟨_, _, e4, ht4⟩⟩⟩
        refine ⟨_, rfl, by fail "sm", by fail "hp", by fail "hp", by fail "hp", .inl ⟨od4, q4, ht4, hq4, free_back nq4 (by fail "sm"), (ne_of_none (show (upd (upd Hk p2 _) p3 _) p2 = some _ from by fail "hp") nq4), (ne_of_none (show (upd (upd Hk p2 _) p3 _) p3 = some _ from upd_same) nq4), (ne_of_none (show (upd (upd Hk p2 _) p3 _) D1 = some _ from by fail "hp") nq4)⟩⟩
      · rintro σ Hm ⟨tt, rfl, smm, hm1, hm2, hm3, td⟩
        have htm := smm _ _ ht
        have hsm := smm _ _ hs
        have hlm := smm _ _ hl
        -- if first != starts or second != allowed:
        refine ⟨_, rfl, _, rfl, _, _, (by fail "dp"), (by fail "dp"), (by fail "shp"), (by fail "shp"), _, rfl, ?_⟩
        refine nifB (fun g5 => ?_) (fun g5 => ?_)
        · fail "ite"
          -- return False
          exact absurd (eqv_ints _) (by rw [g5]; exact Bool.false_ne_true)
        · refine ⟨_, rfl, _, rfl, _, _, (by fail "dp"), (by fail "dp"), (by fail "shp"), (by fail "shp"), _, rfl, ?_⟩
          refine nifB (fun g6 => ?_) (fun g6 => ?_)
          · -- return False
            exact absurd (eqv_ints _) (by rw [g6]; exact Bool.false_ne_true)
          · -- if strange != []:
            refine ⟨_, rfl, (by fail "sz"), fun p7 np7 => ⟨_, _, (by fail "dp"), (by fail "dp"), (by fail "shp"), (by fail "shp"), _, rfl, ?_⟩⟩
            refine nifB (fun g8 => ?_) (fun g8 => ?_)
            · obtain ⟨x, r, ex, ht6⟩ : ∃ x r, odd n (ss ++ ws) = x :: r ∧ Hm tt = some (.tup [.bl false, .int x]) := by
                rcases td with ⟨e, _⟩ | h
                · rw [e] at g8
                  cases g8
                · exact h
              have ixs : atI ((odd n (ss ++ ws)).map V.int) 0 = some (V.int x) := by rw [ex]; exact ix0
              -- if told[0] or not _law_is_int(told[1]) or told[1] != strange[0]:
              refine ⟨_, rfl, _, _, _, _, rfl, rfl, SqT.of (by fail "hp"), (by fail "ix"), _, rfl, ?_⟩
              refine ifB (fun g9 => ?_) (fun g9 => ?_)
              · fail "ite"
                -- return False
                cases g9
              · refine ⟨_, rfl, _, _, _, _, rfl, rfl, SqT.of (by fail "hp"), (by fail "ix"), _, rfl, ⟨_, rfl, ?_⟩⟩
                fail "ite"
                refine ⟨_, rfl, _, _, _, _, rfl, rfl, SqT.of (by fail "hp"), (by fail "ix"), _, rfl, _, _, _, _, rfl, rfl, (by fail "hp"), (by fail "ix"), rfl, _, rfl, ?_⟩
                refine nifD (fun g11 => ?_) (fun g11 => ?_)
                · -- return False
                  exact absurd rfl g11
                · exact ⟨_, _, _, _, _, _, rfl, by fail "sm", by fail "hp"⟩
            · obtain ⟨e, q, ht6, hq, nq, nq2, nq3, nq1⟩ : odd n (ss ++ ws) = [] ∧ ∃ q, Hm tt = some (.tup [.bl true, .ref q]) ∧ Hm q = some (.lst ((rchL n R ss ws).map V.int)) ∧ H q = none ∧ p2 ≠ q ∧ p3 ≠ q ∧ D1 ≠ q := by
                rcases td with h | ⟨x, r, e, _⟩
                · exact h
                · rw [e] at g8
                  cases g8
              have lr : (rchL n R ss ws).length ≤ n := tells_len _ n
              have nqe : ∀ b o, H b = some o → b ≠ q := fun b o h z => by rw [z, nq] at h; cases h
              have nqs := nqe _ _ hs
              have nql := nqe _ _ hl
              have nqt := nqe _ _ ht
              -- due = _law_reach(count, table, starts, allowed)
              refine ⟨_, rfl, _, rfl, _, rfl, _, rfl, _, _, _, _, _, _, _, _, rfl, (by fail "om"), (by fail "hp"), (by assumption), (by fail "hp"), (by fail "hp"), fun p12 H12 np12 sm12 hp12 => ?_⟩
              -- if not told[0] or not _law_ints_are(told[1], due):
              refine ⟨_, rfl, _, _, _, _, rfl, rfl, SqT.of (by fail "hp"), (by fail "ix"), _, rfl, ?_⟩
              refine nifB (fun g13 => ?_) (fun g13 => ?_)
              · fail "ite"
                -- return False
                cases g13
              · refine ⟨_, rfl, _, _, _, _, rfl, rfl, SqT.of (by fail "hp"), (by fail "ix"), _, rfl, _, _, _, rfl, (by fail "hp"), (by fail "hp"), (by fail "om"), ⟨_, rfl, ?_⟩⟩
                fail "ite"
                -- rows = told[1]
                refine ⟨_, rfl, _, _, _, _, rfl, rfl, SqT.of (by fail "hp"), (by fail "ix"), ?_⟩
                -- rows.reverse()
                refine ⟨_, rfl, .inl ⟨rfl, _, SqL.of (by fail "hp")⟩, _, _, rfl, rfl, (by fail "hp"), ?_⟩
                -- rows.append(-1)
                refine ⟨_, rfl, .inl ⟨rfl, _, SqL.of (by fail "hp")⟩, _, rfl, _, _, _, rfl, rfl, (by fail "hp"), Evl.sz_lt (by rw [List.length_reverse, List.length_map]; omega), ?_⟩
                -- if first != starts or second != allowed:
                refine ⟨_, rfl, _, rfl, _, _, (by fail "dp"), (by fail "dp"), (by fail "shp"), (by fail "shp"), _, rfl, ?_⟩
                refine nifB (fun g15 => ?_) (fun g15 => ?_)
                · fail "ite"
                  -- return False
                  exact absurd (eqv_ints _) (by rw [g15]; exact Bool.false_ne_true)
                · refine ⟨_, rfl, _, rfl, _, _, (by fail "dp"), (by fail "dp"), (by fail "shp"), (by fail "shp"), _, rfl, ?_⟩
                  refine nifB (fun g16 => ?_) (fun g16 => ?_)
                  · -- return False
                    exact absurd (eqv_ints _) (by rw [g16]; exact Bool.false_ne_true)
                  · exact ⟨_, _, _, _, _, _, rfl, Same.mut (Same.mut (by fail "sm") nq) nq, by fail "hp"⟩
    · rintro σ Hk ⟨u1, u2, u3, u4, u5, u6, rfl, smk, hk1⟩
      -- return True
      exact k _ smk
end
end K01

end
section
set_option Elab.async false
set_option linter.all false
set_option maxRecDepth 100000
set_option maxHeartbeats 4000000
namespace K01
open PySem L2 Kit KR KX KI RM L2H
local macro_rules | `(tactic| fail "om") => `(tactic| first | omega | (simp only [List.length_map, List.length_append, List.length_cons, List.length_nil]; omega) | (simp only [List.length_map, List.length_append, List.length_cons, List.length_nil] at *; omega) | assumption | decide | (simp only [List.length_take, List.length_drop]; omega) | (rw [every_len]; omega) | fail "no om")
local macro_rules | `(tactic| fail "nz") => `(tactic| first | decide | omega | fail "no nz")
local macro_rules | `(tactic| fail "dv") => `(tactic| exact ⟨by first | decide | omega, by first | decide | omega⟩)
local macro_rules | `(tactic| fail "mul") => `(tactic| first | exact .inr ⟨by decide, by decide⟩ | exact .inl ⟨by decide, by decide⟩ | exact mulF (by decide) (by decide) | exact .inl ⟨by omega, by omega⟩ | exact .inr ⟨by omega, by omega⟩ | fail "no mul")
local macro_rules | `(tactic| fail "sz") => `(tactic| first | assumption | exact Nat.zero_le _ | (show 1 ≤ sizeLine; decide) | (show 2 ≤ sizeLine; decide) | (show 3 ≤ sizeLine; decide) | (show 4 ≤ sizeLine; decide) | (show 5 ≤ sizeLine; decide) | exact Evl.sz_of (by omega) | (refine Evl.sz_of ?_; simp only [List.length_append, List.length_map, List.length_cons, List.length_nil]; omega) | (refine Evl.sz_of ?_; simp only [List.length_append, List.length_map, List.length_cons, List.length_nil, List.length_take, List.length_drop]; omega) | fail "no sz")
local macro_rules | `(tactic| fail "szl") => `(tactic| first | exact Evl.sz_lt (by omega) | (refine Evl.sz_lt ?_; simp only [List.length_append, List.length_map, List.length_cons, List.length_nil]; omega) | fail "no szl")
local macro_rules | `(tactic| fail "ix") => `(tactic| first | assumption | exact ix0 | exact ix1 | exact ix2 | exact at_ref (by assumption) (by omega) | exact at_int (by assumption) (by omega) | exact at_drawn (by assumption) (by assumption) | exact at_lit (by first | assumption | omega) (by fail "om") | rfl | fail "no ix")
local macro_rules | `(tactic| fail "ixn") => `(tactic| first | rfl | assumption | fail "no ixn")
local macro_rules | `(tactic| fail "nb") => `(tactic| first | assumption | exact nb_tup | exact nb_nil | exact nb_ints | exact nb_refs | exact nb_ins | exact nb_dT | exact nb_frz | fail "no nb")
local macro_rules | `(tactic| fail "ne") => `(tactic| first | assumption | exact Ne.symm (by assumption) | exact ne_of_none (by assumption) (by assumption) | exact (ne_of_none (by assumption) (by assumption)).symm | exact ne_of (by assumption) (by assumption) (by intro q; cases q) | exact ne_of (by assumption) (by assumption) (by simp) | fail "no ne")
local macro_rules | `(tactic| fail "hp") => `(tactic| first | assumption | exact upd_same | exact lit0 | exact lit1 | exact lit3 | exact lit2 | (refine' Tk.get (by assumption) ?k1; (case k1 => fail "tk")) | (with_reducible refine' upd_new ?h1 ?n1; (case n1 => assumption); (case h1 => fail "hp")) | (refine' Same.get (by assumption) ?h1; (case h1 => fail "hp")) | (refine' Kp.get (by assumption) (by fail "bx") ?h1 ?d1; (case h1 => fail "hp"); (case d1 => fail "nb")) | (with_reducible refine' upd_oth ?h1 ?n1; (case n1 => fail "ne"); (case h1 => fail "hp")) | (with_reducible refine' upd_oth ?h1 ?n1; (case h1 => fail "hp"); (case n1 => fail "ne")) | (refine' Kq.get (by assumption) (by fail "bx") ?h1 ?d1 (by fail "ne"); (case h1 => fail "hp"); (case d1 => fail "nb")) | fail "no hp")
local macro_rules | `(tactic| fail "bx") => `(tactic| first | assumption | (with_reducible refine' BoxOk.new ?h1 ?n1; (case n1 => assumption); (case h1 => fail "bx")) | (refine' BoxOk.same (by assumption) ?h1; (case h1 => fail "bx")) | (with_reducible refine' BoxOk.mut ?h1 ?h2 ?n1; (case n1 => assumption); (case h2 => assumption); (case h1 => fail "bx")) | fail "no bx")
local macro_rules | `(tactic| fail "kp") => `(tactic| first | assumption | exact Kp.refl | (with_reducible refine' Kp.at ?h1; (case h1 => fail "kp")) | (with_reducible refine' Kp.new ?h1 ?n1; (case n1 => assumption); (case h1 => fail "kp")) | (with_reducible refine' Kp.mut ?h1 ?n1; (case n1 => assumption); (case h1 => fail "kp")) | (refine' Kp.tr (by assumption) ?h1; (case h1 => fail "kp")) | (refine' Kp.tr (Kp.of (by assumption)) ?h1; (case h1 => fail "kp")) | (refine' Kq.kp (by assumption) ?h1 (by assumption); (case h1 => fail "kp")) | fail "no kp")
local macro_rules | `(tactic| fail "ite") => `(tactic| first | refine iteT ?_ | refine iteF ?_)
local macro_rules | `(tactic| fail "tt") => `(tactic| first | rfl | exact decide_eq_true (by first | rfl | omega | assumption) | exact decide_eq_true (congrArg V.int (by first | rfl | omega)) | fail "no tt")
local macro_rules | `(tactic| fail "cv") => `(tactic| first | exact .ty _ | exact .own _)
local macro_rules | `(tactic| fail "tx") => `(tactic| first | exact .base (.int _) | exact .base (.bl _) | exact .base .non | exact .base (.lst (by fail "hp")) | exact .base (.tup (by fail "hp")) | fail "no tx")
local macro_rules | `(tactic| fail "dead") => `(tactic| (exfalso; first | omega | contradiction | simp_all))
local macro_rules | `(tactic| fail "dp") => `(tactic| first | exact .tup (SqT.of (by fail "hp")) (.cons (.int _) (.cons (.int _) .nil)) | exact .lst (SqL.of (by fail "hp")) (dpPrs (by fail "pr")) | exact .lst (SqL.of (by fail "hp")) (dpInts _) | exact .lst (SqL.of (by fail "hp")) .nil | fail "no dp")
local macro_rules | `(tactic| fail "shp") => `(tactic| first | assumption | exact prD_shaped _ | exact PySem.W.ke_shaped_ints _ | rfl | fail "no shp")
local macro_rules | `(tactic| fail "pr") => `(tactic| first | assumption | exact PrT.mono (by assumption) (by fail "tk") | fail "no pr")
local macro_rules | `(tactic| fail "tk") => `(tactic| first | assumption | exact Tk.refl | (with_reducible refine' Tk.new ?h1 ?n1; (case n1 => assumption); (case h1 => fail "tk")) | (refine' Tk.tr (Kp.tk (by assumption) (by fail "bx")) ?h1; (case h1 => fail "tk")) | (refine' Tk.tr (Same.tk (by assumption)) ?h1; (case h1 => fail "tk")) | (with_reducible refine' Tk.lst ?h1 ?n1; (case n1 => fail "hp"); (case h1 => fail "tk")) | fail "no tk")
local macro_rules | `(tactic| fail "lk") => `(tactic| first | exact netF_count _ _ | exact netF_links _ _ | exact netF_no _ _ (by decide +kernel) (by decide +kernel) | fail "no lk")
local macro_rules | `(tactic| fail "kt") => `(tactic| first | exact upd_same | assumption | fail "hp")
local macro_rules | `(tactic| fail "na") => `(tactic| first | assumption | (with_reducible refine' NetAt.new ?h1 ?n1; (case n1 => assumption); (case h1 => fail "na")) | (refine' NetAt.same (by assumption) ?h1; (case h1 => fail "na")) | (refine' NetAt.kp (by assumption) (by fail "bx") ?h1; (case h1 => fail "na")) | (with_reducible refine' NetAt.lst ?h1 ?n1; (case n1 => fail "hp"); (case h1 => fail "na")) | fail "no na")
local macro_rules | `(tactic| fail "mono") => `(tactic| first | exact fun _ _ _ _ h q => h _ _ q | exact fun _ _ _ _ h q => (let ⟨v, e, z⟩ := q; ⟨v, e, h _ _ z⟩) | exact fun _ _ _ _ h q => (let ⟨v, e, u, f, z⟩ := q; ⟨v, e, u, f, h _ _ z⟩) | fail "no mono")
local macro_rules | `(tactic| fail "sm") => `(tactic| first | assumption | exact Same.refl _ | (with_reducible refine' Same.new ?h1 ?n1; (case n1 => assumption); (case h1 => fail "sm")) | (refine' Same.tr (by assumption) ?h1; (case h1 => fail "sm")) | fail "no sm")
local macro_rules | `(tactic| fail "fld") => `(tactic| first | (show 0 < 1000; decide) | (show 1 < 1000; decide) | fail "no fld")
local macro_rules | `(tactic| fail "kq") => `(tactic| first | assumption | exact Kq.refl | (with_reducible refine' Kq.at ?h1; (case h1 => fail "kq")) | (with_reducible refine' Kq.new ?h1 ?n1; (case n1 => assumption); (case h1 => fail "kq")) | (refine' Kq.trans ?h1 (by assumption); (case h1 => fail "kq")) | (refine' Kq.trans ?h1 (Kq.of (by assumption)); (case h1 => fail "kq")) | (refine' Kq.trans ?h1 (Kq.ofS (by assumption)); (case h1 => fail "kq")) | fail "no kq")
local macro_rules | `(tactic| fail "mo") => `(tactic| first | assumption | exact MemOk.take (by assumption) _ | exact MemOk.drop (by assumption) _ | exact every_ok _ | fail "no mo")

section
variable {P : Program} {w : World} {K : PySem.W.Frag} {mg : Str → Option Value} {base : Heap} {CN CI CU CT CS Pt : Addr} {mc mu : Value}


theorem _root_.KI.Kq.net {C b P c a : Addr} {H H' : Hp} {n : Nat} {R : Rel} (k : Kq b P H H') (x : BoxOk H b c) (t : GxR.TabG H P) (na : NetAt C H a n R) : NetAt C H' a n R := by
  obtain ⟨⟨dx, d, h1, h2⟩, b1, b2, ir⟩ := na
  exact ⟨⟨dx, d, k.get x h1 nb_ins (tabG_ne t h1 fun _ z => nomatch z), k.get x h2 nb_dT (tabG_ne t h2 fun _ z => nomatch z)⟩, b1, b2, ir⟩
theorem _root_.KI.Kq.ints {b P c a : Addr} {H H' : Hp} {ns : List Int} (k : Kq b P H H') (x : BoxOk H b c) (t : GxR.TabG H P) (h : H a = some (.lst (ns.map V.int))) : H' a = some (.lst (ns.map V.int)) := k.get x h nb_ints (tabG_ne t h fun _ z => nomatch z)
theorem _root_.KI.Kq.of1 {b P : Addr} {H H' : Hp} (s : Sp1 P H H') : Kq b P H H' := fun a o _ m h => s a o m h
theorem tabG_kp {P b c : Addr} {H H' : Hp} (t : GxR.TabG H P) (k : Kp b H H') (x : BoxOk H b c) : GxR.TabG H' P := by
  have ne : b ≠ P := by
    obtain ⟨ms, x1, x2, x3, x4, hb, _⟩ := x
    exact tabG_ne t hb fun _ z => nomatch z
  obtain ⟨ps, h, q⟩ := t
  exact ⟨ps, k P _ ne.symm h, q⟩
def spNetIs (CN Pt : Addr) : Sp := fun vs H Q _ => ∃ (b bc a t : Addr) (n : Nat) (M : List Int) (R : Rel), vs = [.ref b, .ref a, .int (n : Int), .ref t] ∧ BoxOk H b bc ∧ NetAt CN H a n R ∧ H t = some (.lst (M.map V.int)) ∧ IsTab n M R ∧ GxR.TabG H Pt ∧
  ∀ H', Kq b Pt H H' → BoxOk H' b bc → GxR.TabG H' Pt → Q (.bl true) H'
abbrev sNetIs : Stmt := top 45
theorem scNetIs : FnScope ["box", "net", "count", "table", "turn", "starts", "allowed"] ["box", "net", "count", "table"] (defScope sNetIs) := ⟨rfl, rfl, rfl, by decide +kernel, rfl, by decide +kernel, by decide +kernel⟩
theorem ok_NetIs (D : Df K mg "_law_net_is" sNetIs ["box", "net", "count", "table"]) (T : LTx K mg CN CI CU CT CS mc mu) (GKindsAre : C8.Cal P w K mg base 12 "_law_kinds_are" (spKindsAre CN Pt) []) (GSome : C8.Cal P w K mg base 4 "_law_some" spSome []) (GReachIs : C8.Cal P w K mg base 10 "_law_reach_is" (spReachIs CN) []) : C8.Cal P w K mg base 14 "_law_net_is" (spNetIs CN Pt) [] := by
  obtain ⟨f, fd, F, hm, hb⟩ := D
  refine ⟨f, fd, ["box", "net", "count", "table"], [], F.ok scNetIs (fun vs H Q E h => ?_) (fun cdv A outer s H vs Q E hr h => ?_), hm, F.kp, hb, .nil⟩
  · obtain ⟨b, bc, a, t, n, M, R, rfl, bx, na, ht, tb, tg, k⟩ := h
    rfl
  · obtain ⟨b, bc, a, t, n, M, R, rfl, bx, na, ht, tb, tg, k⟩ := h
    have n1 := na.b1
    have n2 := na.b2
    refine ⟨_, (pss_cons (ps_if (pt_not (pt_val (C8.pe_c GKindsAre hr (by decide) (by rfl) (pa_cons (pv 1) (pa_cons (pv 2) (pa_cons (pv 3) pa_nil))))))
        (pss_one (ps_ret pe_bl))
        pss_nil)
      (pss_cons (ps_for PassesOwn.never rfl (pi_range1 rfl T.range (pa_cons pe_int pa_nil)) (pg_name (i := 4) scNetIs.nd rfl (Or.inl rfl))
        (pss_cons (ps_set (i := 5) scNetIs.nd rfl (Or.inl rfl) (C8.pe_c GSome hr (by decide) (by rfl) (pa_cons (pv 0) (pa_cons (pv 2) pa_nil))))
        (pss_cons (ps_set (i := 6) scNetIs.nd rfl (Or.inl rfl) (C8.pe_c GSome hr (by decide) (by rfl) (pa_cons (pv 0) (pa_cons (pv 2) pa_nil))))
        (pss_one (ps_if (pt_not (pt_val (C8.pe_c GReachIs hr (by decide) (by rfl) (pa_cons (pv 1) (pa_cons (pv 2) (pa_cons (pv 3) (pa_cons (pv 5) (pa_cons (pv 6) pa_nil))))))))
          (pss_one (ps_ret pe_bl))
          pss_nil)))))
      (pss_one (ps_ret pe_bl)))), ?_⟩
    -- if not _law_kinds_are(net, count, table):
    refine ⟨_, rfl, _, rfl, _, rfl, _, _, _, _, _, rfl, (by fail "na"), (by fail "hp"), (by assumption), (by assumption), fun H1 sp1 tp1 => ⟨_, rfl, ?_⟩⟩
    fail "ite"
    -- for turn in range(2):
    refine ⟨_, rfl, (by fail "om"), (by fail "om"), for_range (fun i σ Hk => ∃ (u1 u2 u3 : Option V), σ = [some (.ref b), some (.ref a), some (.int (n : Int)), some (.ref t), u1, u2, u3] ∧ Kq b Pt H Hk ∧ BoxOk Hk b bc ∧ GxR.TabG Hk Pt) ⟨_, _, _, rfl, Kq.of1 sp1, Sp1.box sp1 tg bx, tp1⟩ ?_ ?_⟩
    · rintro i σ Hk hi ⟨u1, u2, u3, rfl, kqk, bxk, tgk⟩
      have nak := kqk.net bx tg na
      have htk := kqk.ints bx tg ht
      -- starts = _law_some(box, count)
      refine ⟨_, rfl, _, rfl, _, _, _, rfl, (by fail "bx"), (by fail "om"), (by fail "om"), fun p2 ns2 H2 ls2 kp2 bx2 np2 hp2 => ?_⟩
      -- allowed = _law_some(box, count)
      refine ⟨_, rfl, _, rfl, _, _, _, rfl, (by fail "bx"), (by fail "om"), (by fail "om"), fun p3 ns3 H3 ls3 kp3 bx3 np3 hp3 => ?_⟩
      -- if not _law_reach_is(net, count, table, starts, allowed):
      refine ⟨_, rfl, _, rfl, _, rfl, _, rfl, _, rfl, _, _, _, _, _, _, _, _, _, rfl, (by fail "na"), (by fail "hp"), (by assumption), (by fail "hp"), (by fail "hp"), (by fail "om"), (by fail "om"), fun H4 sm4 => ⟨_, rfl, ?_⟩⟩
      fail "ite"
      exact ⟨_, _, _, rfl, ((kqk.trans (Kq.of kp2)).trans (Kq.of kp3)).trans (Kq.ofS sm4), BoxOk.same sm4 bx3, tabG_same sm4 (tabG_kp (tabG_kp tgk kp2 bxk) kp3 bx2)⟩
    · rintro σ Hk ⟨u1, u2, u3, rfl, kqk, bxk, tgk⟩
      -- return True
      exact k _ kqk bxk tgk
end
end K01

end
section
set_option Elab.async false
set_option linter.all false
set_option maxRecDepth 100000
set_option maxHeartbeats 4000000
namespace K01
open PySem L2 Kit KR KX KI RM L2H
local macro_rules | `(tactic| fail "om") => `(tactic| first | omega | (simp only [List.length_map, List.length_append, List.length_cons, List.length_nil]; omega) | (simp only [List.length_map, List.length_append, List.length_cons, List.length_nil] at *; omega) | assumption | decide | (simp only [List.length_take, List.length_drop]; omega) | (rw [every_len]; omega) | fail "no om")
local macro_rules | `(tactic| fail "nz") => `(tactic| first | decide | omega | fail "no nz")
local macro_rules | `(tactic| fail "dv") => `(tactic| exact ⟨by first | decide | omega, by first | decide | omega⟩)
local macro_rules | `(tactic| fail "mul") => `(tactic| first | exact .inr ⟨by decide, by decide⟩ | exact .inl ⟨by decide, by decide⟩ | exact mulF (by decide) (by decide) | exact .inl ⟨by omega, by omega⟩ | exact .inr ⟨by omega, by omega⟩ | fail "no mul")
local macro_rules | `(tactic| fail "sz") => `(tactic| first | assumption | exact Nat.zero_le _ | (show 1 ≤ sizeLine; decide) | (show 2 ≤ sizeLine; decide) | (show 3 ≤ sizeLine; decide) | (show 4 ≤ sizeLine; decide) | (show 5 ≤ sizeLine; decide) | exact Evl.sz_of (by omega) | (refine Evl.sz_of ?_; simp only [List.length_append, List.length_map, List.length_cons, List.length_nil]; omega) | (refine Evl.sz_of ?_; simp only [List.length_append, List.length_map, List.length_cons, List.length_nil, List.length_take, List.length_drop]; omega) | fail "no sz")
local macro_rules | `(tactic| fail "szl") => `(tactic| first | exact Evl.sz_lt (by omega) | (refine Evl.sz_lt ?_; simp only [List.length_append, List.length_map, List.length_cons, List.length_nil]; omega) | fail "no szl")
local macro_rules | `(tactic| fail "ix") => `(tactic| first | assumption | exact ix0 | exact ix1 | exact ix2 | exact at_ref (by assumption) (by omega) | exact at_int (by assumption) (by omega) | exact at_drawn (by assumption) (by assumption) | exact at_lit (by first | assumption | omega) (by fail "om") | rfl | fail "no ix")
local macro_rules | `(tactic| fail "ixn") => `(tactic| first | rfl | assumption | fail "no ixn")
local macro_rules | `(tactic| fail "nb") => `(tactic| first | assumption | exact nb_tup | exact nb_nil | exact nb_ints | exact nb_refs | exact nb_ins | exact nb_dT | exact nb_frz | fail "no nb")
local macro_rules | `(tactic| fail "ne") => `(tactic| first | assumption | exact Ne.symm (by assumption) | exact ne_of_none (by assumption) (by assumption) | exact (ne_of_none (by assumption) (by assumption)).symm | exact ne_of (by assumption) (by assumption) (by intro q; cases q) | exact ne_of (by assumption) (by assumption) (by simp) | fail "no ne")
local macro_rules | `(tactic| fail "hp") => `(tactic| first | assumption | exact upd_same | exact lit0 | exact lit1 | exact lit3 | exact lit2 | (refine' Tk.get (by assumption) ?k1; (case k1 => fail "tk")) | (with_reducible refine' upd_new ?h1 ?n1; (case n1 => assumption); (case h1 => fail "hp")) | (refine' Same.get (by assumption) ?h1; (case h1 => fail "hp")) | (refine' Kp.get (by assumption) (by fail "bx") ?h1 ?d1; (case h1 => fail "hp"); (case d1 => fail "nb")) | (with_reducible refine' upd_oth ?h1 ?n1; (case n1 => fail "ne"); (case h1 => fail "hp")) | (with_reducible refine' upd_oth ?h1 ?n1; (case h1 => fail "hp"); (case n1 => fail "ne")) | (refine' Kq.get (by assumption) (by fail "bx") ?h1 ?d1 (by fail "ne"); (case h1 => fail "hp"); (case d1 => fail "nb")) | fail "no hp")
local macro_rules | `(tactic| fail "bx") => `(tactic| first | assumption | (with_reducible refine' BoxOk.new ?h1 ?n1; (case n1 => assumption); (case h1 => fail "bx")) | (refine' BoxOk.same (by assumption) ?h1; (case h1 => fail "bx")) | (with_reducible refine' BoxOk.mut ?h1 ?h2 ?n1; (case n1 => assumption); (case h2 => assumption); (case h1 => fail "bx")) | fail "no bx")
local macro_rules | `(tactic| fail "kp") => `(tactic| first | assumption | exact Kp.refl | (with_reducible refine' Kp.at ?h1; (case h1 => fail "kp")) | (with_reducible refine' Kp.new ?h1 ?n1; (case n1 => assumption); (case h1 => fail "kp")) | (with_reducible refine' Kp.mut ?h1 ?n1; (case n1 => assumption); (case h1 => fail "kp")) | (refine' Kp.tr (by assumption) ?h1; (case h1 => fail "kp")) | (refine' Kp.tr (Kp.of (by assumption)) ?h1; (case h1 => fail "kp")) | (refine' Kq.kp (by assumption) ?h1 (by assumption); (case h1 => fail "kp")) | fail "no kp")
local macro_rules | `(tactic| fail "ite") => `(tactic| first | refine iteT ?_ | refine iteF ?_)
local macro_rules | `(tactic| fail "tt") => `(tactic| first | rfl | exact decide_eq_true (by first | rfl | omega | assumption) | exact decide_eq_true (congrArg V.int (by first | rfl | omega)) | fail "no tt")
local macro_rules | `(tactic| fail "cv") => `(tactic| first | exact .ty _ | exact .own _)
local macro_rules | `(tactic| fail "tx") => `(tactic| first | exact .base (.int _) | exact .base (.bl _) | exact .base .non | exact .base (.lst (by fail "hp")) | exact .base (.tup (by fail "hp")) | fail "no tx")
local macro_rules | `(tactic| fail "dead") => `(tactic| (exfalso; first | omega | contradiction | simp_all))
local macro_rules | `(tactic| fail "dp") => `(tactic| first | exact .tup (SqT.of (by fail "hp")) (.cons (.int _) (.cons (.int _) .nil)) | exact .lst (SqL.of (by fail "hp")) (dpPrs (by fail "pr")) | exact .lst (SqL.of (by fail "hp")) (dpInts _) | exact .lst (SqL.of (by fail "hp")) .nil | fail "no dp")
local macro_rules | `(tactic| fail "shp") => `(tactic| first | assumption | exact prD_shaped _ | exact PySem.W.ke_shaped_ints _ | rfl | fail "no shp")
local macro_rules | `(tactic| fail "pr") => `(tactic| first | assumption | exact PrT.mono (by assumption) (by fail "tk") | fail "no pr")
local macro_rules | `(tactic| fail "tk") => `(tactic| first | assumption | exact Tk.refl | (with_reducible refine' Tk.new ?h1 ?n1; (case n1 => assumption); (case h1 => fail "tk")) | (refine' Tk.tr (Kp.tk (by assumption) (by fail "bx")) ?h1; (case h1 => fail "tk")) | (refine' Tk.tr (Same.tk (by assumption)) ?h1; (case h1 => fail "tk")) | (with_reducible refine' Tk.lst ?h1 ?n1; (case n1 => fail "hp"); (case h1 => fail "tk")) | fail "no tk")
local macro_rules | `(tactic| fail "lk") => `(tactic| first | exact netF_count _ _ | exact netF_links _ _ | exact netF_no _ _ (by decide +kernel) (by decide +kernel) | fail "no lk")
local macro_rules | `(tactic| fail "kt") => `(tactic| first | exact upd_same | assumption | fail "hp")
local macro_rules | `(tactic| fail "na") => `(tactic| first | assumption | (with_reducible refine' NetAt.new ?h1 ?n1; (case n1 => assumption); (case h1 => fail "na")) | (refine' NetAt.same (by assumption) ?h1; (case h1 => fail "na")) | (refine' NetAt.kp (by assumption) (by fail "bx") ?h1; (case h1 => fail "na")) | (with_reducible refine' NetAt.lst ?h1 ?n1; (case n1 => fail "hp"); (case h1 => fail "na")) | fail "no na")
local macro_rules | `(tactic| fail "mono") => `(tactic| first | exact fun _ _ _ _ h q => h _ _ q | exact fun _ _ _ _ h q => (let ⟨v, e, z⟩ := q; ⟨v, e, h _ _ z⟩) | exact fun _ _ _ _ h q => (let ⟨v, e, u, f, z⟩ := q; ⟨v, e, u, f, h _ _ z⟩) | fail "no mono")
local macro_rules | `(tactic| fail "sm") => `(tactic| first | assumption | exact Same.refl _ | (with_reducible refine' Same.new ?h1 ?n1; (case n1 => assumption); (case h1 => fail "sm")) | (refine' Same.tr (by assumption) ?h1; (case h1 => fail "sm")) | fail "no sm")
local macro_rules | `(tactic| fail "fld") => `(tactic| first | (show 0 < 1000; decide) | (show 1 < 1000; decide) | fail "no fld")
local macro_rules | `(tactic| fail "kq") => `(tactic| first | assumption | exact Kq.refl | (with_reducible refine' Kq.at ?h1; (case h1 => fail "kq")) | (with_reducible refine' Kq.new ?h1 ?n1; (case n1 => assumption); (case h1 => fail "kq")) | (refine' Kq.trans ?h1 (by assumption); (case h1 => fail "kq")) | (refine' Kq.trans ?h1 (Kq.of (by assumption)); (case h1 => fail "kq")) | (refine' Kq.trans ?h1 (Kq.ofS (by assumption)); (case h1 => fail "kq")) | fail "no kq")
local macro_rules | `(tactic| fail "mo") => `(tactic| first | assumption | exact MemOk.take (by assumption) _ | exact MemOk.drop (by assumption) _ | exact every_ok _ | fail "no mo")

section
variable {P : Program} {w : World} {K : PySem.W.Frag} {mg : Str → Option Value} {base : Heap} {CN CI CU CL CT CS Pt : Addr} {mc mu : Value}



def bentR (R : Rel) (x y : Nat) (th : Int) : Rel := fun u v => if u = x ∧ v = y then decide (th = 0) else R u v
theorem bent_ir {n x y : Nat} {R : Rel} {th : Int} (ir : ∀ x y, x < n → y < n → R x y = true → x ≠ y) (ne : x ≠ y) : ∀ u v, u < n → v < n → bentR R x y th u v = true → u ≠ v := fun u v hu hv q => by
  unfold bentR at q
  by_cases e : u = x ∧ v = y
  · rw [e.1, e.2]
    exact ne
  · rw [if_neg e] at q
    exact ir u v hu hv q
theorem rel_prs {n : Nat} {R : Rel} (ir : ∀ x y, x < n → y < n → R x y = true → x ≠ y) : ∀ x y, x < n → y < n → relP (prs R 1 (every n) (every n)) false x y = R x y := fun x y hx hy => by
  rw [Bool.eq_iff_iff, relP_iff, mem_prs]
  constructor
  · rintro (⟨_, _, _, h⟩ | h)
    · exact bit_one.mp h
    · exact absurd h.1 Bool.false_ne_true
  · intro r
    have := ir x y hx hy r
    exact .inl ⟨mem_every.mpr ⟨by show (0 : Int) ≤ x; omega, by show (x : Int) < n; omega⟩, mem_every.mpr ⟨by show (0 : Int) ≤ y; omega, by show (y : Int) < n; omega⟩, by show (x : Int) ≠ y; omega, bit_one.mpr r⟩
theorem hit_nat {x y u v : Nat} : hitP ((x : Int), (y : Int)) u v = true ↔ u = x ∧ v = y := by
  rw [hit_iff]
  constructor
  · intro h
    have e1 : (u : Int) = (x : Int) := congrArg Prod.fst h
    have e2 : (v : Int) = (y : Int) := congrArg Prod.snd h
    omega
  · rintro ⟨rfl, rfl⟩
    rfl
theorem bent_less (R : Rel) (x y : Nat) : ∀ u v : Nat, lessR R ((x : Int), (y : Int)) u v = bentR R x y 1 u v := fun u v => by
  unfold lessR bentR
  by_cases e : u = x ∧ v = y
  · rw [if_pos e, hit_nat.mpr e, Bool.not_true, Bool.and_false]
    rfl
  · rw [if_neg e, Bool.eq_false_iff.mpr fun q => e (hit_nat.mp q), Bool.not_false, Bool.and_true]
theorem bent_more (R : Rel) (x y : Nat) : ∀ u v : Nat, moreR R ((x : Int), (y : Int)) u v = bentR R x y 0 u v := fun u v => by
  unfold moreR bentR
  by_cases e : u = x ∧ v = y
  · rw [if_pos e, hit_nat.mpr e, Bool.or_true]
    rfl
  · rw [if_neg e, Bool.eq_false_iff.mpr fun q => e (hit_nat.mp q), Bool.or_false]
theorem kq_free {b c p P : Addr} {H H1 : Hp} (k : Kq b P H H1) (t : GxR.TabG H1 P) (x : BoxOk H1 b c) (h : H1 p = none) : H p = none := by
  cases e : H p with
  | none => rfl
  | some o =>
    have ne : p ≠ b := fun z => by
      obtain ⟨ms, x1, x2, x3, x4, hb, _⟩ := x
      rw [z, hb] at h
      cases h
    have ne2 : p ≠ P := fun z => by
      obtain ⟨ps, q, _⟩ := t
      rw [z, q] at h
      cases h
    rw [k p o ne ne2 e] at h
    cases h
theorem tabG_new {P p : Addr} {H0 H : Hp} {o : HO} (t : GxR.TabG H P) (t0 : GxR.TabG H0 P) (n : H0 p = none) : GxR.TabG (upd H p o) P := by
  obtain ⟨ps, h, q⟩ := t
  obtain ⟨_, h0, _⟩ := t0
  exact ⟨ps, by rw [upd_ne (ne_of_none h0 n)]; exact h, q⟩
def spNear (CN Pt : Addr) : Sp := fun vs H Q _ => ∃ (b bc a t : Addr) (n : Nat) (M : List Int) (R : Rel) (th : Int), vs = [.ref b, .ref a, .int (n : Int), .ref t, .int th] ∧ BoxOk H b bc ∧ NetAt CN H a n R ∧ H t = some (.lst (M.map V.int)) ∧ IsTab n M R ∧ GxR.TabG H Pt ∧ (th = 1 ∨ th = 0) ∧
  ∀ H', Kq b Pt H H' → BoxOk H' b bc → GxR.TabG H' Pt → Q (.bl true) H'
abbrev sNear : Stmt := top 46
theorem scNear : FnScope ["box", "net", "count", "table", "there", "everyone", "pairs", "pair", "bent", "near", "k"] ["box", "net", "count", "table", "there"] (defScope sNear) := ⟨rfl, rfl, rfl, by decide +kernel, rfl, by decide +kernel, by decide +kernel⟩
theorem ok_Near (D : Df K mg "_law_near" sNear ["box", "net", "count", "table", "there"]) (T : LTx K mg CN CI CU CT CS mc mu) (GDraw : C8.Cal P w K mg base 1 "_law_draw" spDraw []) (GPairs : C8.Cal P w K mg base 1 "_law_pairs" spPairs []) (KNet : MakX P w K mg base 5 "Net" CN (spInit CN CI)) (Nwithout_link : MetX P w K mg base 7 CN "without_link" (spWithout CN CL)) (Nwith_link : MetX P w K mg base 7 CN "with_link" (spWith CN CI)) (GNetIs : C8.Cal P w K mg base 14 "_law_net_is" (spNetIs CN Pt) []) : C8.Cal P w K mg base 16 "_law_near" (spNear CN Pt) [] := by
  obtain ⟨f, fd, F, hm, hb⟩ := D
  refine ⟨f, fd, ["box", "net", "count", "table", "there"], [], F.ok scNear (fun vs H Q E h => ?_) (fun cdv A outer s H vs Q E hr h => ?_), hm, F.kp, hb, .nil⟩
  · obtain ⟨b, bc, a, t, n, M, R, th, rfl, bx, na, ht, tb, tg, hth, k⟩ := h
    rfl
  · obtain ⟨b, bc, a, t, n, M, R, th, rfl, bx, na, ht, tb, tg, hth, k⟩ := h
    have n1 := na.b1
    have n2 := na.b2
    have ir := na.ir
    have na0 := na
    obtain ⟨⟨dx, d, ha, hd⟩, _⟩ := na0
    refine ⟨_, (pss_cons (ps_setLc (i := 5) (own := [("k", 10)]) (g := gName 10) (tt := tYes) rfl scNear.nd rfl rfl (sw_true rfl rfl rfl (by decide +kernel)) (pi_range1 rfl T.range (pa_cons (pv 2) pa_nil)) (blkOk_by (N := ["box", "net", "count", "table", "there", "everyone", "pairs", "pair", "bent", "near", "k"]) (sc := defScope sNear) (by decide +kernel)) (fun _ _ _ _ _ => (pg_name (i := 10) scNear.nd rfl (Or.inl rfl))) (fun _ _ _ _ _ => pts_nil) (fun _ _ _ _ _ => (pv 10)))
      (pss_cons (ps_set (i := 6) scNear.nd rfl (Or.inl rfl) (C8.pe_c GPairs hr (by decide) (by rfl) (pa_cons (pv 2) (pa_cons (pv 3) (pa_cons (pv 5) (pa_cons (pv 4) pa_nil))))))
      (pss_cons (ps_if (pt_cmpR (op_eqD hr.units) (pv 6) (pe_lst pa_nil) (nomark _))
        (pss_one (ps_ret pe_bl))
        pss_nil)
      (pss_cons (ps_set (i := 7) scNear.nd rfl (Or.inl rfl) (pe_ix ix_list (pv 6) (C8.pe_c GDraw hr (by decide) (by rfl) (pa_cons (pv 0) (pa_cons (pe_callB call_len_seq (by rfl) T.len (by decide +kernel) (pa_cons (pv 6) pa_nil)) pa_nil))) (fun _ _ => rfl)))
      (pss_cons (ps_set (i := 8) scNear.nd rfl (Or.inl rfl) (pe_callTy call_list_of (by rfl) T.list (by decide +kernel) (pa_cons (pv 3) pa_nil)))
      (pss_cons (ps_asg (pe_op op_sub pe_int (pv 4)) (pg_sub (pv 8) (pe_op op_add (pe_op op_mul (pe_ix ix_tup (pv 7) pe_int (fun _ _ => rfl)) (pv 2)) (pe_ix ix_tup (pv 7) pe_int (fun _ _ => rfl))) set_I))
      (C8.pss_cut (ps_if (pt_cmpR op_eq (C8.pe_c GDraw hr (by decide) (by rfl) (pa_cons (pv 0) (pa_cons pe_int pa_nil))) pe_int (nomark _))
        (pss_one (ps_set (i := 9) scNear.nd rfl (Or.inl rfl) (pe_mkX KNet hr (by decide) (by rfl) passL (pa_cons (pv 2) (pa_cons (C8.pe_c GPairs hr (by decide) (by rfl) (pa_cons (pv 2) (pa_cons (pv 8) (pa_cons (pv 5) (pa_cons pe_int pa_nil))))) pa_nil)))))
        (pss_one (ps_if (pt_cmpR op_eq (pv 4) pe_int (nomark _))
          (pss_one (ps_set (i := 9) scNear.nd rfl (Or.inl rfl) (pe_mx Nwithout_link hr (by decide) passL (pv 1) (pa_cons (pe_ix ix_tup (pv 7) pe_int (fun _ _ => rfl)) (pa_cons (pe_ix ix_tup (pv 7) pe_int (fun _ _ => rfl)) pa_nil)))))
          (pss_one (ps_set (i := 9) scNear.nd rfl (Or.inl rfl) (pe_mx Nwith_link hr (by decide) passL (pv 1) (pa_cons (pe_ix ix_tup (pv 7) pe_int (fun _ _ => rfl)) (pa_cons (pe_ix ix_tup (pv 7) pe_int (fun _ _ => rfl)) pa_nil))))))))
      (pss_one (ps_ret (C8.pe_c GNetIs hr (by decide) (by rfl) (pa_cons (pv 0) (pa_cons (pv 9) (pa_cons (pv 2) (pa_cons (pv 8) pa_nil)))))))))))))), ?_⟩
    -- everyone = [k for k in range(count)]
    refine ⟨_, rfl, _, rfl, (by fail "om"), (by fail "om"), fun D1 nD1 => lc_range (lo := 0) (n := ((n : Int)).toNat) (fun i H' => Same H H' ∧ H' D1 = some (.lst ((every i).map V.int))) ⟨Same.new (Same.refl _) nD1, upd_same⟩ (fun i H' hi z => by
      obtain ⟨sm, hD⟩ := z
      have hl : (every i).length ≤ 24 := by rw [every_len]; omega
      refine ⟨rfl, ?_⟩
      unfold tYes
      refine iteT ?_
      refine ⟨_, rfl, _, hD, Evl.sz_lt (by rw [List.length_map]; omega), Same.mut sm nD1, ?_⟩
      rw [upd_same, every_succ, List.map_append, Int.zero_add]
      rfl) (fun HE z => ?_)⟩
    obtain ⟨smE, hE⟩ := z
    rw [Int.toNat_natCast] at hE
    have lE : (every n).length ≤ 24 := by rw [every_len]; exact n2
    -- pairs = _law_pairs(count, table, everyone, there)
    refine ⟨_, rfl, _, rfl, _, rfl, _, rfl, _, _, _, _, _, _, _, rfl, (by fail "om"), (by fail "hp"), (by assumption), (by fail "hp"), (by fail "mo"), (by fail "om"), fun p1 as1 H1 sm1 np1 hp1 pt1 => ?_⟩
    have smA : Same H H1 := smE.trans sm1
    have bxA := BoxOk.same smA bx
    have tgA := tabG_same smA tg
    -- if pairs == []:
    refine ⟨_, rfl, (by fail "sz"), fun p2 np2 => ⟨_, _, (by fail "dp"), (by fail "dp"), (by fail "shp"), (by fail "shp"), _, rfl, ?_⟩⟩
    refine ifB (fun g3 => ?_) (fun g3 => ?_)
    · -- return True
      exact k _ ((Kq.ofS smA).new np2) (BoxOk.new bxA np2) (tabG_same (Same.new (Same.refl _) np2) tgA)
    · have e1 : 1 ≤ as1.length := by rw [pt1.1]; exact prd_nil g3
      have l1 : as1.length ≤ 576 := by rw [pt1.1]; exact prs_576 R th lE
      -- pair = pairs[_law_draw(box, len(pairs))]
      refine ⟨_, rfl, _, rfl, _, rfl, _, _, rfl, .inl (SqL.of (by fail "hp")), _, _, _, rfl, (by fail "bx"), (by fail "om"), (by fail "om"), fun d4 H4 da4 db4 kp4 bx4 => ⟨_, _, _, _, rfl, rfl, SqL.of (by fail "hp"), (by fail "ix"), ?_⟩⟩
      have dlt : d4.toNat < (prs R th (every n) (every n)).length := by
        rw [← pt1.1]
        simp only [List.length_map] at db4
        omega
      have bxB := BoxOk.new (o := .lst []) bxA np2
      have ptj := PrT.mono pt1 (Tk.tr (Kp.tk kp4 bxB) (Tk.new Tk.refl np2))
      obtain ⟨q, x1, y1, ea, ep, hta⟩ := ptj.at dlt
      have eg : as1.getD d4.toNat 0 = q := by rw [List.getD_eq_getElem?_getD, ea]; rfl
      rw [eg]
      obtain ⟨_, _, g3c, g4c⟩ := mem_prs.mp (List.mem_of_getElem? ep)
      have hg := prs_good (every_ok n) _ (List.mem_of_getElem? ep)
      obtain ⟨x, ex, hx⟩ := toN (n := n) (x := x1) hg.1 hg.2.1
      obtain ⟨y, ey, hy⟩ := toN (n := n) (x := y1) hg.2.2.1 hg.2.2.2.1
      subst ex
      subst ey
      have g4c : bitI R x y = th := g4c
      have ne : x ≠ y := fun z => g3c (by show (x : Int) = y; rw [z])
      have kqA : Kq b Pt H H4 := (Kq.ofS smA).trans (((Kq.refl (b := b) (t := Pt)).new np2).trans (Kq.of kp4))
      have nP2 : H1 p2 = none := np2
      have tg4 : GxR.TabG H4 Pt := tabG_kp (tabG_same (Same.new (Same.refl _) np2) tgA) kp4 bxB
      have ht4 := kqA.ints bx tg ht
      have hE4 : H4 D1 = some (.lst ((every n).map V.int)) := kp4.get bxB (upd_new (sm1 _ _ hE) np2) nb_ints
      -- bent = list(table)
      refine ⟨_, rfl, _, _, rfl, .inl (SqL.of (by fail "hp")), fun p5 np5 => ?_⟩
      have in1 := ixT tb.len hx hy
      have h5 : upd H4 p5 (.lst (M.map V.int)) p5 = some (.lst (M.map V.int)) := upd_same
      have hta5 := upd_new (o := .lst (M.map V.int)) hta np5
      have n5 : H p5 = none := kq_free kqA tg4 bx4 np5
      have tb2 : IsTab n (M.set (x * n + y) (1 - th)) (bentR R x y th) := tb.set hx hy (decide (th = 0)) (by rcases hth with e | e <;> rw [e] <;> rfl)
      have ir2 := bent_ir (th := th) ir ne
      -- bent[pair[0] * count + pair[1]] = 1 - there
      refine ⟨_, rfl, _, _, rfl, rfl, _, rfl, _, rfl, _, _, _, _, rfl, rfl, SqT.of (by fail "hp"), (by fail "ix"), _, rfl, _, _, rfl, rfl, (by fail "mul"), _, rfl, _, _, _, _, rfl, rfl, SqT.of (by fail "hp"), (by fail "ix"), _, _, rfl, rfl, _, _, _, _, _, rfl, rfl, rfl, (by fail "hp"), (by fail "ixn"), ?_⟩
      refine ⟨fun σ Hm => ∃ a2 : Addr, σ = [some (.ref b), some (.ref a), some (.int (n : Int)), some (.ref t), some (.int th), some (.ref D1), some (.ref p1), some (.ref q), some (.ref p5), some (.ref a2), none] ∧ Kq b Pt H Hm ∧ BoxOk Hm b bc ∧ GxR.TabG Hm Pt ∧ NetAt CN Hm a2 n (bentR R x y th) ∧ Hm p5 = some (.lst ((M.set (x * n + y) (1 - th)).map V.int)), ?_, ?_⟩
      · obtain ⟨H5, e5⟩ : ∃ H5, H5 = upd (upd H4 p5 (.lst (M.map V.int))) p5 (.lst ((M.set (x * n + y) (1 - th)).map V.int)) := ⟨_, rfl⟩
        rw [← e5]
        have kq5 : Kq b Pt H H5 := by rw [e5]; exact Kq.mut (Kq.mut kqA n5) n5
        have bx5 : BoxOk H5 b bc := by rw [e5]; exact BoxOk.mut (BoxOk.mut bx4 bx n5) bx n5
        have tg5 : GxR.TabG H5 Pt := by rw [e5]; exact tabG_new (tabG_new tg4 tg n5) tg n5
        have hE5 : H5 D1 = some (.lst ((every n).map V.int)) := by rw [e5, upd_ne (ne_of_none hE4 np5), upd_ne (ne_of_none hE4 np5)]; exact hE4
        have htb5 : H5 q = some (.tup [.int (x : Int), .int (y : Int)]) := by rw [e5, upd_ne (ne_of_none hta np5), upd_ne (ne_of_none hta np5)]; exact hta
        have h5p : H5 p5 = some (.lst ((M.set (x * n + y) (1 - th)).map V.int)) := by rw [e5]; exact upd_same
        clear e5
        -- if _law_draw(box, 2) == 0:
        refine ⟨_, rfl, _, _, _, rfl, (by fail "bx"), (by fail "om"), (by fail "om"), fun d6 H6 da6 db6 kp6 bx6 => ⟨rfl, _, rfl, ?_⟩⟩
        refine ifEqI (fun g7 => ?_) (fun g7 => ?_)
        · have kq6 := kq5.trans (Kq.of kp6)
          have tg6 := tabG_kp tg5 kp6 bx5
          have h6p := kp6.get bx5 h5p nb_ints
          have hE6 := kp6.get bx5 hE5 nb_ints
          -- near = Net(count, _law_pairs(count, bent, everyone, 1))
          refine ⟨_, rfl, _, rfl, _, rfl, _, rfl, _, _, _, _, _, _, _, rfl, (by fail "om"), (by fail "hp"), (by assumption), (by fail "hp"), (by fail "mo"), (by fail "om"), fun p9 as9 H9 sm9 np9 hp9 pt9 => fun x8 dx8 nx8 ndx8 nex8 => mk_init1 nx8 ndx8 nex8 (by fail "hp") (by fail "pr") (by rw [pt9.1]; exact Nat.lt_of_le_of_lt (prs_576 _ _ lE) (by decide)) (fun n8 e8 c8 d8 g8 H8 sm8 nt8 => ?_) (fun z => absurd (show (1 : Int) ≤ (n : Int) ∧ (n : Int) ≤ 24 by omega) z) (fun m e _ _ => by obtain rfl : n = m := (by omega); exact BadRow.none (prs_good (every_ok n)))⟩
          obtain rfl : n = n8 := by omega
          exact ⟨_, rfl, kq6.trans (Kq.ofS (sm9.trans sm8)), BoxOk.same (sm9.trans sm8) bx6, tabG_same (sm9.trans sm8) tg6, NetAt.congr nt8 (rel_prs ir2), (sm9.trans sm8) _ _ h6p⟩
        · have kq6 := kq5.trans (Kq.of kp6)
          have tg6 := tabG_kp tg5 kp6 bx5
          have h6p := kp6.get bx5 h5p nb_ints
          have ha6 := kq6.get bx ha nb_ins (tabG_ne tg ha fun _ z => nomatch z)
          have htb6 := kp6.get bx5 htb5 nb_tup
          have na6 := kq6.net bx tg na
          -- if there == 1:
          refine ⟨_, rfl, rfl, _, rfl, ?_⟩
          refine ifEqI (fun g10 => ?_) (fun g10 => ?_)
          · -- near = net.without_link(pair[0], pair[1])
            refine ⟨_, rfl, _, _, _, rfl, (by fail "hp"), (by fail "lk"), _, rfl, _, _, _, _, rfl, rfl, SqT.of (by fail "hp"), (by fail "ix"), _, rfl, _, _, _, _, rfl, rfl, SqT.of (by fail "hp"), (by fail "ix"), _, _, _, _, _, rfl, (by fail "na"), fun gd11 a11 H11 na11 sm11 nt11 => ?_, fun z => absurd ((has_nat hx hy).mpr (bit_one.mp (g4c.trans g10))) z⟩
            exact ⟨_, rfl, kq6.trans (Kq.ofS sm11), BoxOk.same sm11 bx6, tabG_same sm11 tg6, NetAt.congr nt11 (fun u v _ _ => by rw [g10]; exact bent_less R x y u v), sm11 _ _ h6p⟩
          · -- near = net.with_link(pair[0], pair[1])
            refine ⟨_, rfl, _, _, _, rfl, (by fail "hp"), (by fail "lk"), _, rfl, _, _, _, _, rfl, rfl, SqT.of (by fail "hp"), (by fail "ix"), _, rfl, _, _, _, _, rfl, rfl, SqT.of (by fail "hp"), (by fail "ix"), _, _, _, _, _, rfl, (by fail "na"), fun gd12 a12 H12 na12 sm12 nt12 => ?_, fun z => absurd hg z⟩
            exact ⟨_, rfl, kq6.trans (Kq.ofS sm12), BoxOk.same sm12 bx6, tabG_same sm12 tg6, NetAt.congr nt12 (fun u v _ _ => by rw [hth.resolve_left g10]; exact bent_more R x y u v), sm12 _ _ h6p⟩
      · rintro σ Hm ⟨a2, rfl, kqm, bxm, tgm, nam, h5m⟩
        -- return _law_net_is(box, near, count, bent)
        refine ⟨_, rfl, _, rfl, _, rfl, _, rfl, _, _, _, _, _, _, _, rfl, (by fail "bx"), (by assumption), (by fail "hp"), (by assumption), (by assumption), fun H13 kq13 bx13 tp13 => ?_⟩
        exact k _ (kqm.trans kq13) bx13 tp13
end
end K01

end
section
set_option Elab.async false
set_option linter.all false
set_option maxRecDepth 100000
set_option maxHeartbeats 4000000
namespace K01
open PySem L2 Kit KR KX KI RM L2H
local macro_rules | `(tactic| fail "om") => `(tactic| first | omega | (simp only [List.length_map, List.length_append, List.length_cons, List.length_nil]; omega) | (simp only [List.length_map, List.length_append, List.length_cons, List.length_nil] at *; omega) | assumption | decide | (simp only [List.length_take, List.length_drop]; omega) | (rw [every_len]; omega) | fail "no om")
local macro_rules | `(tactic| fail "nz") => `(tactic| first | decide | omega | fail "no nz")
local macro_rules | `(tactic| fail "dv") => `(tactic| exact ⟨by first | decide | omega, by first | decide | omega⟩)
local macro_rules | `(tactic| fail "mul") => `(tactic| first | exact .inr ⟨by decide, by decide⟩ | exact .inl ⟨by decide, by decide⟩ | exact mulF (by decide) (by decide) | exact .inl ⟨by omega, by omega⟩ | exact .inr ⟨by omega, by omega⟩ | fail "no mul")
local macro_rules | `(tactic| fail "sz") => `(tactic| first | assumption | exact Nat.zero_le _ | (show 1 ≤ sizeLine; decide) | (show 2 ≤ sizeLine; decide) | (show 3 ≤ sizeLine; decide) | (show 4 ≤ sizeLine; decide) | (show 5 ≤ sizeLine; decide) | exact Evl.sz_of (by omega) | (refine Evl.sz_of ?_; simp only [List.length_append, List.length_map, List.length_cons, List.length_nil]; omega) | (refine Evl.sz_of ?_; simp only [List.length_append, List.length_map, List.length_cons, List.length_nil, List.length_take, List.length_drop]; omega) | fail "no sz")
local macro_rules | `(tactic| fail "szl") => `(tactic| first | exact Evl.sz_lt (by omega) | (refine Evl.sz_lt ?_; simp only [List.length_append, List.length_map, List.length_cons, List.length_nil]; omega) | fail "no szl")
local macro_rules | `(tactic| fail "ix") => `(tactic| first | assumption | exact ix0 | exact ix1 | exact ix2 | exact at_ref (by assumption) (by omega) | exact at_int (by assumption) (by omega) | exact at_drawn (by assumption) (by assumption) | exact at_lit (by first | assumption | omega) (by fail "om") | rfl | fail "no ix")
local macro_rules | `(tactic| fail "ixn") => `(tactic| first | rfl | assumption | fail "no ixn")
local macro_rules | `(tactic| fail "nb") => `(tactic| first | assumption | exact nb_tup | exact nb_nil | exact nb_ints | exact nb_refs | exact nb_ins | exact nb_dT | exact nb_frz | fail "no nb")
local macro_rules | `(tactic| fail "ne") => `(tactic| first | assumption | exact Ne.symm (by assumption) | exact ne_of_none (by assumption) (by assumption) | exact (ne_of_none (by assumption) (by assumption)).symm | exact ne_of (by assumption) (by assumption) (by intro q; cases q) | exact ne_of (by assumption) (by assumption) (by simp) | fail "no ne")
local macro_rules | `(tactic| fail "hp") => `(tactic| first | assumption | exact upd_same | exact lit0 | exact lit1 | exact lit3 | exact lit2 | (refine' Tk.get (by assumption) ?k1; (case k1 => fail "tk")) | (with_reducible refine' upd_new ?h1 ?n1; (case n1 => assumption); (case h1 => fail "hp")) | (refine' Same.get (by assumption) ?h1; (case h1 => fail "hp")) | (refine' Kp.get (by assumption) (by fail "bx") ?h1 ?d1; (case h1 => fail "hp"); (case d1 => fail "nb")) | (with_reducible refine' upd_oth ?h1 ?n1; (case n1 => fail "ne"); (case h1 => fail "hp")) | (with_reducible refine' upd_oth ?h1 ?n1; (case h1 => fail "hp"); (case n1 => fail "ne")) | (refine' Kq.get (by assumption) (by fail "bx") ?h1 ?d1 (by fail "ne"); (case h1 => fail "hp"); (case d1 => fail "nb")) | fail "no hp")
local macro_rules | `(tactic| fail "bx") => `(tactic| first | assumption | (with_reducible refine' BoxOk.new ?h1 ?n1; (case n1 => assumption); (case h1 => fail "bx")) | (refine' BoxOk.same (by assumption) ?h1; (case h1 => fail "bx")) | (with_reducible refine' BoxOk.mut ?h1 ?h2 ?n1; (case n1 => assumption); (case h2 => assumption); (case h1 => fail "bx")) | fail "no bx")
local macro_rules | `(tactic| fail "kp") => `(tactic| first | assumption | exact Kp.refl | (with_reducible refine' Kp.at ?h1; (case h1 => fail "kp")) | (with_reducible refine' Kp.new ?h1 ?n1; (case n1 => assumption); (case h1 => fail "kp")) | (with_reducible refine' Kp.mut ?h1 ?n1; (case n1 => assumption); (case h1 => fail "kp")) | (refine' Kp.tr (by assumption) ?h1; (case h1 => fail "kp")) | (refine' Kp.tr (Kp.of (by assumption)) ?h1; (case h1 => fail "kp")) | (refine' Kq.kp (by assumption) ?h1 (by assumption); (case h1 => fail "kp")) | fail "no kp")
local macro_rules | `(tactic| fail "ite") => `(tactic| first | refine iteT ?_ | refine iteF ?_)
local macro_rules | `(tactic| fail "tt") => `(tactic| first | rfl | exact decide_eq_true (by first | rfl | omega | assumption) | exact decide_eq_true (congrArg V.int (by first | rfl | omega)) | fail "no tt")
local macro_rules | `(tactic| fail "cv") => `(tactic| first | exact .ty _ | exact .own _)
local macro_rules | `(tactic| fail "tx") => `(tactic| first | exact .base (.int _) | exact .base (.bl _) | exact .base .non | exact .base (.lst (by fail "hp")) | exact .base (.tup (by fail "hp")) | fail "no tx")
local macro_rules | `(tactic| fail "dead") => `(tactic| (exfalso; first | omega | contradiction | simp_all))
local macro_rules | `(tactic| fail "dp") => `(tactic| first | exact .tup (SqT.of (by fail "hp")) (.cons (.int _) (.cons (.int _) .nil)) | exact .lst (SqL.of (by fail "hp")) (dpPrs (by fail "pr")) | exact .lst (SqL.of (by fail "hp")) (dpInts _) | exact .lst (SqL.of (by fail "hp")) .nil | fail "no dp")
local macro_rules | `(tactic| fail "shp") => `(tactic| first | assumption | exact prD_shaped _ | exact PySem.W.ke_shaped_ints _ | rfl | fail "no shp")
local macro_rules | `(tactic| fail "pr") => `(tactic| first | assumption | exact PrT.mono (by assumption) (by fail "tk") | fail "no pr")
local macro_rules | `(tactic| fail "tk") => `(tactic| first | assumption | exact Tk.refl | (with_reducible refine' Tk.new ?h1 ?n1; (case n1 => assumption); (case h1 => fail "tk")) | (refine' Tk.tr (Kp.tk (by assumption) (by fail "bx")) ?h1; (case h1 => fail "tk")) | (refine' Tk.tr (Same.tk (by assumption)) ?h1; (case h1 => fail "tk")) | (with_reducible refine' Tk.lst ?h1 ?n1; (case n1 => fail "hp"); (case h1 => fail "tk")) | fail "no tk")
local macro_rules | `(tactic| fail "lk") => `(tactic| first | exact netF_count _ _ | exact netF_links _ _ | exact netF_no _ _ (by decide +kernel) (by decide +kernel) | fail "no lk")
local macro_rules | `(tactic| fail "kt") => `(tactic| first | exact upd_same | assumption | fail "hp")
local macro_rules | `(tactic| fail "na") => `(tactic| first | assumption | (with_reducible refine' NetAt.new ?h1 ?n1; (case n1 => assumption); (case h1 => fail "na")) | (refine' NetAt.same (by assumption) ?h1; (case h1 => fail "na")) | (refine' NetAt.kp (by assumption) (by fail "bx") ?h1; (case h1 => fail "na")) | (with_reducible refine' NetAt.lst ?h1 ?n1; (case n1 => fail "hp"); (case h1 => fail "na")) | fail "no na")
local macro_rules | `(tactic| fail "mono") => `(tactic| first | exact fun _ _ _ _ h q => h _ _ q | exact fun _ _ _ _ h q => (let ⟨v, e, z⟩ := q; ⟨v, e, h _ _ z⟩) | exact fun _ _ _ _ h q => (let ⟨v, e, u, f, z⟩ := q; ⟨v, e, u, f, h _ _ z⟩) | fail "no mono")
local macro_rules | `(tactic| fail "sm") => `(tactic| first | assumption | exact Same.refl _ | (with_reducible refine' Same.new ?h1 ?n1; (case n1 => assumption); (case h1 => fail "sm")) | (refine' Same.tr (by assumption) ?h1; (case h1 => fail "sm")) | fail "no sm")
local macro_rules | `(tactic| fail "fld") => `(tactic| first | (show 0 < 1000; decide) | (show 1 < 1000; decide) | fail "no fld")
local macro_rules | `(tactic| fail "kq") => `(tactic| first | assumption | exact Kq.refl | (with_reducible refine' Kq.at ?h1; (case h1 => fail "kq")) | (with_reducible refine' Kq.new ?h1 ?n1; (case n1 => assumption); (case h1 => fail "kq")) | (refine' Kq.trans ?h1 (by assumption); (case h1 => fail "kq")) | (refine' Kq.trans ?h1 (Kq.of (by assumption)); (case h1 => fail "kq")) | (refine' Kq.trans ?h1 (Kq.ofS (by assumption)); (case h1 => fail "kq")) | fail "no kq")
local macro_rules | `(tactic| fail "mo") => `(tactic| first | assumption | exact MemOk.take (by assumption) _ | exact MemOk.drop (by assumption) _ | exact every_ok _ | fail "no mo")

section
variable {P : Program} {w : World} {K : PySem.W.Frag} {mg : Str → Option Value} {base : Heap} {CN CI CU CL CT CS Pt : Addr} {mc mu : Value}




theorem cut_fromR {as : List Addr} {d : Int} (h : 0 ≤ d) : cutV (as.map V.ref) (some d) none = (as.drop d.toNat).map V.ref := by
  have e : HT.sIx (as.map V.ref).length 0 (some d) = min d.toNat as.length := by
    show (if d < 0 then _ else _) = _
    rw [if_neg (by omega), List.length_map]
  unfold cutV
  rw [e]
  show ((as.map V.ref).drop (min d.toNat as.length)).take ((as.map V.ref).length - min d.toNat as.length) = _
  rw [← List.map_drop, ← List.map_take]
  congr 1
  by_cases q : d.toNat ≤ as.length
  · rw [Nat.min_eq_left q, List.take_of_length_le (by rw [List.length_map, List.length_drop]; omega)]
  · rw [Nat.min_eq_right (by omega), List.drop_of_length_le (Nat.le_refl _), List.drop_of_length_le (by omega), List.take_nil]
theorem cut_toR {as : List Addr} {d : Int} (h : 0 ≤ d) : cutV (as.map V.ref) none (some d) = (as.take d.toNat).map V.ref := by
  have e : HT.sIx (as.map V.ref).length (as.map V.ref).length (some d) = min d.toNat as.length := by
    show (if d < 0 then _ else _) = _
    rw [if_neg (by omega), List.length_map]
  unfold cutV
  rw [e]
  show ((as.map V.ref).drop 0).take (min d.toNat as.length - 0) = _
  have e2 : as.take (min d.toNat as.length) = as.take d.toNat := List.take_eq_take_iff.mpr (by omega)
  rw [List.drop_zero, Nat.sub_zero, ← List.map_take, e2]
theorem mem_rot {α : Type} {xs : List α} {k : Nat} {x : α} : x ∈ xs.drop k ++ xs.take k ↔ x ∈ xs := by
  rw [List.mem_append]
  constructor
  · rintro (h | h)
    · exact List.mem_of_mem_drop h
    · exact List.mem_of_mem_take h
  · intro h
    rw [← List.take_append_drop k xs, List.mem_append] at h
    exact h.symm
theorem rel_rot {n k : Nat} {R : Rel} (ir : ∀ x y, x < n → y < n → R x y = true → x ≠ y) : ∀ x y, x < n → y < n → relP ((prs R 1 (every n) (every n)).drop k ++ (prs R 1 (every n) (every n)).take k) false x y = R x y := fun x y hx hy => by
  rw [← rel_prs ir x y hx hy, Bool.eq_iff_iff, relP_iff, relP_iff, mem_rot, mem_rot]
def spLaw (K : PySem.W.Frag) (Pt : Addr) : Sp := fun vs H Q _ => ∃ (a : Addr) (ns : List Int), vs = [.ref a] ∧ SqL K H a (ns.map V.int) ∧ ns.length ≤ 63 ∧ GxR.TabG H Pt ∧ ∀ H', Q (.bl true) H'
abbrev sLaw : Stmt := top 47
theorem scLaw : FnScope ["script", "box", "count", "table", "pairs", "at", "net", "k"] ["script"] (defScope sLaw) := ⟨rfl, rfl, rfl, by decide +kernel, rfl, by decide +kernel, by decide +kernel⟩
theorem fn_Law {f : Addr} {fd : FuncData} (F : L2.Fun K "law" "law" sLaw f fd) (T : LTx K mg CN CI CU CT CS mc mu) (GDraw : C8.Cal P w K mg base 1 "_law_draw" spDraw []) (GPairs : C8.Cal P w K mg base 1 "_law_pairs" spPairs []) (GBox : C8.Cal P w K mg base 1 "_law_box" (spBox K) []) (GStep : C8.Cal P w K mg base 1 "_law_step" spStep []) (GCount : C8.Cal P w K mg base 2 "_law_count" spCount []) (GWorld : C8.Cal P w K mg base 4 "_law_world" spWorld []) (KNet : MakX P w K mg base 5 "Net" CN (spInit CN CI)) (GNetIs : C8.Cal P w K mg base 14 "_law_net_is" (spNetIs CN Pt) []) (GNear : C8.Cal P w K mg base 16 "_law_near" (spNear CN Pt) []) (GKindsAre : C8.Cal P w K mg base 12 "_law_kinds_are" (spKindsAre CN Pt) []) : FnOk P w K mg base CX0 18 f fd ["script"] (spLaw K Pt) := by
  refine F.ok scLaw (fun vs H Q E h => ?_) (fun cdv A outer s H vs Q E hr h => ?_)
  · obtain ⟨a, ns, rfl, hS, lns, tg, kQ⟩ := h
    rfl
  · obtain ⟨a, ns, rfl, hS, lns, tg, kQ⟩ := h
    refine ⟨_, (pss_cons (ps_set (i := 1) scLaw.nd rfl (Or.inl rfl) (C8.pe_c GBox hr (by decide) (by rfl) (pa_cons (pv 0) pa_nil)))
      (pss_cons (ps_expr (C8.pe_c GStep hr (by decide) (by rfl) (pa_cons (pv 1) pa_nil)))
      (pss_cons (ps_set (i := 2) scLaw.nd rfl (Or.inl rfl) (C8.pe_c GCount hr (by decide) (by rfl) (pa_cons (pv 1) pa_nil)))
      (pss_cons (ps_set (i := 3) scLaw.nd rfl (Or.inl rfl) (C8.pe_c GWorld hr (by decide) (by rfl) (pa_cons (pv 1) (pa_cons (pv 2) pa_nil))))
      (pss_cons (ps_set (i := 4) scLaw.nd rfl (Or.inl rfl) (C8.pe_c GPairs hr (by decide) (by rfl) (pa_cons (pv 2) (pa_cons (pv 3) (pa_cons (pe_lc (own := [("k", 7)]) (g := gName 7) (tt := tYes) rfl scLaw.nd (pi_range1 rfl T.range (pa_cons (pv 2) pa_nil)) (blkOk_by (N := ["script", "box", "count", "table", "pairs", "at", "net", "k"]) (sc := defScope sLaw) (by decide +kernel)) (fun _ _ _ _ _ => (pg_name (i := 7) scLaw.nd rfl (Or.inl rfl))) (fun _ _ _ _ _ => pts_nil) (fun _ _ _ _ _ => (pv 7))) (pa_cons pe_int pa_nil))))))
      (pss_cons (ps_set (i := 5) scLaw.nd rfl (Or.inl rfl) (C8.pe_c GDraw hr (by decide) (by rfl) (pa_cons (pv 1) (pa_cons (pe_op op_add (pe_callB call_len_seq (by rfl) T.len (by decide +kernel) (pa_cons (pv 4) pa_nil)) pe_int) pa_nil))))
      (pss_cons (ps_set (i := 6) scLaw.nd rfl (Or.inl rfl) (pe_mkX KNet hr (by decide) (by rfl) passL (pa_cons (pv 2) (pa_cons (pe_op op_cat (pe_slice sl_list (pv 4) (po_some (pv 5)) po_none) (pe_slice sl_list (pv 4) po_none (po_some (pv 5)))) pa_nil))))
      (pss_cons (ps_expr (C8.pe_c GStep hr (by decide) (by rfl) (pa_cons (pv 1) pa_nil)))
      (pss_cons (ps_if (pt_not (pt_val (C8.pe_c GNetIs hr (by decide) (by rfl) (pa_cons (pv 1) (pa_cons (pv 6) (pa_cons (pv 2) (pa_cons (pv 3) pa_nil)))))))
        (pss_one (ps_ret pe_bl))
        pss_nil)
      (pss_cons (ps_expr (C8.pe_c GStep hr (by decide) (by rfl) (pa_cons (pv 1) pa_nil)))
      (pss_cons (ps_if (pt_not (pt_val (C8.pe_c GNear hr (by decide) (by rfl) (pa_cons (pv 1) (pa_cons (pv 6) (pa_cons (pv 2) (pa_cons (pv 3) (pa_cons pe_int pa_nil))))))))
        (pss_one (ps_ret pe_bl))
        pss_nil)
      (pss_cons (ps_expr (C8.pe_c GStep hr (by decide) (by rfl) (pa_cons (pv 1) pa_nil)))
      (pss_cons (ps_if (pt_not (pt_val (C8.pe_c GNear hr (by decide) (by rfl) (pa_cons (pv 1) (pa_cons (pv 6) (pa_cons (pv 2) (pa_cons (pv 3) (pa_cons pe_int pa_nil))))))))
        (pss_one (ps_ret pe_bl))
        pss_nil)
      (pss_one (ps_ret (C8.pe_c GKindsAre hr (by decide) (by rfl) (pa_cons (pv 6) (pa_cons (pv 2) (pa_cons (pv 3) pa_nil))))))))))))))))))), ?_⟩
    -- box = _law_box(script)
    refine ⟨_, rfl, _, _, rfl, hS, lns, fun b1 bc1 H1 nb1 sm1 bx1 => ?_⟩
    -- _law_step(box)
    refine ⟨_, rfl, _, _, rfl, (by fail "bx"), fun H2 kp2 bx2 => ?_⟩
    -- count = _law_count(box)
    refine ⟨_, rfl, _, _, rfl, (by fail "bx"), fun n3 H3 na3 nb3 kp3 bx3 => ?_⟩
    obtain ⟨n, rfl, c1, c2⟩ : ∃ n : Nat, n3 = n ∧ 1 ≤ n ∧ n ≤ 24 := ⟨n3.toNat, by omega, by omega, by omega⟩
    have tg3 := tabG_kp (tabG_kp (tabG_same sm1 tg) kp2 bx1) kp3 bx2
    -- table = _law_world(box, count)
    refine ⟨_, rfl, _, rfl, _, _, _, rfl, (by fail "bx"), (by fail "om"), (by fail "om"), fun t4 M4 H4 tb4 kp4 bx4 nt4 ht4 => ?_⟩
    obtain ⟨R, tb, ir⟩ := id tb4
    have tg4 := tabG_kp tg3 kp4 bx3
    -- pairs = _law_pairs(count, table, [k for k in range(count)], 1)
    refine ⟨_, rfl, _, rfl, _, rfl, _, rfl, (by fail "om"), (by fail "om"), fun D1 nD1 => lc_range (lo := 0) (n := ((n : Int)).toNat) (fun i H' => Same H4 H' ∧ H' D1 = some (.lst ((every i).map V.int))) ⟨Same.new (Same.refl _) nD1, upd_same⟩ (fun i H' hi z => by
      obtain ⟨sm, hD⟩ := z
      have hl : (every i).length ≤ 24 := by rw [every_len]; omega
      refine ⟨rfl, ?_⟩
      unfold tYes
      refine iteT ?_
      refine ⟨_, rfl, _, hD, Evl.sz_lt (by rw [List.length_map]; omega), Same.mut sm nD1, ?_⟩
      rw [upd_same, every_succ, List.map_append, Int.zero_add]
      rfl) (fun HE z => ?_)⟩
    obtain ⟨smE, hE⟩ := z
    rw [Int.toNat_natCast] at hE
    have lE : (every n).length ≤ 24 := by rw [every_len]; exact c2
    refine ⟨_, _, _, _, _, _, _, rfl, (by fail "om"), (by fail "hp"), (by assumption), (by fail "hp"), (by fail "mo"), (by fail "om"), fun p5 as5 H5 sm5 np5 hp5 pt5 => ?_⟩
    have l5 : as5.length ≤ 576 := by rw [pt5.1]; exact prs_576 R 1 lE
    have smS : Same H4 H5 := smE.trans sm5
    have tg5 := tabG_same smS tg4
    have bx5 := BoxOk.same smS bx4
    -- at = _law_draw(box, len(pairs) + 1)
    refine ⟨_, rfl, _, rfl, _, _, rfl, .inl (SqL.of (by fail "hp")), _, _, rfl, rfl, _, _, _, rfl, (by fail "bx"), (by fail "om"), (by fail "om"), fun d6 H6 da6 db6 kp6 bx6 => ?_⟩
    have ptl := pt5.1
    have tg6 := tabG_kp tg5 kp6 bx5
    have ht6 := kp6.get bx5 (smS _ _ ht4) nb_ints
    -- net = Net(count, pairs[at:] + pairs[:at])
    refine ⟨_, rfl, _, rfl, _, rfl, _, rfl, _, _, rfl, SqL.of (by fail "hp"), fun p10 np10 => ⟨_, rfl, _, rfl, _, rfl, _, _, rfl, SqL.of (by fail "hp"), fun p9 np9 => ⟨_, _, _, _, rfl, rfl, (by fail "hp"), (by fail "hp"), (by rw [cut_fromR da6, cut_toR da6, List.length_map, List.length_map, List.length_drop, List.length_take]; exact Evl.sz_of (by omega)), fun p8 np8 => fun x7 dx7 nx7 ndx7 nex7 => mk_init1 nx7 ndx7 nex7 (as := as5.drop d6.toNat ++ as5.take d6.toNat) (by rw [upd_same, cut_fromR da6, cut_toR da6, List.map_append]) (PrT.mono ((pt5.drop d6.toNat).append (pt5.take d6.toNat)) (by fail "tk")) (by rw [List.length_append, List.length_drop, List.length_take]; omega) (fun n7 e7 c7 d7 g7 H7 sm7 nt7 => ?_) (fun z => absurd (show (1 : Int) ≤ (n : Int) ∧ (n : Int) ≤ 24 by omega) z) (fun m e _ _ => by obtain rfl : n = m := (by omega); exact BadRow.none (fun q hq => prs_good (every_ok n) q (mem_rot.mp hq)))⟩⟩⟩
    -- _law_step(box)
    refine ⟨_, rfl, _, _, rfl, (by fail "bx"), fun H11 kp11 bx11 => ?_⟩
    obtain rfl : n = n7 := by omega
    have smN : Same H6 H7 := (Same.new (Same.new (Same.new (Same.refl _) np10) np9) np8).trans sm7
    have bx7 := BoxOk.same smN bx6
    have tg7 := tabG_same smN tg6
    have ht7 := smN _ _ ht6
    have na7 : NetAt CN H7 x7 n R := NetAt.congr nt7 (rel_rot (k := d6.toNat) ir)
    clear nt7
    have kqa : Kq b1 Pt H7 H11 := Kq.of kp11
    have na11 := kqa.net bx7 tg7 na7
    have ht11 := kqa.ints bx7 tg7 ht7
    have tg11 := tabG_kp tg7 kp11 bx7
    -- if not _law_net_is(box, net, count, table):
    refine ⟨_, rfl, _, rfl, _, rfl, _, rfl, _, _, _, _, _, _, _, rfl, (by fail "bx"), (by assumption), (by fail "hp"), (by assumption), (by assumption), fun H12 kq12 bx12 tp12 => ⟨_, rfl, ?_⟩⟩
    fail "ite"
    -- _law_step(box)
    refine ⟨_, rfl, _, _, rfl, (by fail "bx"), fun H13 kp13 bx13 => ?_⟩
    have kqb : Kq b1 Pt H11 H13 := kq12.trans (Kq.of kp13)
    have na13 := kqb.net bx11 tg11 na11
    have ht13 := kqb.ints bx11 tg11 ht11
    have tg13 := tabG_kp tp12 kp13 bx12
    -- if not _law_near(box, net, count, table, 1):
    refine ⟨_, rfl, _, rfl, _, rfl, _, rfl, _, _, _, _, _, _, _, _, rfl, (by fail "bx"), (by assumption), (by fail "hp"), (by assumption), (by assumption), (by first | exact .inl rfl | exact .inr rfl), fun H14 kq14 bx14 tp14 => ⟨_, rfl, ?_⟩⟩
    fail "ite"
    -- _law_step(box)
    refine ⟨_, rfl, _, _, rfl, (by fail "bx"), fun H15 kp15 bx15 => ?_⟩
    have kqc : Kq b1 Pt H13 H15 := kq14.trans (Kq.of kp15)
    have na15 := kqc.net bx13 tg13 na13
    have ht15 := kqc.ints bx13 tg13 ht13
    have tg15 := tabG_kp tp14 kp15 bx14
    -- if not _law_near(box, net, count, table, 0):
    refine ⟨_, rfl, _, rfl, _, rfl, _, rfl, _, _, _, _, _, _, _, _, rfl, (by fail "bx"), (by assumption), (by fail "hp"), (by assumption), (by assumption), (by first | exact .inl rfl | exact .inr rfl), fun H16 kq16 bx16 tp16 => ⟨_, rfl, ?_⟩⟩
    fail "ite"
    have na16 := kq16.net bx15 tg15 na15
    have ht16 := kq16.ints bx15 tg15 ht15
    -- return _law_kinds_are(net, count, table)
    refine ⟨_, rfl, _, rfl, _, rfl, _, _, _, _, _, rfl, (by fail "na"), (by fail "hp"), (by assumption), (by assumption), fun H17 sp17 tp17 => ?_⟩
    exact kQ _
end
end K01

end
section
set_option Elab.async false
set_option linter.all false
set_option maxRecDepth 100000
set_option maxHeartbeats 4000000
namespace K01
open PySem L2 Kit KR KX KI RM
/-- a method, a classmethod, a property, an error, as they stand in the row -/
def DfM (K : PySem.W.Frag) (C : Addr) (m q : Str) (st : Stmt) (ps : List Str) : Prop := ∃ (f : Addr) (fd : FuncData), L2.Fun K m q st f fd ∧ Meth K C m f ∧ Binds K fd ps []
def DfC (K : PySem.W.Frag) (C : Addr) (mc : Value) (m q : Str) (st : Stmt) (ps : List Str) : Prop := ∃ (p g : Addr) (fd : FuncData), L2.Fun K m q st g fd ∧ ClX.CMet K C mc m p g ∧ Binds K fd ps []
def DfP (K : PySem.W.Frag) (C : Addr) (m q : Str) (st : Stmt) (ps : List Str) : Prop := ∃ (p g : Addr) (fd : FuncData), L2.Fun K m q st g fd ∧ PropOf K C m p g ∧ Binds K fd ps []
def DfI (K : PySem.W.Frag) (C : Addr) (q : Str) (st : Stmt) (ps : List Str) : Prop := ∃ (f : Addr) (fd : FuncData), L2.Fun K "__init__" q st f fd ∧ Mk K C f ∧ Binds K fd ps []
def DfE (K : PySem.W.Frag) (C : Addr) (q : Str) (st : Stmt) (ps : List Str) : Prop := ∃ (f : Addr) (fd : FuncData), L2.Fun K "__init__" q st f fd ∧ PySem.W.findIn K (.ref C) "__init__" = some (some (.ref f)) ∧ PySem.W.typeIn K (.ref f) = some (.type "function") ∧ Binds K fd ps []
theorem exm_sub {K : PySem.W.Frag} {C S : Addr} (h1 : PySem.W.subIn K (.ref S) (.type "BaseException") = some true) (h2 : PySem.W.isClsIn K S = true) (h3 : PySem.W.typeIn K (.ref S) = some (.type "type")) (h4 : PySem.W.subIn K (.ref C) (.ref S) = some true) : PySem.W.exmOne K (.ref C) (.ref S) = some true := by
  have e1 : (PySem.W.subIn K (.ref S) (.type "BaseException") == some true) = true := by rw [h1] <;> rfl
  have e2 : ((PySem.W.clsIn K S).isSome && PySem.W.typeIn K (.ref S) == some (.type "type")) = true := by
    rw [show (PySem.W.clsIn K S).isSome = true from h2, h3] <;> rfl
  exact (if_pos e1).trans ((if_pos e2).trans h4)
theorem kit_same {K : PySem.W.Frag} {C : Addr} : PySem.W.kitOne K (.ref C) (.ref C) = some true := if_pos (beq_self_eq_true _)
theorem kit_other {K : PySem.W.Frag} {C D : Addr} {b : Bool} (ne : C ≠ D) (h2 : PySem.W.isClsIn K D = true) (h3 : PySem.W.typeIn K (.ref D) = some (.type "type")) (h4 : PySem.W.subIn K (.ref C) (.ref D) = some b) : PySem.W.kitOne K (.ref C) (.ref D) = some b := by
  have e1 : ¬ (Value.ref C == Value.ref D) = true := fun e => ne (Value.ref.inj (eq_of_beq e))
  have e2 : ((PySem.W.clsIn K D).isSome && PySem.W.typeIn K (.ref D) == some (.type "type")) = true := by
    rw [show (PySem.W.clsIn K D).isSome = true from h2, h3] <;> rfl
  exact (if_neg e1).trans ((if_pos e2).trans h4)
theorem kit_value {K : PySem.W.Frag} {C : Addr} (h4 : PySem.W.subIn K (.ref C) (.type "ValueError") = some true) : PySem.W.kitOne K (.ref C) (.type "ValueError") = some true := by
  have e1 : ¬ (Value.ref C == Value.type "ValueError") = true := fun e => nomatch eq_of_beq e
  have e2 : PySem.W.kitMeta "ValueError" = true := by decide +kernel
  show (if (Value.ref C == Value.type "ValueError") = true then some true else if PySem.W.kitMeta "ValueError" = true then PySem.W.subIn K (.ref C) (.type "ValueError") else none) = some true
  rw [if_neg e1, if_pos e2]
  exact h4
/-- an error's class, as the row has it -/
theorem err_mk {K : PySem.W.Frag} {C CS : Addr} {nm q : Str} {N : Addr} {bs : List Value} {sn : List Str} {sub : List Value} {ab : Bool} {col : Option Bool} {dd : Option Addr} {m0 m1 m2 m3 m5 : Option Value}
    (xL : K.lookup C = some (excClassObj nm q C N bs [.ref CS, .type "ValueError", .type "Exception", .type "BaseException", .type "object"] true sn sub ab col dd m0 m1 m2 m3 m5 "ValueError.__new__"))
    (sa : PySem.W.findIn K (.ref C) "__setattr__" = some (some (.builtin "object.__setattr__"))) (ga : PySem.W.findIn K (.ref C) "__getattribute__" = some (some (.builtin "BaseException.__getattribute__"))) (gg : PySem.W.findIn K (.ref C) "__getattr__" = some none)
    (ex : PySem.W.subIn K (.ref C) (.type "BaseException") = some true) (ty : PySem.W.typeIn K (.ref C) = some (.type "type")) (kp : PySem.W.keepIn K (.ref C) = true) (ic : PySem.W.isClsIn K C = true)
    (cc : PySem.W.findIn K (.ref C) "__class__" = some (some (.builtin "object.__class__"))) (cg : PySem.W.specialIn K (.builtin "object.__class__") "__get__" = some (some (.builtin "getset_descriptor.__get__"))) (tk : PySem.W.takesIn K (.builtin "object.__class__") = some true)
    (mo : PySem.W.mroIn K C (.type "object") = some true) (hd : PySem.W.hasDictIn K C = true) : OexC K C ∧ IsX K C :=
  ⟨⟨⟨nm, q, N, bs, _, sn, sub, ab, col, dd, m0, m1, m2, m3, m5, xL, by show PySem.HandSPX.refsVE [.type "ValueError", .type "Exception", .type "BaseException", .type "object"] = true; decide +kernel⟩, sa, ex, ty, kp⟩, ⟨ic, ga, gg, ex, cc, cg, tk, mo, hd⟩⟩
section
variable {K : PySem.W.Frag} {h : Heap} {mg : Str → Option Value} {f g p C : Addr} {oc kV dc pm cd ct mc : Value} {od an : Option Addr} {sl : Array (Option Value)} {rest : List Value}

theorem f_sDraw (X : K.In h) (G : h.Ns mainGlobals mg) (a : PySem.W.nsIn K mainGlobals "_law_draw" = some (some (.ref f))) (l : K.lookup f = some ⟨oc, od, .func (PySem.W.fnOf "_law_draw" "_law_draw" (defArgs sDraw) (defBody sDraw) (defScope sDraw) .none kV dc pm an cd ct), sl⟩) (c : PySem.W.codeIn K cd "_law_draw" = true) (k : PySem.W.keepIn K (.ref f) = true) : Df K mg "_law_draw" sDraw ["box", "many"] :=
  have F := fun_mk (st := sDraw) l c k
  ⟨f, _, F, PySem.W.mg_of X G a, F.binds (ps := ["box", "many"]) fun _ _ _ _ _ _ us hl => match us, hl with | [_, _], _ => rfl⟩
theorem f_sGreat (X : K.In h) (G : h.Ns mainGlobals mg) (a : PySem.W.nsIn K mainGlobals "_law_great" = some (some (.ref f))) (l : K.lookup f = some ⟨oc, od, .func (PySem.W.fnOf "_law_great" "_law_great" (defArgs sGreat) (defBody sGreat) (defScope sGreat) .none kV dc pm an cd ct), sl⟩) (c : PySem.W.codeIn K cd "_law_great" = true) (k : PySem.W.keepIn K (.ref f) = true) : Df K mg "_law_great" sGreat ["box"] :=
  have F := fun_mk (st := sGreat) l c k
  ⟨f, _, F, PySem.W.mg_of X G a, F.binds (ps := ["box"]) fun _ _ _ _ _ _ us hl => match us, hl with | [_], _ => rfl⟩
theorem f_sIsInt (X : K.In h) (G : h.Ns mainGlobals mg) (a : PySem.W.nsIn K mainGlobals "_law_is_int" = some (some (.ref f))) (l : K.lookup f = some ⟨oc, od, .func (PySem.W.fnOf "_law_is_int" "_law_is_int" (defArgs sIsInt) (defBody sIsInt) (defScope sIsInt) .none kV dc pm an cd ct), sl⟩) (c : PySem.W.codeIn K cd "_law_is_int" = true) (k : PySem.W.keepIn K (.ref f) = true) : Df K mg "_law_is_int" sIsInt ["actual"] :=
  have F := fun_mk (st := sIsInt) l c k
  ⟨f, _, F, PySem.W.mg_of X G a, F.binds (ps := ["actual"]) fun _ _ _ _ _ _ us hl => match us, hl with | [_], _ => rfl⟩
theorem f_sStranger (X : K.In h) (G : h.Ns mainGlobals mg) (a : PySem.W.nsIn K mainGlobals "_law_stranger" = some (some (.ref f))) (l : K.lookup f = some ⟨oc, od, .func (PySem.W.fnOf "_law_stranger" "_law_stranger" (defArgs sStranger) (defBody sStranger) (defScope sStranger) .none kV dc pm an cd ct), sl⟩) (c : PySem.W.codeIn K cd "_law_stranger" = true) (k : PySem.W.keepIn K (.ref f) = true) : Df K mg "_law_stranger" sStranger ["box", "count"] :=
  have F := fun_mk (st := sStranger) l c k
  ⟨f, _, F, PySem.W.mg_of X G a, F.binds (ps := ["box", "count"]) fun _ _ _ _ _ _ us hl => match us, hl with | [_, _], _ => rfl⟩
theorem f_sTruth (X : K.In h) (G : h.Ns mainGlobals mg) (a : PySem.W.nsIn K mainGlobals "_law_truth" = some (some (.ref f))) (l : K.lookup f = some ⟨oc, od, .func (PySem.W.fnOf "_law_truth" "_law_truth" (defArgs sTruth) (defBody sTruth) (defScope sTruth) .none kV dc pm an cd ct), sl⟩) (c : PySem.W.codeIn K cd "_law_truth" = true) (k : PySem.W.keepIn K (.ref f) = true) : Df K mg "_law_truth" sTruth ["actual", "due"] :=
  have F := fun_mk (st := sTruth) l c k
  ⟨f, _, F, PySem.W.mg_of X G a, F.binds (ps := ["actual", "due"]) fun _ _ _ _ _ _ us hl => match us, hl with | [_, _], _ => rfl⟩
theorem f_sCount (X : K.In h) (G : h.Ns mainGlobals mg) (a : PySem.W.nsIn K mainGlobals "_law_count" = some (some (.ref f))) (l : K.lookup f = some ⟨oc, od, .func (PySem.W.fnOf "_law_count" "_law_count" (defArgs sCount) (defBody sCount) (defScope sCount) .none kV dc pm an cd ct), sl⟩) (c : PySem.W.codeIn K cd "_law_count" = true) (k : PySem.W.keepIn K (.ref f) = true) : Df K mg "_law_count" sCount ["box"] :=
  have F := fun_mk (st := sCount) l c k
  ⟨f, _, F, PySem.W.mg_of X G a, F.binds (ps := ["box"]) fun _ _ _ _ _ _ us hl => match us, hl with | [_], _ => rfl⟩
theorem f_sIntsAre (X : K.In h) (G : h.Ns mainGlobals mg) (a : PySem.W.nsIn K mainGlobals "_law_ints_are" = some (some (.ref f))) (l : K.lookup f = some ⟨oc, od, .func (PySem.W.fnOf "_law_ints_are" "_law_ints_are" (defArgs sIntsAre) (defBody sIntsAre) (defScope sIntsAre) .none kV dc pm an cd ct), sl⟩) (c : PySem.W.codeIn K cd "_law_ints_are" = true) (k : PySem.W.keepIn K (.ref f) = true) : Df K mg "_law_ints_are" sIntsAre ["told", "due"] :=
  have F := fun_mk (st := sIntsAre) l c k
  ⟨f, _, F, PySem.W.mg_of X G a, F.binds (ps := ["told", "due"]) fun _ _ _ _ _ _ us hl => match us, hl with | [_, _], _ => rfl⟩
theorem f_sBox (X : K.In h) (G : h.Ns mainGlobals mg) (a : PySem.W.nsIn K mainGlobals "_law_box" = some (some (.ref f))) (l : K.lookup f = some ⟨oc, od, .func (PySem.W.fnOf "_law_box" "_law_box" (defArgs sBox) (defBody sBox) (defScope sBox) .none kV dc pm an cd ct), sl⟩) (c : PySem.W.codeIn K cd "_law_box" = true) (k : PySem.W.keepIn K (.ref f) = true) : Df K mg "_law_box" sBox ["script"] :=
  have F := fun_mk (st := sBox) l c k
  ⟨f, _, F, PySem.W.mg_of X G a, F.binds (ps := ["script"]) fun _ _ _ _ _ _ us hl => match us, hl with | [_], _ => rfl⟩
theorem f_sStep (X : K.In h) (G : h.Ns mainGlobals mg) (a : PySem.W.nsIn K mainGlobals "_law_step" = some (some (.ref f))) (l : K.lookup f = some ⟨oc, od, .func (PySem.W.fnOf "_law_step" "_law_step" (defArgs sStep) (defBody sStep) (defScope sStep) .none kV dc pm an cd ct), sl⟩) (c : PySem.W.codeIn K cd "_law_step" = true) (k : PySem.W.keepIn K (.ref f) = true) : Df K mg "_law_step" sStep ["box"] :=
  have F := fun_mk (st := sStep) l c k
  ⟨f, _, F, PySem.W.mg_of X G a, F.binds (ps := ["box"]) fun _ _ _ _ _ _ us hl => match us, hl with | [_], _ => rfl⟩
theorem f_sCheckCount (X : K.In h) (G : h.Ns mainGlobals mg) (a : PySem.W.nsIn K mainGlobals "check_count" = some (some (.ref f))) (l : K.lookup f = some ⟨oc, od, .func (PySem.W.fnOf "check_count" "check_count" (defArgs sCheckCount) (defBody sCheckCount) (defScope sCheckCount) .none kV dc pm an cd ct), sl⟩) (c : PySem.W.codeIn K cd "check_count" = true) (k : PySem.W.keepIn K (.ref f) = true) : Df K mg "check_count" sCheckCount ["count"] :=
  have F := fun_mk (st := sCheckCount) l c k
  ⟨f, _, F, PySem.W.mg_of X G a, F.binds (ps := ["count"]) fun _ _ _ _ _ _ us hl => match us, hl with | [_], _ => rfl⟩
theorem f_sCheckPair (X : K.In h) (G : h.Ns mainGlobals mg) (a : PySem.W.nsIn K mainGlobals "check_pair" = some (some (.ref f))) (l : K.lookup f = some ⟨oc, od, .func (PySem.W.fnOf "check_pair" "check_pair" (defArgs sCheckPair) (defBody sCheckPair) (defScope sCheckPair) .none kV dc pm an cd ct), sl⟩) (c : PySem.W.codeIn K cd "check_pair" = true) (k : PySem.W.keepIn K (.ref f) = true) : Df K mg "check_pair" sCheckPair ["count", "link"] :=
  have F := fun_mk (st := sCheckPair) l c k
  ⟨f, _, F, PySem.W.mg_of X G a, F.binds (ps := ["count", "link"]) fun _ _ _ _ _ _ us hl => match us, hl with | [_, _], _ => rfl⟩
theorem f_sCheckReplica (X : K.In h) (G : h.Ns mainGlobals mg) (a : PySem.W.nsIn K mainGlobals "check_replica" = some (some (.ref f))) (l : K.lookup f = some ⟨oc, od, .func (PySem.W.fnOf "check_replica" "check_replica" (defArgs sCheckReplica) (defBody sCheckReplica) (defScope sCheckReplica) .none kV dc pm an cd ct), sl⟩) (c : PySem.W.codeIn K cd "check_replica" = true) (k : PySem.W.keepIn K (.ref f) = true) : Df K mg "check_replica" sCheckReplica ["net", "replica"] :=
  have F := fun_mk (st := sCheckReplica) l c k
  ⟨f, _, F, PySem.W.mg_of X G a, F.binds (ps := ["net", "replica"]) fun _ _ _ _ _ _ us hl => match us, hl with | [_, _], _ => rfl⟩
theorem f_sCheckLink (X : K.In h) (G : h.Ns mainGlobals mg) (a : PySem.W.nsIn K mainGlobals "check_link" = some (some (.ref f))) (l : K.lookup f = some ⟨oc, od, .func (PySem.W.fnOf "check_link" "check_link" (defArgs sCheckLink) (defBody sCheckLink) (defScope sCheckLink) .none kV dc pm an cd ct), sl⟩) (c : PySem.W.codeIn K cd "check_link" = true) (k : PySem.W.keepIn K (.ref f) = true) : Df K mg "check_link" sCheckLink ["net", "source", "reader"] :=
  have F := fun_mk (st := sCheckLink) l c k
  ⟨f, _, F, PySem.W.mg_of X G a, F.binds (ps := ["net", "source", "reader"]) fun _ _ _ _ _ _ us hl => match us, hl with | [_, _, _], _ => rfl⟩
theorem f_sShuffle (X : K.In h) (G : h.Ns mainGlobals mg) (a : PySem.W.nsIn K mainGlobals "_law_shuffle" = some (some (.ref f))) (l : K.lookup f = some ⟨oc, od, .func (PySem.W.fnOf "_law_shuffle" "_law_shuffle" (defArgs sShuffle) (defBody sShuffle) (defScope sShuffle) .none kV dc pm an cd ct), sl⟩) (c : PySem.W.codeIn K cd "_law_shuffle" = true) (k : PySem.W.keepIn K (.ref f) = true) : Df K mg "_law_shuffle" sShuffle ["box", "count"] :=
  have F := fun_mk (st := sShuffle) l c k
  ⟨f, _, F, PySem.W.mg_of X G a, F.binds (ps := ["box", "count"]) fun _ _ _ _ _ _ us hl => match us, hl with | [_, _], _ => rfl⟩
theorem f_sPutTree (X : K.In h) (G : h.Ns mainGlobals mg) (a : PySem.W.nsIn K mainGlobals "_law_put_tree" = some (some (.ref f))) (l : K.lookup f = some ⟨oc, od, .func (PySem.W.fnOf "_law_put_tree" "_law_put_tree" (defArgs sPutTree) (defBody sPutTree) (defScope sPutTree) .none kV dc pm an cd ct), sl⟩) (c : PySem.W.codeIn K cd "_law_put_tree" = true) (k : PySem.W.keepIn K (.ref f) = true) : Df K mg "_law_put_tree" sPutTree ["box", "table", "count", "members"] :=
  have F := fun_mk (st := sPutTree) l c k
  ⟨f, _, F, PySem.W.mg_of X G a, F.binds (ps := ["box", "table", "count", "members"]) fun _ _ _ _ _ _ us hl => match us, hl with | [_, _, _, _], _ => rfl⟩
theorem f_sPairs (X : K.In h) (G : h.Ns mainGlobals mg) (a : PySem.W.nsIn K mainGlobals "_law_pairs" = some (some (.ref f))) (l : K.lookup f = some ⟨oc, od, .func (PySem.W.fnOf "_law_pairs" "_law_pairs" (defArgs sPairs) (defBody sPairs) (defScope sPairs) .none kV dc pm an cd ct), sl⟩) (c : PySem.W.codeIn K cd "_law_pairs" = true) (k : PySem.W.keepIn K (.ref f) = true) : Df K mg "_law_pairs" sPairs ["count", "table", "members", "there"] :=
  have F := fun_mk (st := sPairs) l c k
  ⟨f, _, F, PySem.W.mg_of X G a, F.binds (ps := ["count", "table", "members", "there"]) fun _ _ _ _ _ _ us hl => match us, hl with | [_, _, _, _], _ => rfl⟩
theorem f_sPutRing (X : K.In h) (G : h.Ns mainGlobals mg) (a : PySem.W.nsIn K mainGlobals "_law_put_ring" = some (some (.ref f))) (l : K.lookup f = some ⟨oc, od, .func (PySem.W.fnOf "_law_put_ring" "_law_put_ring" (defArgs sPutRing) (defBody sPutRing) (defScope sPutRing) .none kV dc pm an cd ct), sl⟩) (c : PySem.W.codeIn K cd "_law_put_ring" = true) (k : PySem.W.keepIn K (.ref f) = true) : Df K mg "_law_put_ring" sPutRing ["table", "count", "members"] :=
  have F := fun_mk (st := sPutRing) l c k
  ⟨f, _, F, PySem.W.mg_of X G a, F.binds (ps := ["table", "count", "members"]) fun _ _ _ _ _ _ us hl => match us, hl with | [_, _, _], _ => rfl⟩
theorem f_sPutDrawn (X : K.In h) (G : h.Ns mainGlobals mg) (a : PySem.W.nsIn K mainGlobals "_law_put_drawn" = some (some (.ref f))) (l : K.lookup f = some ⟨oc, od, .func (PySem.W.fnOf "_law_put_drawn" "_law_put_drawn" (defArgs sPutDrawn) (defBody sPutDrawn) (defScope sPutDrawn) .none kV dc pm an cd ct), sl⟩) (c : PySem.W.codeIn K cd "_law_put_drawn" = true) (k : PySem.W.keepIn K (.ref f) = true) : Df K mg "_law_put_drawn" sPutDrawn ["box", "table", "count", "both"] :=
  have F := fun_mk (st := sPutDrawn) l c k
  ⟨f, _, F, PySem.W.mg_of X G a, F.binds (ps := ["box", "table", "count", "both"]) fun _ _ _ _ _ _ us hl => match us, hl with | [_, _, _, _], _ => rfl⟩
theorem f_sPutTwo (X : K.In h) (G : h.Ns mainGlobals mg) (a : PySem.W.nsIn K mainGlobals "_law_put_two_rings" = some (some (.ref f))) (l : K.lookup f = some ⟨oc, od, .func (PySem.W.fnOf "_law_put_two_rings" "_law_put_two_rings" (defArgs sPutTwo) (defBody sPutTwo) (defScope sPutTwo) .none kV dc pm an cd ct), sl⟩) (c : PySem.W.codeIn K cd "_law_put_two_rings" = true) (k : PySem.W.keepIn K (.ref f) = true) : Df K mg "_law_put_two_rings" sPutTwo ["box", "table", "count", "order"] :=
  have F := fun_mk (st := sPutTwo) l c k
  ⟨f, _, F, PySem.W.mg_of X G a, F.binds (ps := ["box", "table", "count", "order"]) fun _ _ _ _ _ _ us hl => match us, hl with | [_, _, _, _], _ => rfl⟩
theorem f_sPutMore (X : K.In h) (G : h.Ns mainGlobals mg) (a : PySem.W.nsIn K mainGlobals "_law_put_more" = some (some (.ref f))) (l : K.lookup f = some ⟨oc, od, .func (PySem.W.fnOf "_law_put_more" "_law_put_more" (defArgs sPutMore) (defBody sPutMore) (defScope sPutMore) .none kV dc pm an cd ct), sl⟩) (c : PySem.W.codeIn K cd "_law_put_more" = true) (k : PySem.W.keepIn K (.ref f) = true) : Df K mg "_law_put_more" sPutMore ["box", "table", "count"] :=
  have F := fun_mk (st := sPutMore) l c k
  ⟨f, _, F, PySem.W.mg_of X G a, F.binds (ps := ["box", "table", "count"]) fun _ _ _ _ _ _ us hl => match us, hl with | [_, _, _], _ => rfl⟩
theorem f_sPutForest (X : K.In h) (G : h.Ns mainGlobals mg) (a : PySem.W.nsIn K mainGlobals "_law_put_forest" = some (some (.ref f))) (l : K.lookup f = some ⟨oc, od, .func (PySem.W.fnOf "_law_put_forest" "_law_put_forest" (defArgs sPutForest) (defBody sPutForest) (defScope sPutForest) .none kV dc pm an cd ct), sl⟩) (c : PySem.W.codeIn K cd "_law_put_forest" = true) (k : PySem.W.keepIn K (.ref f) = true) : Df K mg "_law_put_forest" sPutForest ["box", "table", "count", "order"] :=
  have F := fun_mk (st := sPutForest) l c k
  ⟨f, _, F, PySem.W.mg_of X G a, F.binds (ps := ["box", "table", "count", "order"]) fun _ _ _ _ _ _ us hl => match us, hl with | [_, _, _, _], _ => rfl⟩
theorem f_sWorld (X : K.In h) (G : h.Ns mainGlobals mg) (a : PySem.W.nsIn K mainGlobals "_law_world" = some (some (.ref f))) (l : K.lookup f = some ⟨oc, od, .func (PySem.W.fnOf "_law_world" "_law_world" (defArgs sWorld) (defBody sWorld) (defScope sWorld) .none kV dc pm an cd ct), sl⟩) (c : PySem.W.codeIn K cd "_law_world" = true) (k : PySem.W.keepIn K (.ref f) = true) : Df K mg "_law_world" sWorld ["box", "count"] :=
  have F := fun_mk (st := sWorld) l c k
  ⟨f, _, F, PySem.W.mg_of X G a, F.binds (ps := ["box", "count"]) fun _ _ _ _ _ _ us hl => match us, hl with | [_, _], _ => rfl⟩
theorem f_sReachWithin (X : K.In h) (G : h.Ns mainGlobals mg) (a : PySem.W.nsIn K mainGlobals "reach_within" = some (some (.ref f))) (l : K.lookup f = some ⟨oc, od, .func (PySem.W.fnOf "reach_within" "reach_within" (defArgs sReachWithin) (defBody sReachWithin) (defScope sReachWithin) .none kV dc pm an cd ct), sl⟩) (c : PySem.W.codeIn K cd "reach_within" = true) (k : PySem.W.keepIn K (.ref f) = true) : Df K mg "reach_within" sReachWithin ["net", "starts", "allowed"] :=
  have F := fun_mk (st := sReachWithin) l c k
  ⟨f, _, F, PySem.W.mg_of X G a, F.binds (ps := ["net", "starts", "allowed"]) fun _ _ _ _ _ _ us hl => match us, hl with | [_, _, _], _ => rfl⟩
theorem f_sReachesAll (X : K.In h) (G : h.Ns mainGlobals mg) (a : PySem.W.nsIn K mainGlobals "reaches_all" = some (some (.ref f))) (l : K.lookup f = some ⟨oc, od, .func (PySem.W.fnOf "reaches_all" "reaches_all" (defArgs sReachesAll) (defBody sReachesAll) (defScope sReachesAll) .none kV dc pm an cd ct), sl⟩) (c : PySem.W.codeIn K cd "reaches_all" = true) (k : PySem.W.keepIn K (.ref f) = true) : Df K mg "reaches_all" sReachesAll ["net"] :=
  have F := fun_mk (st := sReachesAll) l c k
  ⟨f, _, F, PySem.W.mg_of X G a, F.binds (ps := ["net"]) fun _ _ _ _ _ _ us hl => match us, hl with | [_], _ => rfl⟩
theorem f_sIsStrong (X : K.In h) (G : h.Ns mainGlobals mg) (a : PySem.W.nsIn K mainGlobals "is_strong" = some (some (.ref f))) (l : K.lookup f = some ⟨oc, od, .func (PySem.W.fnOf "is_strong" "is_strong" (defArgs sIsStrong) (defBody sIsStrong) (defScope sIsStrong) .none kV dc pm an cd ct), sl⟩) (c : PySem.W.codeIn K cd "is_strong" = true) (k : PySem.W.keepIn K (.ref f) = true) : Df K mg "is_strong" sIsStrong ["net"] :=
  have F := fun_mk (st := sIsStrong) l c k
  ⟨f, _, F, PySem.W.mg_of X G a, F.binds (ps := ["net"]) fun _ _ _ _ _ _ us hl => match us, hl with | [_], _ => rfl⟩
theorem f_sIsRing (X : K.In h) (G : h.Ns mainGlobals mg) (a : PySem.W.nsIn K mainGlobals "is_ring" = some (some (.ref f))) (l : K.lookup f = some ⟨oc, od, .func (PySem.W.fnOf "is_ring" "is_ring" (defArgs sIsRing) (defBody sIsRing) (defScope sIsRing) .none kV dc pm an cd ct), sl⟩) (c : PySem.W.codeIn K cd "is_ring" = true) (k : PySem.W.keepIn K (.ref f) = true) : Df K mg "is_ring" sIsRing ["net"] :=
  have F := fun_mk (st := sIsRing) l c k
  ⟨f, _, F, PySem.W.mg_of X G a, F.binds (ps := ["net"]) fun _ _ _ _ _ _ us hl => match us, hl with | [_], _ => rfl⟩
theorem f_sIsComplete (X : K.In h) (G : h.Ns mainGlobals mg) (a : PySem.W.nsIn K mainGlobals "is_complete" = some (some (.ref f))) (l : K.lookup f = some ⟨oc, od, .func (PySem.W.fnOf "is_complete" "is_complete" (defArgs sIsComplete) (defBody sIsComplete) (defScope sIsComplete) .none kV dc pm an cd ct), sl⟩) (c : PySem.W.codeIn K cd "is_complete" = true) (k : PySem.W.keepIn K (.ref f) = true) : Df K mg "is_complete" sIsComplete ["net"] :=
  have F := fun_mk (st := sIsComplete) l c k
  ⟨f, _, F, PySem.W.mg_of X G a, F.binds (ps := ["net"]) fun _ _ _ _ _ _ us hl => match us, hl with | [_], _ => rfl⟩
theorem f_sIsTree (X : K.In h) (G : h.Ns mainGlobals mg) (a : PySem.W.nsIn K mainGlobals "is_tree" = some (some (.ref f))) (l : K.lookup f = some ⟨oc, od, .func (PySem.W.fnOf "is_tree" "is_tree" (defArgs sIsTree) (defBody sIsTree) (defScope sIsTree) .none kV dc pm an cd ct), sl⟩) (c : PySem.W.codeIn K cd "is_tree" = true) (k : PySem.W.keepIn K (.ref f) = true) : Df K mg "is_tree" sIsTree ["net"] :=
  have F := fun_mk (st := sIsTree) l c k
  ⟨f, _, F, PySem.W.mg_of X G a, F.binds (ps := ["net"]) fun _ _ _ _ _ _ us hl => match us, hl with | [_], _ => rfl⟩
theorem f_sLawReach (X : K.In h) (G : h.Ns mainGlobals mg) (a : PySem.W.nsIn K mainGlobals "_law_reach" = some (some (.ref f))) (l : K.lookup f = some ⟨oc, od, .func (PySem.W.fnOf "_law_reach" "_law_reach" (defArgs sLawReach) (defBody sLawReach) (defScope sLawReach) .none kV dc pm an cd ct), sl⟩) (c : PySem.W.codeIn K cd "_law_reach" = true) (k : PySem.W.keepIn K (.ref f) = true) : Df K mg "_law_reach" sLawReach ["count", "table", "starts", "allowed"] :=
  have F := fun_mk (st := sLawReach) l c k
  ⟨f, _, F, PySem.W.mg_of X G a, F.binds (ps := ["count", "table", "starts", "allowed"]) fun _ _ _ _ _ _ us hl => match us, hl with | [_, _, _, _], _ => rfl⟩
theorem f_sKindsAre (X : K.In h) (G : h.Ns mainGlobals mg) (a : PySem.W.nsIn K mainGlobals "_law_kinds_are" = some (some (.ref f))) (l : K.lookup f = some ⟨oc, od, .func (PySem.W.fnOf "_law_kinds_are" "_law_kinds_are" (defArgs sKindsAre) (defBody sKindsAre) (defScope sKindsAre) .none kV dc pm an cd ct), sl⟩) (c : PySem.W.codeIn K cd "_law_kinds_are" = true) (k : PySem.W.keepIn K (.ref f) = true) : Df K mg "_law_kinds_are" sKindsAre ["net", "count", "table"] :=
  have F := fun_mk (st := sKindsAre) l c k
  ⟨f, _, F, PySem.W.mg_of X G a, F.binds (ps := ["net", "count", "table"]) fun _ _ _ _ _ _ us hl => match us, hl with | [_, _, _], _ => rfl⟩
theorem f_sSome (X : K.In h) (G : h.Ns mainGlobals mg) (a : PySem.W.nsIn K mainGlobals "_law_some" = some (some (.ref f))) (l : K.lookup f = some ⟨oc, od, .func (PySem.W.fnOf "_law_some" "_law_some" (defArgs sSome) (defBody sSome) (defScope sSome) .none kV dc pm an cd ct), sl⟩) (c : PySem.W.codeIn K cd "_law_some" = true) (k : PySem.W.keepIn K (.ref f) = true) : Df K mg "_law_some" sSome ["box", "count"] :=
  have F := fun_mk (st := sSome) l c k
  ⟨f, _, F, PySem.W.mg_of X G a, F.binds (ps := ["box", "count"]) fun _ _ _ _ _ _ us hl => match us, hl with | [_, _], _ => rfl⟩
theorem f_sAsked (X : K.In h) (G : h.Ns mainGlobals mg) (a : PySem.W.nsIn K mainGlobals "_law_asked" = some (some (.ref f))) (l : K.lookup f = some ⟨oc, od, .func (PySem.W.fnOf "_law_asked" "_law_asked" (defArgs sAsked) (defBody sAsked) (defScope sAsked) .none kV dc pm an cd ct), sl⟩) (c : PySem.W.codeIn K cd "_law_asked" = true) (k : PySem.W.keepIn K (.ref f) = true) : Df K mg "_law_asked" sAsked ["net", "starts", "allowed"] :=
  have F := fun_mk (st := sAsked) l c k
  ⟨f, _, F, PySem.W.mg_of X G a, F.binds (ps := ["net", "starts", "allowed"]) fun _ _ _ _ _ _ us hl => match us, hl with | [_, _, _], _ => rfl⟩
theorem f_sReachIs (X : K.In h) (G : h.Ns mainGlobals mg) (a : PySem.W.nsIn K mainGlobals "_law_reach_is" = some (some (.ref f))) (l : K.lookup f = some ⟨oc, od, .func (PySem.W.fnOf "_law_reach_is" "_law_reach_is" (defArgs sReachIs) (defBody sReachIs) (defScope sReachIs) .none kV dc pm an cd ct), sl⟩) (c : PySem.W.codeIn K cd "_law_reach_is" = true) (k : PySem.W.keepIn K (.ref f) = true) : Df K mg "_law_reach_is" sReachIs ["net", "count", "table", "starts", "allowed"] :=
  have F := fun_mk (st := sReachIs) l c k
  ⟨f, _, F, PySem.W.mg_of X G a, F.binds (ps := ["net", "count", "table", "starts", "allowed"]) fun _ _ _ _ _ _ us hl => match us, hl with | [_, _, _, _, _], _ => rfl⟩
theorem f_sNetIs (X : K.In h) (G : h.Ns mainGlobals mg) (a : PySem.W.nsIn K mainGlobals "_law_net_is" = some (some (.ref f))) (l : K.lookup f = some ⟨oc, od, .func (PySem.W.fnOf "_law_net_is" "_law_net_is" (defArgs sNetIs) (defBody sNetIs) (defScope sNetIs) .none kV dc pm an cd ct), sl⟩) (c : PySem.W.codeIn K cd "_law_net_is" = true) (k : PySem.W.keepIn K (.ref f) = true) : Df K mg "_law_net_is" sNetIs ["box", "net", "count", "table"] :=
  have F := fun_mk (st := sNetIs) l c k
  ⟨f, _, F, PySem.W.mg_of X G a, F.binds (ps := ["box", "net", "count", "table"]) fun _ _ _ _ _ _ us hl => match us, hl with | [_, _, _, _], _ => rfl⟩
theorem f_sNear (X : K.In h) (G : h.Ns mainGlobals mg) (a : PySem.W.nsIn K mainGlobals "_law_near" = some (some (.ref f))) (l : K.lookup f = some ⟨oc, od, .func (PySem.W.fnOf "_law_near" "_law_near" (defArgs sNear) (defBody sNear) (defScope sNear) .none kV dc pm an cd ct), sl⟩) (c : PySem.W.codeIn K cd "_law_near" = true) (k : PySem.W.keepIn K (.ref f) = true) : Df K mg "_law_near" sNear ["box", "net", "count", "table", "there"] :=
  have F := fun_mk (st := sNear) l c k
  ⟨f, _, F, PySem.W.mg_of X G a, F.binds (ps := ["box", "net", "count", "table", "there"]) fun _ _ _ _ _ _ us hl => match us, hl with | [_, _, _, _, _], _ => rfl⟩
theorem f_sIsTwoWay {c : Addr} (X : K.In h) (G : h.Ns mainGlobals mg) (a : PySem.W.nsIn K mainGlobals "is_two_way" = some (some (.ref f))) (l : K.lookup f = some ⟨oc, od, .func (PySem.W.fnOf "is_two_way" "is_two_way" (defArgs sIsTwoWay) (defBody sIsTwoWay) (defScope sIsTwoWay) .none kV dc pm an (.ref c) ct), sl⟩) (q : PySem.W.codeIn K (.ref c) "is_two_way" = true) (k : PySem.W.keepIn K (.ref f) = true) : DfT K mg "is_two_way" sIsTwoWay ["net"] c :=
  have F := fun_mk (st := sIsTwoWay) l q k
  ⟨f, _, ⟨⟨oc, kV, dc, pm, ct, od, an, sl, rfl, l, q⟩, k⟩, PySem.W.mg_of X G a, F.binds (ps := ["net"]) fun _ _ _ _ _ _ us hl => match us, hl with | [_], _ => rfl⟩
theorem f_sNetHasLink (a : PySem.W.findIn K (.ref C) "has_link" = some (some (.ref f))) (i : PySem.W.isFn K (.ref f) = true) (l : K.lookup f = some ⟨oc, od, .func (PySem.W.fnOf "has_link" "Net.has_link" (defArgs sNetHasLink) (defBody sNetHasLink) (defScope sNetHasLink) .none kV dc pm an cd ct), sl⟩) (c : PySem.W.codeIn K cd "Net.has_link" = true) (k : PySem.W.keepIn K (.ref f) = true) : DfM K C "has_link" "Net.has_link" sNetHasLink ["self", "source", "reader"] :=
  have F := fun_mk (st := sNetHasLink) l c k
  ⟨f, _, F, ⟨a, i, k⟩, F.binds (ps := ["self", "source", "reader"]) fun _ _ _ _ _ _ us hl => match us, hl with | [_, _, _], _ => rfl⟩
theorem f_sNetReaders (a : PySem.W.findIn K (.ref C) "readers" = some (some (.ref f))) (i : PySem.W.isFn K (.ref f) = true) (l : K.lookup f = some ⟨oc, od, .func (PySem.W.fnOf "readers" "Net.readers" (defArgs sNetReaders) (defBody sNetReaders) (defScope sNetReaders) .none kV dc pm an cd ct), sl⟩) (c : PySem.W.codeIn K cd "Net.readers" = true) (k : PySem.W.keepIn K (.ref f) = true) : DfM K C "readers" "Net.readers" sNetReaders ["self", "source"] :=
  have F := fun_mk (st := sNetReaders) l c k
  ⟨f, _, F, ⟨a, i, k⟩, F.binds (ps := ["self", "source"]) fun _ _ _ _ _ _ us hl => match us, hl with | [_, _], _ => rfl⟩
theorem f_sNetWithLink (a : PySem.W.findIn K (.ref C) "with_link" = some (some (.ref f))) (i : PySem.W.isFn K (.ref f) = true) (l : K.lookup f = some ⟨oc, od, .func (PySem.W.fnOf "with_link" "Net.with_link" (defArgs sNetWithLink) (defBody sNetWithLink) (defScope sNetWithLink) .none kV dc pm an cd ct), sl⟩) (c : PySem.W.codeIn K cd "Net.with_link" = true) (k : PySem.W.keepIn K (.ref f) = true) : DfM K C "with_link" "Net.with_link" sNetWithLink ["self", "source", "reader"] :=
  have F := fun_mk (st := sNetWithLink) l c k
  ⟨f, _, F, ⟨a, i, k⟩, F.binds (ps := ["self", "source", "reader"]) fun _ _ _ _ _ _ us hl => match us, hl with | [_, _, _], _ => rfl⟩
theorem f_sNetWithoutLink (a : PySem.W.findIn K (.ref C) "without_link" = some (some (.ref f))) (i : PySem.W.isFn K (.ref f) = true) (l : K.lookup f = some ⟨oc, od, .func (PySem.W.fnOf "without_link" "Net.without_link" (defArgs sNetWithoutLink) (defBody sNetWithoutLink) (defScope sNetWithoutLink) .none kV dc pm an cd ct), sl⟩) (c : PySem.W.codeIn K cd "Net.without_link" = true) (k : PySem.W.keepIn K (.ref f) = true) : DfM K C "without_link" "Net.without_link" sNetWithoutLink ["self", "source", "reader"] :=
  have F := fun_mk (st := sNetWithoutLink) l c k
  ⟨f, _, F, ⟨a, i, k⟩, F.binds (ps := ["self", "source", "reader"]) fun _ _ _ _ _ _ us hl => match us, hl with | [_, _, _], _ => rfl⟩
theorem f_sNetLinks (a : PySem.W.findIn K (.ref C) "links" = some (some (.ref p))) (i : PySem.W.specialIn K (.ref p) "__get__" = some (some (.builtin "property.__get__"))) (e : PySem.W.takesIn K (.ref p) = some true) (r : PySem.W.recIn K p "property" = some (.ref g :: rest)) (l : K.lookup g = some ⟨oc, od, .func (PySem.W.fnOf "links" "Net.links" (defArgs sNetLinks) (defBody sNetLinks) (defScope sNetLinks) .none kV dc pm an cd ct), sl⟩) (c : PySem.W.codeIn K cd "Net.links" = true) (k : PySem.W.keepIn K (.ref g) = true) : DfP K C "links" "Net.links" sNetLinks ["self"] :=
  have F := fun_mk (st := sNetLinks) l c k
  ⟨p, g, _, F, ⟨a, i, e, rest, r⟩, F.binds (ps := ["self"]) fun _ _ _ _ _ _ us hl => match us, hl with | [_], _ => rfl⟩
theorem f_sNetInit (e : PySem.W.makesIn K C = true) (a : PySem.W.findIn K (.ref C) "__init__" = some (some (.ref f))) (i : PySem.W.isFn K (.ref f) = true) (j : PySem.W.keepIn K (.ref C) = true) (l : K.lookup f = some ⟨oc, od, .func (PySem.W.fnOf "__init__" "Net.__init__" (defArgs sNetInit) (defBody sNetInit) (defScope sNetInit) .none kV dc pm an cd ct), sl⟩) (c : PySem.W.codeIn K cd "Net.__init__" = true) (k : PySem.W.keepIn K (.ref f) = true) : DfI K C "Net.__init__" sNetInit ["self", "count", "links"] :=
  have F := fun_mk (st := sNetInit) l c k
  ⟨f, _, F, ⟨e, a, i, j⟩, F.binds (ps := ["self", "count", "links"]) fun _ _ _ _ _ _ us hl => match us, hl with | [_, _, _], _ => rfl⟩
theorem f_sNetComplete (a : PySem.W.findCls K (.ref C) mc "complete" = some (.get (.builtin "classmethod.__get__") (.ref p) .none (.ref C))) (r : PySem.W.recIn K p "classmethod" = some (.ref g :: rest)) (i : PySem.W.fnIn K g = true) (l : K.lookup g = some ⟨oc, od, .func (PySem.W.fnOf "complete" "Net.complete" (defArgs sNetComplete) (defBody sNetComplete) (defScope sNetComplete) .none kV dc pm an cd ct), sl⟩) (c : PySem.W.codeIn K cd "Net.complete" = true) (k : PySem.W.keepIn K (.ref g) = true) : DfC K C mc "complete" "Net.complete" sNetComplete ["cls", "count"] :=
  have F := fun_mk (st := sNetComplete) l c k
  ⟨p, g, _, F, ⟨a, ⟨rest, r⟩, i⟩, F.binds (ps := ["cls", "count"]) fun _ _ _ _ _ _ us hl => match us, hl with | [_, _], _ => rfl⟩
theorem f_sNetRing (a : PySem.W.findCls K (.ref C) mc "ring" = some (.get (.builtin "classmethod.__get__") (.ref p) .none (.ref C))) (r : PySem.W.recIn K p "classmethod" = some (.ref g :: rest)) (i : PySem.W.fnIn K g = true) (l : K.lookup g = some ⟨oc, od, .func (PySem.W.fnOf "ring" "Net.ring" (defArgs sNetRing) (defBody sNetRing) (defScope sNetRing) .none kV dc pm an cd ct), sl⟩) (c : PySem.W.codeIn K cd "Net.ring" = true) (k : PySem.W.keepIn K (.ref g) = true) : DfC K C mc "ring" "Net.ring" sNetRing ["cls", "count"] :=
  have F := fun_mk (st := sNetRing) l c k
  ⟨p, g, _, F, ⟨a, ⟨rest, r⟩, i⟩, F.binds (ps := ["cls", "count"]) fun _ _ _ _ _ _ us hl => match us, hl with | [_, _], _ => rfl⟩
theorem f_sEI (a : PySem.W.findIn K (.ref C) "__init__" = some (some (.ref f))) (i : PySem.W.typeIn K (.ref f) = some (.type "function")) (l : K.lookup f = some ⟨oc, od, .func (PySem.W.fnOf "__init__" "InvalidNet.__init__" (defArgs sEI) (defBody sEI) (defScope sEI) .none kV dc pm an cd ct), sl⟩) (c : PySem.W.codeIn K cd "InvalidNet.__init__" = true) (k : PySem.W.keepIn K (.ref f) = true) : DfE K C "InvalidNet.__init__" sEI ["self", "link"] :=
  have F := fun_mk (st := sEI) l c k
  ⟨f, _, F, a, i, F.binds (ps := ["self", "link"]) fun _ _ _ _ _ _ us hl => match us, hl with | [_, _], _ => rfl⟩
theorem f_sEU (a : PySem.W.findIn K (.ref C) "__init__" = some (some (.ref f))) (i : PySem.W.typeIn K (.ref f) = some (.type "function")) (l : K.lookup f = some ⟨oc, od, .func (PySem.W.fnOf "__init__" "UnknownReplica.__init__" (defArgs sEU) (defBody sEU) (defScope sEU) .none kV dc pm an cd ct), sl⟩) (c : PySem.W.codeIn K cd "UnknownReplica.__init__" = true) (k : PySem.W.keepIn K (.ref f) = true) : DfE K C "UnknownReplica.__init__" sEU ["self", "replica"] :=
  have F := fun_mk (st := sEU) l c k
  ⟨f, _, F, a, i, F.binds (ps := ["self", "replica"]) fun _ _ _ _ _ _ us hl => match us, hl with | [_, _], _ => rfl⟩
theorem f_sEL (a : PySem.W.findIn K (.ref C) "__init__" = some (some (.ref f))) (i : PySem.W.typeIn K (.ref f) = some (.type "function")) (l : K.lookup f = some ⟨oc, od, .func (PySem.W.fnOf "__init__" "NotLinked.__init__" (defArgs sEL) (defBody sEL) (defScope sEL) .none kV dc pm an cd ct), sl⟩) (c : PySem.W.codeIn K cd "NotLinked.__init__" = true) (k : PySem.W.keepIn K (.ref f) = true) : DfE K C "NotLinked.__init__" sEL ["self", "source", "reader"] :=
  have F := fun_mk (st := sEL) l c k
  ⟨f, _, F, a, i, F.binds (ps := ["self", "source", "reader"]) fun _ _ _ _ _ _ us hl => match us, hl with | [_, _, _], _ => rfl⟩
end
theorem all_ok {P : Program} {w : World} {K : PySem.W.Frag} {mg : Str → Option Value} {base : Heap} {CN CI CU CL CT CS c Pt : Addr} {mc mu : Value} (T : LTx K mg CN CI CU CT CS mc mu) (mgNL : mg "NotLinked" = some (.ref CL)) (noI : PySem.W.findIn K (.ref CI) "link" = some none) (noL1 : PySem.W.findIn K (.ref CL) "source" = some none) (noL2 : PySem.W.findIn K (.ref CL) "reader" = some none) (oxI : OexC K CI ∧ IsX K CI) (oxU : OexC K CU ∧ IsX K CU) (oxL : OexC K CL ∧ IsX K CL) (TB : GxR.TabB base mg c Pt)
    (dDraw : Df K mg "_law_draw" sDraw ["box", "many"])
    (dGreat : Df K mg "_law_great" sGreat ["box"])
    (dIsInt : Df K mg "_law_is_int" sIsInt ["actual"])
    (dStranger : Df K mg "_law_stranger" sStranger ["box", "count"])
    (dTruth : Df K mg "_law_truth" sTruth ["actual", "due"])
    (dCount : Df K mg "_law_count" sCount ["box"])
    (dIntsAre : Df K mg "_law_ints_are" sIntsAre ["told", "due"])
    (dBox : Df K mg "_law_box" sBox ["script"])
    (dStep : Df K mg "_law_step" sStep ["box"])
    (dCheckCount : Df K mg "check_count" sCheckCount ["count"])
    (dCheckPair : Df K mg "check_pair" sCheckPair ["count", "link"])
    (dCheckReplica : Df K mg "check_replica" sCheckReplica ["net", "replica"])
    (dCheckLink : Df K mg "check_link" sCheckLink ["net", "source", "reader"])
    (dShuffle : Df K mg "_law_shuffle" sShuffle ["box", "count"])
    (dPutTree : Df K mg "_law_put_tree" sPutTree ["box", "table", "count", "members"])
    (dPairs : Df K mg "_law_pairs" sPairs ["count", "table", "members", "there"])
    (dPutRing : Df K mg "_law_put_ring" sPutRing ["table", "count", "members"])
    (dPutDrawn : Df K mg "_law_put_drawn" sPutDrawn ["box", "table", "count", "both"])
    (dPutTwo : Df K mg "_law_put_two_rings" sPutTwo ["box", "table", "count", "order"])
    (dPutMore : Df K mg "_law_put_more" sPutMore ["box", "table", "count"])
    (dPutForest : Df K mg "_law_put_forest" sPutForest ["box", "table", "count", "order"])
    (dWorld : Df K mg "_law_world" sWorld ["box", "count"])
    (dReachWithin : Df K mg "reach_within" sReachWithin ["net", "starts", "allowed"])
    (dReachesAll : Df K mg "reaches_all" sReachesAll ["net"])
    (dIsStrong : Df K mg "is_strong" sIsStrong ["net"])
    (dIsRing : Df K mg "is_ring" sIsRing ["net"])
    (dIsComplete : Df K mg "is_complete" sIsComplete ["net"])
    (dIsTree : Df K mg "is_tree" sIsTree ["net"])
    (dLawReach : Df K mg "_law_reach" sLawReach ["count", "table", "starts", "allowed"])
    (dKindsAre : Df K mg "_law_kinds_are" sKindsAre ["net", "count", "table"])
    (dSome : Df K mg "_law_some" sSome ["box", "count"])
    (dAsked : Df K mg "_law_asked" sAsked ["net", "starts", "allowed"])
    (dReachIs : Df K mg "_law_reach_is" sReachIs ["net", "count", "table", "starts", "allowed"])
    (dNetIs : Df K mg "_law_net_is" sNetIs ["box", "net", "count", "table"])
    (dNear : Df K mg "_law_near" sNear ["box", "net", "count", "table", "there"])
    (dIsTwoWay : DfT K mg "is_two_way" sIsTwoWay ["net"] c)
    (mNetHasLink : DfM K CN "has_link" "Net.has_link" sNetHasLink ["self", "source", "reader"])
    (mNetReaders : DfM K CN "readers" "Net.readers" sNetReaders ["self", "source"])
    (mNetWithLink : DfM K CN "with_link" "Net.with_link" sNetWithLink ["self", "source", "reader"])
    (mNetWithoutLink : DfM K CN "without_link" "Net.without_link" sNetWithoutLink ["self", "source", "reader"])
    (mNetLinks : DfP K CN "links" "Net.links" sNetLinks ["self"])
    (mNetInit : DfI K CN "Net.__init__" sNetInit ["self", "count", "links"])
    (mNetComplete : DfC K CN mc "complete" "Net.complete" sNetComplete ["cls", "count"])
    (mNetRing : DfC K CN mc "ring" "Net.ring" sNetRing ["cls", "count"])
    (eEI : DfE K CI "InvalidNet.__init__" sEI ["self", "link"])
    (eEU : DfE K CU "UnknownReplica.__init__" sEU ["self", "replica"])
    (eEL : DfE K CL "NotLinked.__init__" sEL ["self", "source", "reader"])
    {f : Addr} {fd : FuncData} (F : L2.Fun K "law" "law" sLaw f fd) : FnOk P w K mg base CX0 18 f fd ["script"] (spLaw K Pt) := by
  have MInvalidNet : Mke P w K mg base 1 "InvalidNet" CI (spErr1 CI "link") := (let ⟨f, fd, F, a, i, b⟩ := eEI; ⟨⟨oxI.1, T.mgInvalidNet, oxI.2⟩, f, fd, _, a, i, ok_EI F oxI.1 noI, b⟩)
  have MUnknownReplica : Mke P w K mg base 1 "UnknownReplica" CU (spErr1 CU "replica") := (let ⟨f, fd, F, a, i, b⟩ := eEU; ⟨⟨oxU.1, T.mgUnknownReplica, oxU.2⟩, f, fd, _, a, i, ok_EU F oxU.1 T.noU, b⟩)
  have MNotLinked : Mke P w K mg base 1 "NotLinked" CL (spErr2 CL "source" "reader") := (let ⟨f, fd, F, a, i, b⟩ := eEL; ⟨⟨oxL.1, mgNL, oxL.2⟩, f, fd, _, a, i, ok_EL F oxL.1 noL1 noL2, b⟩)
  have DH : DfH K CN := (let ⟨f, fd, F, a, b⟩ := mNetHasLink; ⟨f, fd, F, a, b⟩)
  have GDraw : C8.Cal P w K mg base 1 "_law_draw" spDraw [] := ok_Draw dDraw T.toNTx.toTxt
  have GGreat : C8.Cal P w K mg base 2 "_law_great" spGreat [] := ok_Great dGreat T.toNTx.toTxt GDraw
  have GIsInt : C8.Cal P w K mg base 1 "_law_is_int" spIsInt [] := ok_IsInt dIsInt T.toNTx.toTxt
  have GStranger : C8.Cal P w K mg base 3 "_law_stranger" spStranger [] := ok_Stranger dStranger T.toNTx.toTxt GDraw GGreat
  have GTruth : C8.Cal P w K mg base 1 "_law_truth" spTruth [] := ok_Truth dTruth T.toNTx.toTxt
  have GCount : C8.Cal P w K mg base 2 "_law_count" spCount [] := ok_Count dCount T.toNTx.toTxt GDraw
  have GIntsAre : C8.Cal P w K mg base 2 "_law_ints_are" spIntsAre [] := ok_IntsAre dIntsAre T.toNTx.toTxt GIsInt
  have GBox : C8.Cal P w K mg base 1 "_law_box" (spBox K) [] := ok_Box dBox T.toNTx.toTxt
  have GStep : C8.Cal P w K mg base 1 "_law_step" spStep [] := ok_Step dStep T.toNTx.toTxt
  have GCheckCount : CalX P w K mg base 3 "check_count" (spCheckCount CI) := ok_CheckCount dCheckCount T.toNTx MInvalidNet
  have GCheckPair : CalX P w K mg base 3 "check_pair" (spCheckPair CI) := ok_CheckPair dCheckPair T.toNTx MInvalidNet
  have GCheckReplica : CalX P w K mg base 3 "check_replica" (spCheckReplica CN CU) := ok_CheckReplica dCheckReplica T.toNTx MUnknownReplica
  have KNetHasLink : C8.Met P w K mg base 1 CN "has_link" (spHas CN) [] := (let ⟨f, fd, F, a, b⟩ := mNetHasLink; ⟨f, fd, _, [], T.cl, a, ok_NetHasLink F T.toNTx, b, .nil⟩)
  have GCheckLink : CalX P w K mg base 3 "check_link" (spCheckLink CN CL) := ok_CheckLink dCheckLink T.toNTx MNotLinked KNetHasLink
  have KNetLinks : PropC P w K mg base 1 CN "links" (spLinks CN) := (let ⟨p, g, fd, F, a, b⟩ := mNetLinks; ⟨p, g, fd, _, T.cl, a, ok_NetLinks F T.toNTx, b⟩)
  have KNetReaders : MetX P w K mg base 5 CN "readers" (spReaders CN CU) := (let ⟨f, fd, F, a, b⟩ := mNetReaders; ⟨f, fd, _, T.cl, a, ok_NetReaders F T.toNTx GCheckReplica, b⟩)
  have KNetInit : MakX P w K mg base 5 "Net" CN (spInit CN CI) := (let ⟨f, fd, F, a, b⟩ := mNetInit; ⟨f, fd, _, a, ok_NetInit F T.toNTx GCheckCount GCheckPair, T.mgNet, b⟩)
  have KNetRing : ClmX P w K mg base 7 CN "ring" (spNamed CN CI ringR) := (let ⟨p, g, fd, F, a, b⟩ := mNetRing; ⟨p, g, fd, _, mc, T.rd, a, ok_NetRing F T.toNTx GCheckCount KNetInit, b⟩)
  have KNetComplete : ClmX P w K mg base 7 CN "complete" (spNamed CN CI wholeR) := (let ⟨p, g, fd, F, a, b⟩ := mNetComplete; ⟨p, g, fd, _, mc, T.rd, a, ok_NetComplete F T.toNTx GCheckCount KNetInit, b⟩)
  have KNetWithLink : MetX P w K mg base 7 CN "with_link" (spWith CN CI) := (let ⟨f, fd, F, a, b⟩ := mNetWithLink; ⟨f, fd, _, T.cl, a, ok_NetWithLink F T.toNTx KNetInit KNetLinks, b⟩)
  have KNetWithoutLink : MetX P w K mg base 7 CN "without_link" (spWithout CN CL) := (let ⟨f, fd, F, a, b⟩ := mNetWithoutLink; ⟨f, fd, _, T.cl, a, ok_NetWithoutLink F T.toNTx KNetInit KNetLinks GCheckLink, b⟩)
  have GShuffle : C8.Cal P w K mg base 2 "_law_shuffle" spShuffle [] := ok_Shuffle dShuffle T.toNTx.toTxt GDraw
  have GPutTree : C8.Cal P w K mg base 2 "_law_put_tree" spPutTree [] := ok_PutTree dPutTree T.toNTx.toTxt GDraw
  have GPairs : C8.Cal P w K mg base 1 "_law_pairs" spPairs [] := ok_Pairs dPairs T.toNTx.toTxt
  have GPutRing : C8.Cal P w K mg base 1 "_law_put_ring" spPutRing [] := ok_PutRing dPutRing T.toNTx.toTxt
  have GPutDrawn : C8.Cal P w K mg base 2 "_law_put_drawn" spPutDrawn [] := ok_PutDrawn dPutDrawn T.toNTx.toTxt GDraw
  have GPutTwo : C8.Cal P w K mg base 2 "_law_put_two_rings" spPutTwo [] := ok_PutTwo dPutTwo T.toNTx.toTxt GDraw GPutRing
  have GPutMore : C8.Cal P w K mg base 2 "_law_put_more" spPutMore [] := ok_PutMore dPutMore T.toNTx.toTxt GDraw GPairs
  have GPutForest : C8.Cal P w K mg base 3 "_law_put_forest" spPutForest [] := ok_PutForest dPutForest T.toNTx.toTxt GDraw GPutTree GPairs
  have GWorld : C8.Cal P w K mg base 4 "_law_world" spWorld [] := ok_World dWorld T.toNTx.toTxt GDraw GPairs GPutRing GShuffle GPutTree GPutDrawn GPutMore GPutTwo GPutForest
  have GReachWithin : CalX P w K mg base 6 "reach_within" (spReach CN CU) := ok_ReachWithin dReachWithin T.toNTx GCheckReplica KNetReaders
  have GReachesAll : C8.Cal P w K mg base 7 "reaches_all" (spReachesAll CN) [] := ok_ReachesAll dReachesAll T.toNTx GReachWithin
  have GIsStrong : C8.Cal P w K mg base 8 "is_strong" (spStrong CN) [] := ok_IsStrong dIsStrong T.toNTx GReachesAll KNetInit KNetLinks
  have GIsRing : C8.Cal P w K mg base 9 "is_ring" (spIsRing CN) [] := ok_IsRing dIsRing T.toNTx KNetRing KNetLinks
  have GIsComplete : C8.Cal P w K mg base 9 "is_complete" (spIsComplete CN) [] := ok_IsComplete dIsComplete T.toNTx KNetComplete KNetLinks
  have GIsTwoWay : C8.Cal P w K mg base 9 "is_two_way" (spTwoWay CN Pt) [] := ok_IsTwoWay dIsTwoWay T.toNTx T.all TB DH KNetLinks
  have GIsTree : C8.Cal P w K mg base 11 "is_tree" (spIsTree CN Pt) [] := ok_IsTree dIsTree T.toNTx GIsTwoWay GIsStrong KNetLinks
  have GLawReach : C8.Cal P w K mg base 1 "_law_reach" spLawReach [] := ok_LawReach dLawReach T.toNTx.toTxt
  have GKindsAre : C8.Cal P w K mg base 12 "_law_kinds_are" (spKindsAre CN Pt) [] := ok_KindsAre dKindsAre T.toNTx GLawReach GTruth GIsTwoWay GIsStrong GIsTree GIsRing GIsComplete
  have GSome : C8.Cal P w K mg base 4 "_law_some" spSome [] := ok_Some dSome T.toNTx.toTxt GDraw GShuffle GStranger
  have GAsked : C8.Cal P w K mg base 8 "_law_asked" (spAsked CN) [] := ok_Asked dAsked T GReachWithin
  have GReachIs : C8.Cal P w K mg base 10 "_law_reach_is" (spReachIs CN) [] := ok_ReachIs dReachIs T GLawReach GAsked GIsInt GIntsAre
  have GNetIs : C8.Cal P w K mg base 14 "_law_net_is" (spNetIs CN Pt) [] := ok_NetIs dNetIs T GKindsAre GSome GReachIs
  have GNear : C8.Cal P w K mg base 16 "_law_near" (spNear CN Pt) [] := ok_Near dNear T GDraw GPairs KNetInit KNetWithoutLink KNetWithLink GNetIs
  exact fn_Law F T GDraw GPairs GBox GStep GCount GWorld KNetInit GNetIs GNear GKindsAre
/-- the law, as it stands in the row, with the table of is_two_way's code -/
def AtT (P : Program) (w : World) (K : PySem.W.Frag) (mg : Str → Option Value) (fa c Pt : Addr) : Prop := ∃ fd : FuncData, (∀ (s : Shared) (v : Value), BindsTo s fd ⟨[v], []⟩ [("script", v)]) ∧ ∀ base : Heap, K.In base → base.Ns mainGlobals mg → GxR.TabB base mg c Pt → FnOk P w K mg base CX0 18 fa fd ["script"] (spLaw K Pt)
theorem all_mk {P : Program} {w : World} {K : PySem.W.Frag} {h : Heap} {mg : Str → Option Value} {fa f CN CI CU CL CT CS c Pt : Addr} {mc oc kV dc pm cd ct : Value} {tk : Tok} {od an : Option Addr} {sl : Array (Option Value)} (X : K.In h) (G : h.Ns mainGlobals mg)
    (fa_ : mg "law" = some (.ref fa))
    (aN : PySem.W.nsIn K mainGlobals "Net" = some (some (.ref CN)))
    (aI : PySem.W.nsIn K mainGlobals "InvalidNet" = some (some (.ref CI)))
    (aU : PySem.W.nsIn K mainGlobals "UnknownReplica" = some (some (.ref CU)))
    (aL : PySem.W.nsIn K mainGlobals "NotLinked" = some (some (.ref CL)))
    (aT : PySem.W.nsIn K mainGlobals "NotTree" = some (some (.ref CT)))
    (aS : PySem.W.nsIn K mainGlobals "StoreError" = some (some (.ref CS)))
    (zV : PySem.W.nsIn K mainGlobals "ValueError" = some none)
    (zAll : PySem.W.nsIn K mainGlobals "all" = some none)
    (z_len : PySem.W.nsIn K mainGlobals "len" = some none)
    (z_int : PySem.W.nsIn K mainGlobals "int" = some none)
    (z_bool : PySem.W.nsIn K mainGlobals "bool" = some none)
    (z_list : PySem.W.nsIn K mainGlobals "list" = some none)
    (z_tuple : PySem.W.nsIn K mainGlobals "tuple" = some none)
    (z_range : PySem.W.nsIn K mainGlobals "range" = some none)
    (z_isinstance : PySem.W.nsIn K mainGlobals "isinstance" = some none)
    (z_sum : PySem.W.nsIn K mainGlobals "sum" = some none)
    (z_max : PySem.W.nsIn K mainGlobals "max" = some none)
    (z_min : PySem.W.nsIn K mainGlobals "min" = some none)
    (z_set : PySem.W.nsIn K mainGlobals "set" = some none)
    (z_sorted : PySem.W.nsIn K mainGlobals "sorted" = some none)
    (tN : PySem.W.typeIn K (.ref CN) = some mc)
    (pg : PySem.W.plainGet K CN Str.empty = true)
    (hd : PySem.W.hasDictIn K CN = true)
    (po : PySem.W.plainOver K CN = true)
    (sa : PySem.W.findIn K (.ref CN) "__setattr__" = some (some (.builtin "object.__setattr__")))
    (rd : PySem.W.readsIn K CN mc = true)
    (rg : PySem.W.specialIn K (.ref CN) "__getattribute__" = some (some (.builtin "type.__getattribute__")))
    (mo : PySem.W.findCls K (.ref CN) mc "MOST" = some (.val (.int 24 tk)))
    (nc : PySem.W.findIn K (.ref CN) "count" = some none)
    (nl : PySem.W.findIn K (.ref CN) "_links" = some none)
    (noI : PySem.W.findIn K (.ref CI) "link" = some none)
    (noU : PySem.W.findIn K (.ref CU) "replica" = some none)
    (noL1 : PySem.W.findIn K (.ref CL) "source" = some none)
    (noL2 : PySem.W.findIn K (.ref CL) "reader" = some none)
    (sB : PySem.W.subIn K (.ref CS) (.type "BaseException") = some true)
    (sC : PySem.W.isClsIn K CS = true)
    (sT : PySem.W.typeIn K (.ref CS) = some (.type "type"))
    (uC : PySem.W.isClsIn K CT = true)
    (uT : PySem.W.typeIn K (.ref CT) = some (.type "type"))
    (sUS : PySem.W.subIn K (.ref CU) (.ref CS) = some true)
    (sUV : PySem.W.subIn K (.ref CU) (.type "ValueError") = some true)
    (sUI : PySem.W.subIn K (.ref CU) (.ref CI) = some false)
    (sUT : PySem.W.subIn K (.ref CU) (.ref CT) = some false)
    (nUI : CU ≠ CI)
    (nUT : CU ≠ CT)
    (oxI : OexC K CI ∧ IsX K CI) (oxU : OexC K CU ∧ IsX K CU) (oxL : OexC K CL ∧ IsX K CL)
    (dDraw : Df K mg "_law_draw" sDraw ["box", "many"])
    (dGreat : Df K mg "_law_great" sGreat ["box"])
    (dIsInt : Df K mg "_law_is_int" sIsInt ["actual"])
    (dStranger : Df K mg "_law_stranger" sStranger ["box", "count"])
    (dTruth : Df K mg "_law_truth" sTruth ["actual", "due"])
    (dCount : Df K mg "_law_count" sCount ["box"])
    (dIntsAre : Df K mg "_law_ints_are" sIntsAre ["told", "due"])
    (dBox : Df K mg "_law_box" sBox ["script"])
    (dStep : Df K mg "_law_step" sStep ["box"])
    (dCheckCount : Df K mg "check_count" sCheckCount ["count"])
    (dCheckPair : Df K mg "check_pair" sCheckPair ["count", "link"])
    (dCheckReplica : Df K mg "check_replica" sCheckReplica ["net", "replica"])
    (dCheckLink : Df K mg "check_link" sCheckLink ["net", "source", "reader"])
    (dShuffle : Df K mg "_law_shuffle" sShuffle ["box", "count"])
    (dPutTree : Df K mg "_law_put_tree" sPutTree ["box", "table", "count", "members"])
    (dPairs : Df K mg "_law_pairs" sPairs ["count", "table", "members", "there"])
    (dPutRing : Df K mg "_law_put_ring" sPutRing ["table", "count", "members"])
    (dPutDrawn : Df K mg "_law_put_drawn" sPutDrawn ["box", "table", "count", "both"])
    (dPutTwo : Df K mg "_law_put_two_rings" sPutTwo ["box", "table", "count", "order"])
    (dPutMore : Df K mg "_law_put_more" sPutMore ["box", "table", "count"])
    (dPutForest : Df K mg "_law_put_forest" sPutForest ["box", "table", "count", "order"])
    (dWorld : Df K mg "_law_world" sWorld ["box", "count"])
    (dReachWithin : Df K mg "reach_within" sReachWithin ["net", "starts", "allowed"])
    (dReachesAll : Df K mg "reaches_all" sReachesAll ["net"])
    (dIsStrong : Df K mg "is_strong" sIsStrong ["net"])
    (dIsRing : Df K mg "is_ring" sIsRing ["net"])
    (dIsComplete : Df K mg "is_complete" sIsComplete ["net"])
    (dIsTree : Df K mg "is_tree" sIsTree ["net"])
    (dLawReach : Df K mg "_law_reach" sLawReach ["count", "table", "starts", "allowed"])
    (dKindsAre : Df K mg "_law_kinds_are" sKindsAre ["net", "count", "table"])
    (dSome : Df K mg "_law_some" sSome ["box", "count"])
    (dAsked : Df K mg "_law_asked" sAsked ["net", "starts", "allowed"])
    (dReachIs : Df K mg "_law_reach_is" sReachIs ["net", "count", "table", "starts", "allowed"])
    (dNetIs : Df K mg "_law_net_is" sNetIs ["box", "net", "count", "table"])
    (dNear : Df K mg "_law_near" sNear ["box", "net", "count", "table", "there"])
    (dIsTwoWay : DfT K mg "is_two_way" sIsTwoWay ["net"] c)
    (mNetHasLink : DfM K CN "has_link" "Net.has_link" sNetHasLink ["self", "source", "reader"])
    (mNetReaders : DfM K CN "readers" "Net.readers" sNetReaders ["self", "source"])
    (mNetWithLink : DfM K CN "with_link" "Net.with_link" sNetWithLink ["self", "source", "reader"])
    (mNetWithoutLink : DfM K CN "without_link" "Net.without_link" sNetWithoutLink ["self", "source", "reader"])
    (mNetLinks : DfP K CN "links" "Net.links" sNetLinks ["self"])
    (mNetInit : DfI K CN "Net.__init__" sNetInit ["self", "count", "links"])
    (mNetComplete : DfC K CN mc "complete" "Net.complete" sNetComplete ["cls", "count"])
    (mNetRing : DfC K CN mc "ring" "Net.ring" sNetRing ["cls", "count"])
    (eEI : DfE K CI "InvalidNet.__init__" sEI ["self", "link"])
    (eEU : DfE K CU "UnknownReplica.__init__" sEU ["self", "replica"])
    (eEL : DfE K CL "NotLinked.__init__" sEL ["self", "source", "reader"])
    (f_a : PySem.W.nsIn K mainGlobals "law" = some (some (.ref f)))
    (f_l : K.lookup f = some ⟨oc, od, .func (PySem.W.fnOf "law" "law" (defArgs sLaw) (defBody sLaw) (defScope sLaw) .none kV dc pm an cd ct), sl⟩)
    (f_c : PySem.W.codeIn K cd "law" = true)
    (f_k : PySem.W.keepIn K (.ref f) = true) : AtT P w K mg fa c Pt := by
  have e := fa_.symm.trans (PySem.W.mg_of X G f_a)
  cases e
  have T : LTx K mg CN CI CU CT CS mc (.int 24 tk) := { len := PySem.W.mg_none_of X G z_len, int := PySem.W.mg_none_of X G z_int, bool := PySem.W.mg_none_of X G z_bool, list := PySem.W.mg_none_of X G z_list, tuple := PySem.W.mg_none_of X G z_tuple, range := PySem.W.mg_none_of X G z_range, isinstance := PySem.W.mg_none_of X G z_isinstance, sum := PySem.W.mg_none_of X G z_sum, max := PySem.W.mg_none_of X G z_max, min := PySem.W.mg_none_of X G z_min, set := PySem.W.mg_none_of X G z_set, sorted := PySem.W.mg_none_of X G z_sorted, cl := ⟨pg, hd, po, sa⟩, rd := ⟨rd, rg⟩, most := ⟨mo, ⟨_, rfl⟩⟩, n_count := nc, n__links := nl, mgNet := PySem.W.mg_of X G aN, all := PySem.W.mg_none_of X G zAll, mgInvalidNet := PySem.W.mg_of X G aI, mgUnknownReplica := PySem.W.mg_of X G aU, mgNotTree := PySem.W.mg_of X G aT, mgStoreError := PySem.W.mg_of X G aS, mgV := PySem.W.mg_none_of X G zV, isU := oxU.2, xU := exm_sub sB sC sT sUS, kUI := kit_other nUI oxI.2.cl oxI.1.tyC sUI, kUT := kit_other nUT uC uT sUT, kUU := kit_same, kUV := kit_value sUV, noU := noU }
  exact ⟨PySem.W.fnOf "law" "law" (defArgs sLaw) (defBody sLaw) (defScope sLaw) .none kV dc pm an cd ct, fun s v => .of_eq rfl, fun base _ _ TB => all_ok T (PySem.W.mg_of X G aL) noI noL1 noL2 oxI oxU oxL TB dDraw dGreat dIsInt dStranger dTruth dCount dIntsAre dBox dStep dCheckCount dCheckPair dCheckReplica dCheckLink dShuffle dPutTree dPairs dPutRing dPutDrawn dPutTwo dPutMore dPutForest dWorld dReachWithin dReachesAll dIsStrong dIsRing dIsComplete dIsTree dLawReach dKindsAre dSome dAsked dReachIs dNetIs dNear dIsTwoWay mNetHasLink mNetReaders mNetWithLink mNetWithoutLink mNetLinks mNetInit mNetComplete mNetRing eEI eEU eEL (fun_mk (st := sLaw) f_l f_c f_k)⟩
theorem tab_mk {K : PySem.W.Frag} {x : Str} {f c P : Addr} {oc cc : Value} {od dd : Option Addr} {sl ss : Array (Option Value)} {fd : FuncData} {vs : Array Value} (a : PySem.W.nsIn K mainGlobals x = some (some (.ref f))) (l : K.lookup f = some ⟨oc, od, .func fd, sl⟩) (e : fd.code = .ref c) (m : K.lookup c = some ⟨cc, dd, .fields vs, ss⟩) (v : (vs[11]? : Option Value) = some (.ref P)) : PySem.W.tabIn K x = some (c, P) := by
  unfold PySem.W.tabIn
  simp only [a, l, e, m, v]
theorem walk {l : PySem.W.OpenLaw} {q : Program} {loose : List Str} {XP : (Str → Option Value) → Heap → Prop} {YP : World → Heap → Prop} {d : DefRec} {K : Params → PySem.W.Frag} {c Pt : Addr} (hn : l.most = some 63) (hdf : d.params.defaults = []) (hY : ∀ (w : World) (h : Heap), YP w h → (K w.params).In h)
    (hd2 : ((PyProof.Rows.recsOf q).find? (fun e => e.name == ("is_two_way" : Str))).isSome = true) (hti : ∀ w : World, PySem.W.tabIn (K w.params) "is_two_way" = some (c, Pt)) (hnl : ∀ w : World, (K w.params).lookup Pt = none)
    (F : ∀ (w : World) (mg : Str → Option Value) (fa : Addr) (h : Heap), (K w.params).In h → h.Ns mainGlobals mg → mg d.name = some (.ref fa) → AtT l.prog w (K w.params) mg fa c Pt) :
    PySem.W.WalkO q loose XP YP l.row.toRowW d [] (fun f vs => PySem.call f vs) := by
  refine Att.attach_callB hn hdf fun w s0 s1 mg mb fa o pm cd doc a vs ns G Y ho hd hcd hmg hob hin hlen hbits hg => ?_
  have KX := hY w _ Y
  obtain ⟨fd, hb, hF⟩ := F w mg fa _ KX G.T.g hmg
  obtain ⟨d2, hd2⟩ := Option.isSome_iff_exists.mp hd2
  obtain ⟨hc, ht⟩ := PySem.W.tab_of G.T KX hd2 (hti w)
  have one : ∀ {A : Addr × Addr → Prop}, A (c, Pt) → ∀ p ∈ [(c, Pt)], A p := fun h p hp => by rw [List.mem_singleton.mp hp]; exact h
  exact LamX.law_callTs (CX := CX0) (k := 18) (sp := spLaw (K w.params) Pt) (cs := [(c, Pt)]) KX G.T.g G.T.b G.T.builtins G.T.nolimit hg (one ht) (one (hnl w)) (one hc) G.T.bmain hob hin (Nat.le_trans hlen (by decide)) ⟨rfl, by decide, by decide⟩
    (fun base X1 X2 tb => hF base X1 X2 (let t := tb _ (List.mem_singleton.mpr rfl); ⟨t.code, t.bm, t.gP⟩)) hb (fun H hH hS => ⟨a, ns, rfl, hS, hlen, ⟨#[], hH _ (List.mem_singleton.mpr rfl), trivial⟩, fun _ => rfl⟩) fun _ _ _ z => z
end K01

end
set_option Elab.async false
open PySem PySem.W PyProof.Rows in
set_option maxRecDepth 100000 in
set_option maxHeartbeats 0 in
theorem PySem.Challenge.cw_pullstore_k01_kinds_of_nets_holds : PySem.Challenge.rw_pullstore_k01_kinds_of_nets.Holds := by
  w_on; o_law; k_head; (case hw => w_witness2)
  k_fill
  refine' K01.walk (l := PySem.Challenge.rw_pullstore_k01_kinds_of_nets) rfl rfl (c := ?c) (Pt := ?Pt) (fun w h Y => PySem.W.kIn_of Y) ?hd2 ?hti ?hnl ?F
  case hd2 => kernel_rfl
  case hti =>
    intro w
    refine' K01.tab_mk ?a ?l ?e ?m ?v
    (case a => k_is)
    (case l => k_is)
    (case e => rfl)
    (case m => k_is)
    (case v => rfl)
  case hnl => intro w; first | k_is | rfl | kernel_rfl | decide
  case F =>
    intro w mg fa h KX G hmg
    refine' K01.all_mk KX G hmg ?aN ?aI ?aU ?aL ?aT ?aS ?zV ?zAll ?z_len ?z_int ?z_bool ?z_list ?z_tuple ?z_range ?z_isinstance ?z_sum ?z_max ?z_min ?z_set ?z_sorted ?tN ?pg ?hd ?po ?sa ?rd ?rg ?mo ?nc ?nl ?noI ?noU ?noL1 ?noL2 ?sB ?sC ?sT ?uC ?uT ?sUS ?sUV ?sUI ?sUT ?nUI ?nUT ?oxI ?oxU ?oxL ?dDraw ?dGreat ?dIsInt ?dStranger ?dTruth ?dCount ?dIntsAre ?dBox ?dStep ?dCheckCount ?dCheckPair ?dCheckReplica ?dCheckLink ?dShuffle ?dPutTree ?dPairs ?dPutRing ?dPutDrawn ?dPutTwo ?dPutMore ?dPutForest ?dWorld ?dReachWithin ?dReachesAll ?dIsStrong ?dIsRing ?dIsComplete ?dIsTree ?dLawReach ?dKindsAre ?dSome ?dAsked ?dReachIs ?dNetIs ?dNear ?dIsTwoWay ?mNetHasLink ?mNetReaders ?mNetWithLink ?mNetWithoutLink ?mNetLinks ?mNetInit ?mNetComplete ?mNetRing ?eEI ?eEU ?eEL ?f_a ?f_l ?f_c ?f_k
    (case aN => k_is)
    (case aI => k_is)
    (case aU => k_is)
    (case aL => k_is)
    (case aT => k_is)
    (case aS => k_is)
    (case zV => k_is)
    (case zAll => k_is)
    (case z_len => k_is)
    (case z_int => k_is)
    (case z_bool => k_is)
    (case z_list => k_is)
    (case z_tuple => k_is)
    (case z_range => k_is)
    (case z_isinstance => k_is)
    (case z_sum => k_is)
    (case z_max => k_is)
    (case z_min => k_is)
    (case z_set => k_is)
    (case z_sorted => k_is)
    (case tN => k_is)
    (case pg => k_is)
    (case hd => k_is)
    (case po => k_is)
    (case sa => k_is)
    (case rd => k_is)
    (case rg => k_is)
    (case mo => k_is)
    (case nc => k_is)
    (case nl => k_is)
    (case noI => k_is)
    (case noU => k_is)
    (case noL1 => k_is)
    (case noL2 => k_is)
    (case sB => k_is)
    (case sC => k_is)
    (case sT => k_is)
    (case uC => k_is)
    (case uT => k_is)
    (case sUS => k_is)
    (case sUV => k_is)
    (case sUI => k_is)
    (case sUT => k_is)
    (case nUI => decide)
    (case nUT => decide)
    (case oxI => refine' K01.err_mk ?yxL ?ysa ?yga ?ygg ?yex ?yty ?ykp ?yic ?ycc ?ycg ?ytk ?ymo ?yhd; (case yxL => k_is); (case ysa => k_is); (case yga => k_is); (case ygg => k_is); (case yex => k_is); (case yty => k_is); (case ykp => k_is); (case yic => k_is); (case ycc => k_is); (case ycg => k_is); (case ytk => k_is); (case ymo => k_is); (case yhd => k_is))
    (case oxU => refine' K01.err_mk ?yxL ?ysa ?yga ?ygg ?yex ?yty ?ykp ?yic ?ycc ?ycg ?ytk ?ymo ?yhd; (case yxL => k_is); (case ysa => k_is); (case yga => k_is); (case ygg => k_is); (case yex => k_is); (case yty => k_is); (case ykp => k_is); (case yic => k_is); (case ycc => k_is); (case ycg => k_is); (case ytk => k_is); (case ymo => k_is); (case yhd => k_is))
    (case oxL => refine' K01.err_mk ?yxL ?ysa ?yga ?ygg ?yex ?yty ?ykp ?yic ?ycc ?ycg ?ytk ?ymo ?yhd; (case yxL => k_is); (case ysa => k_is); (case yga => k_is); (case ygg => k_is); (case yex => k_is); (case yty => k_is); (case ykp => k_is); (case yic => k_is); (case ycc => k_is); (case ycg => k_is); (case ytk => k_is); (case ymo => k_is); (case yhd => k_is))
    (case dDraw => refine' K01.f_sDraw KX G ?ya ?yl ?yc ?yk; (case ya => k_is); (case yl => k_is); (case yc => k_is); (case yk => k_is))
    (case dGreat => refine' K01.f_sGreat KX G ?ya ?yl ?yc ?yk; (case ya => k_is); (case yl => k_is); (case yc => k_is); (case yk => k_is))
    (case dIsInt => refine' K01.f_sIsInt KX G ?ya ?yl ?yc ?yk; (case ya => k_is); (case yl => k_is); (case yc => k_is); (case yk => k_is))
    (case dStranger => refine' K01.f_sStranger KX G ?ya ?yl ?yc ?yk; (case ya => k_is); (case yl => k_is); (case yc => k_is); (case yk => k_is))
    (case dTruth => refine' K01.f_sTruth KX G ?ya ?yl ?yc ?yk; (case ya => k_is); (case yl => k_is); (case yc => k_is); (case yk => k_is))
    (case dCount => refine' K01.f_sCount KX G ?ya ?yl ?yc ?yk; (case ya => k_is); (case yl => k_is); (case yc => k_is); (case yk => k_is))
    (case dIntsAre => refine' K01.f_sIntsAre KX G ?ya ?yl ?yc ?yk; (case ya => k_is); (case yl => k_is); (case yc => k_is); (case yk => k_is))
    (case dBox => refine' K01.f_sBox KX G ?ya ?yl ?yc ?yk; (case ya => k_is); (case yl => k_is); (case yc => k_is); (case yk => k_is))
    (case dStep => refine' K01.f_sStep KX G ?ya ?yl ?yc ?yk; (case ya => k_is); (case yl => k_is); (case yc => k_is); (case yk => k_is))
    (case dCheckCount => refine' K01.f_sCheckCount KX G ?ya ?yl ?yc ?yk; (case ya => k_is); (case yl => k_is); (case yc => k_is); (case yk => k_is))
    (case dCheckPair => refine' K01.f_sCheckPair KX G ?ya ?yl ?yc ?yk; (case ya => k_is); (case yl => k_is); (case yc => k_is); (case yk => k_is))
    (case dCheckReplica => refine' K01.f_sCheckReplica KX G ?ya ?yl ?yc ?yk; (case ya => k_is); (case yl => k_is); (case yc => k_is); (case yk => k_is))
    (case dCheckLink => refine' K01.f_sCheckLink KX G ?ya ?yl ?yc ?yk; (case ya => k_is); (case yl => k_is); (case yc => k_is); (case yk => k_is))
    (case dShuffle => refine' K01.f_sShuffle KX G ?ya ?yl ?yc ?yk; (case ya => k_is); (case yl => k_is); (case yc => k_is); (case yk => k_is))
    (case dPutTree => refine' K01.f_sPutTree KX G ?ya ?yl ?yc ?yk; (case ya => k_is); (case yl => k_is); (case yc => k_is); (case yk => k_is))
    (case dPairs => refine' K01.f_sPairs KX G ?ya ?yl ?yc ?yk; (case ya => k_is); (case yl => k_is); (case yc => k_is); (case yk => k_is))
    (case dPutRing => refine' K01.f_sPutRing KX G ?ya ?yl ?yc ?yk; (case ya => k_is); (case yl => k_is); (case yc => k_is); (case yk => k_is))
    (case dPutDrawn => refine' K01.f_sPutDrawn KX G ?ya ?yl ?yc ?yk; (case ya => k_is); (case yl => k_is); (case yc => k_is); (case yk => k_is))
    (case dPutTwo => refine' K01.f_sPutTwo KX G ?ya ?yl ?yc ?yk; (case ya => k_is); (case yl => k_is); (case yc => k_is); (case yk => k_is))
    (case dPutMore => refine' K01.f_sPutMore KX G ?ya ?yl ?yc ?yk; (case ya => k_is); (case yl => k_is); (case yc => k_is); (case yk => k_is))
    (case dPutForest => refine' K01.f_sPutForest KX G ?ya ?yl ?yc ?yk; (case ya => k_is); (case yl => k_is); (case yc => k_is); (case yk => k_is))
    (case dWorld => refine' K01.f_sWorld KX G ?ya ?yl ?yc ?yk; (case ya => k_is); (case yl => k_is); (case yc => k_is); (case yk => k_is))
    (case dReachWithin => refine' K01.f_sReachWithin KX G ?ya ?yl ?yc ?yk; (case ya => k_is); (case yl => k_is); (case yc => k_is); (case yk => k_is))
    (case dReachesAll => refine' K01.f_sReachesAll KX G ?ya ?yl ?yc ?yk; (case ya => k_is); (case yl => k_is); (case yc => k_is); (case yk => k_is))
    (case dIsStrong => refine' K01.f_sIsStrong KX G ?ya ?yl ?yc ?yk; (case ya => k_is); (case yl => k_is); (case yc => k_is); (case yk => k_is))
    (case dIsRing => refine' K01.f_sIsRing KX G ?ya ?yl ?yc ?yk; (case ya => k_is); (case yl => k_is); (case yc => k_is); (case yk => k_is))
    (case dIsComplete => refine' K01.f_sIsComplete KX G ?ya ?yl ?yc ?yk; (case ya => k_is); (case yl => k_is); (case yc => k_is); (case yk => k_is))
    (case dIsTree => refine' K01.f_sIsTree KX G ?ya ?yl ?yc ?yk; (case ya => k_is); (case yl => k_is); (case yc => k_is); (case yk => k_is))
    (case dLawReach => refine' K01.f_sLawReach KX G ?ya ?yl ?yc ?yk; (case ya => k_is); (case yl => k_is); (case yc => k_is); (case yk => k_is))
    (case dKindsAre => refine' K01.f_sKindsAre KX G ?ya ?yl ?yc ?yk; (case ya => k_is); (case yl => k_is); (case yc => k_is); (case yk => k_is))
    (case dSome => refine' K01.f_sSome KX G ?ya ?yl ?yc ?yk; (case ya => k_is); (case yl => k_is); (case yc => k_is); (case yk => k_is))
    (case dAsked => refine' K01.f_sAsked KX G ?ya ?yl ?yc ?yk; (case ya => k_is); (case yl => k_is); (case yc => k_is); (case yk => k_is))
    (case dReachIs => refine' K01.f_sReachIs KX G ?ya ?yl ?yc ?yk; (case ya => k_is); (case yl => k_is); (case yc => k_is); (case yk => k_is))
    (case dNetIs => refine' K01.f_sNetIs KX G ?ya ?yl ?yc ?yk; (case ya => k_is); (case yl => k_is); (case yc => k_is); (case yk => k_is))
    (case dNear => refine' K01.f_sNear KX G ?ya ?yl ?yc ?yk; (case ya => k_is); (case yl => k_is); (case yc => k_is); (case yk => k_is))
    (case dIsTwoWay => refine' K01.f_sIsTwoWay KX G ?ya ?yl ?yq ?yk; (case ya => k_is); (case yl => k_is); (case yq => k_is); (case yk => k_is))
    (case mNetHasLink => refine' K01.f_sNetHasLink ?ya ?yi ?yl ?yc ?yk; (case ya => k_is); (case yi => k_is); (case yl => k_is); (case yc => k_is); (case yk => k_is))
    (case mNetReaders => refine' K01.f_sNetReaders ?ya ?yi ?yl ?yc ?yk; (case ya => k_is); (case yi => k_is); (case yl => k_is); (case yc => k_is); (case yk => k_is))
    (case mNetWithLink => refine' K01.f_sNetWithLink ?ya ?yi ?yl ?yc ?yk; (case ya => k_is); (case yi => k_is); (case yl => k_is); (case yc => k_is); (case yk => k_is))
    (case mNetWithoutLink => refine' K01.f_sNetWithoutLink ?ya ?yi ?yl ?yc ?yk; (case ya => k_is); (case yi => k_is); (case yl => k_is); (case yc => k_is); (case yk => k_is))
    (case mNetLinks => refine' K01.f_sNetLinks ?ya ?yi ?ye ?yr ?yl ?yc ?yk; (case ya => k_is); (case yi => k_is); (case ye => k_is); (case yr => k_is); (case yl => k_is); (case yc => k_is); (case yk => k_is))
    (case mNetInit => refine' K01.f_sNetInit ?ye ?ya ?yi ?yj ?yl ?yc ?yk; (case ye => k_is); (case ya => k_is); (case yi => k_is); (case yj => k_is); (case yl => k_is); (case yc => k_is); (case yk => k_is))
    (case mNetComplete => refine' K01.f_sNetComplete ?ya ?yr ?yi ?yl ?yc ?yk; (case ya => k_is); (case yr => k_is); (case yi => k_is); (case yl => k_is); (case yc => k_is); (case yk => k_is))
    (case mNetRing => refine' K01.f_sNetRing ?ya ?yr ?yi ?yl ?yc ?yk; (case ya => k_is); (case yr => k_is); (case yi => k_is); (case yl => k_is); (case yc => k_is); (case yk => k_is))
    (case eEI => refine' K01.f_sEI ?ya ?yi ?yl ?yc ?yk; (case ya => k_is); (case yi => k_is); (case yl => k_is); (case yc => k_is); (case yk => k_is))
    (case eEU => refine' K01.f_sEU ?ya ?yi ?yl ?yc ?yk; (case ya => k_is); (case yi => k_is); (case yl => k_is); (case yc => k_is); (case yk => k_is))
    (case eEL => refine' K01.f_sEL ?ya ?yi ?yl ?yc ?yk; (case ya => k_is); (case yi => k_is); (case yl => k_is); (case yc => k_is); (case yk => k_is))
    (case f_a => k_is)
    (case f_l => k_is)
    (case f_c => k_is)
    (case f_k => k_is)

