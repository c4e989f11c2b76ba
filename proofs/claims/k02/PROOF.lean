import PyProof.Rows.All
import Wide.All
import OpenK.AllK
import Wide.FinOn
import HandS.ForMost
import HandS.WordsExc
import HandS.Sort
import HandS.SortRule
import HandS.ExcInit
import HandS.ExcIs
import HandS.ExcField
import HandS.IsInst
import HandS.Conv
import HandS.Codes
import HandS.ClsMeth
import HandS.Property
import HandS.TupSets
import HandS.DictComp
import HandS.Evl
import KE.KEqSeq
import HandS.Wide
import HandS.Walk
import HandS.Iter
import KE.KExcIs
import HandS.ExcCtx
import HandS.AnyAll
import HandS.ExcOwn
import HandS.Small
import HandS.Dict
import HandS.DictEq
import HandS.HotCalls
import HandS.Comp
import HandS.EndTab
import PySem.Challenge.RW_pullstore_k02_tree_paths_and_sides
section
set_option Elab.async false
set_option linter.all false
set_option maxRecDepth 100000
set_option maxHeartbeats 4000000
namespace KR
open PySem PySem.Spec PyProof.Rows L2
/-- x not in range(..) -/
theorem opNotInRng {X : Cx} : OpR X (compareOp .NotIn) (fun x y H Q => ∃ i a lo hi, x = V.int i ∧ y = V.ref a ∧ H a = some (.rng lo hi) ∧ Q (.bl (!decide (lo ≤ i ∧ i < hi))) H) := by
  intro pins s σ H x y v u Q I rx ry h
  obtain ⟨i, a, lo, hi, rfl, rfl, ha, q⟩ := h
  obtain ⟨k, rfl⟩ := rx
  obtain rfl : u = Value.ref a := ry
  obtain ⟨t1, t2, t3, ho⟩ := I.hok a _ ha
  show wpAny _ _ (do return Value.bool (!(← contains (Value.ref a) (Value.int i k)))) _ _ s
  refine wpAny_bind (wpAny_contains_slot (T := "range") ⟨_, ho, rfl⟩ F.slot_range_contains ?_)
  refine call_meets F.slot_range_contains ⟨_, ho, rfl⟩ F.entry_range_contains (F.args_range_contains_2 _ _) (q_contains a lo hi i t1 t2 t3 k) ⟨ho, ?_⟩
  refine wpAny_truthy_bool (wpAny_pure ⟨.bl _, H, I, rfl, ?_⟩)
  rw [place1]
  exact q
/-- range(n) as a value -/
theorem crRange1 {X : Cx} : CallR X (.type "range") (fun vs H Q => ∃ j, vs = [V.int j] ∧ ∀ p, H p = none → Q (.ref p) (upd H p (.rng 0 j))) := by
  intro pins s σ H vs us Q I r h
  obtain ⟨j, rfl, q⟩ := h
  obtain ⟨u1, rfl, rj⟩ := vals1 r
  obtain ⟨u, rfl⟩ := rj
  have fr := I.hok.fresh (Nat.le_refl s.heap.objs.size)
  refine call_range_1 ⟨V.ref s.heap.objs.size, upd H s.heap.objs.size (.rng 0 j), I.laid (t' := s.toks + 1 + 1) (fun b o e => Heap.get?_push_of_some _ e) (Nat.le_refl _) ?_, rfl, q _ fr⟩
  exact ⟨_, u, _, Heap.get?_push_size _ rfl⟩
end KR
namespace Kit
open PySem L2
theorem ifD {p A B : Prop} [Decidable p] (h1 : p → A) (h2 : ¬ p → B) : if decide p = true then A else B := by
  by_cases h : p
  · rw [decide_eq_true h]; exact h1 h
  · rw [decide_eq_false h, if_neg Bool.false_ne_true]; exact h2 h
theorem ifN {p A B : Prop} [Decidable p] (h1 : p → B) (h2 : ¬ p → A) : if (!decide p) = true then A else B := by
  by_cases h : p
  · rw [decide_eq_true h]; exact h1 h
  · rw [decide_eq_false h]; exact h2 h
theorem ifEqI {i j : Int} {A B : Prop} (h1 : i = j → A) (h2 : i ≠ j → B) : if decide (V.int i = V.int j) = true then A else B :=
  ifD (fun h => h1 (V.int.inj h)) fun h => h2 fun e => h (congrArg V.int e)
theorem ifNeI {i j : Int} {A B : Prop} (h1 : i ≠ j → A) (h2 : i = j → B) : if (!decide (V.int i = V.int j)) = true then A else B :=
  ifN (fun h => h2 (V.int.inj h)) fun h => h1 fun e => h (congrArg V.int e)
theorem ifB {c : Bool} {A B : Prop} (h1 : c = true → A) (h2 : c = false → B) : if c = true then A else B := by
  cases c
  · exact iteF (h2 rfl)
  · exact iteT (h1 rfl)
theorem iteK {c : Bool} {A B : Prop} (h : c = true) (a : A) : if c = true then A else B := by
  rw [if_pos h]
  exact a
theorem iteKF {c : Bool} {A B : Prop} (h : c = false) (b : B) : if c = true then A else B := by
  rw [h]
  exact iteF b
theorem nifD {p A B : Prop} [Decidable p] (h1 : ¬ p → A) (h2 : p → B) : if (!decide p) = true then A else B := ifN h2 h1
theorem nifN {p A B : Prop} [Decidable p] (h1 : p → A) (h2 : ¬ p → B) : if (!(!decide p)) = true then A else B := by
  rw [Bool.not_not]
  exact ifD h1 h2
theorem nifEqI {i j : Int} {A B : Prop} (h1 : i ≠ j → A) (h2 : i = j → B) : if (!decide (V.int i = V.int j)) = true then A else B := ifNeI h1 h2
theorem nifNeI {i j : Int} {A B : Prop} (h1 : i = j → A) (h2 : i ≠ j → B) : if (!(!decide (V.int i = V.int j))) = true then A else B := by
  rw [Bool.not_not]
  exact ifEqI h1 h2
theorem nifB {c : Bool} {A B : Prop} (h1 : c = false → A) (h2 : c = true → B) : if (!c) = true then A else B := by
  cases c
  · exact iteT (h1 rfl)
  · exact iteF (h2 rfl)
theorem fm0 (i : Int) {n : Int} (h : 0 < n) : 0 ≤ i.fmod n := by
  rw [Int.fmod_eq_emod_of_nonneg _ (Int.le_of_lt h)]
  exact Int.emod_nonneg _ (Int.ne_of_gt h)
theorem fm1 (i : Int) {n : Int} (h : 0 < n) : i.fmod n < n := Int.fmod_lt_of_pos i h
theorem mulF {i j n : Int} (h : 0 < n) (h2 : n ≤ 2 ^ 64) : CMul (i.fmod n) j := .inl ⟨Int.lt_of_lt_of_le (by decide) (fm0 i h), Int.lt_of_lt_of_le (fm1 i h) h2⟩
/-- all but what stands at b is kept -/
def Kp (b : Addr) (H H' : Hp) : Prop := ∀ a o, a ≠ b → H a = some o → H' a = some o
theorem Kp.refl {b : Addr} {H : Hp} : Kp b H H := fun _ _ _ h => h
theorem Kp.trans {b : Addr} {H H1 H2 : Hp} (x : Kp b H H1) (y : Kp b H1 H2) : Kp b H H2 := fun a o n h => y a o n (x a o n h)
theorem Kp.tr {b : Addr} {H H1 H2 : Hp} (y : Kp b H1 H2) (x : Kp b H H1) : Kp b H H2 := x.trans y
theorem Kp.of {b : Addr} {H H1 : Hp} (x : Same H H1) : Kp b H H1 := fun a o _ h => x a o h
theorem Kp.new {b p : Addr} {H H1 : Hp} {o : HO} (x : Kp b H H1) (n : H1 p = none) : Kp b H (upd H1 p o) := fun a u m h => by
  have e := x a u m h
  rw [upd_ne (ne_of_none e n)]
  exact e
theorem Kp.at {b : Addr} {H H1 : Hp} {o : HO} (x : Kp b H H1) : Kp b H (upd H1 b o) := fun a u m h => by
  rw [upd_ne m]
  exact x a u m h
theorem Kp.mut {b p : Addr} {H H1 : Hp} {o : HO} (x : Kp b H H1) (n : H p = none) : Kp b H (upd H1 p o) := fun a u m h => by
  rw [upd_ne (ne_of_none h n)]
  exact x a u m h
theorem Kp.fr0 {b p : Addr} {H H1 : Hp} {u : HO} (x : Kp b H H1) (n : H1 p = none) (hb : H1 b = some u) : H p = none := by
  cases e : H p with
  | none => rfl
  | some o =>
    have nb : p ≠ b := fun z => by
      rw [z, hb] at n
      cases n
    rw [x p o nb e] at n
    cases n
theorem Same.tr {H H1 H2 : Hp} (y : Same H1 H2) (x : Same H H1) : Same H H2 := x.trans y
theorem Same.get {H H1 : Hp} {a : Addr} {o : HO} (x : Same H H1) (h : H a = some o) : H1 a = some o := x a o h
theorem Same.new {p : Addr} {H H1 : Hp} {o : HO} (x : Same H H1) (n : H1 p = none) : Same H (upd H1 p o) := fun a u h => by
  have e := x a u h
  rw [upd_ne (ne_of_none e n)]
  exact e
theorem Same.mut {p : Addr} {H H1 : Hp} {o : HO} (x : Same H H1) (n : H p = none) : Same H (upd H1 p o) := fun a u h => by
  rw [upd_ne (ne_of_none h n)]
  exact x a u h
def boxL (c : Addr) (x1 x2 x3 x4 : Int) : List V := [.ref c, .int x1, .int x2, .int x3, .int x4]
/-- the box at b, its cells at c -/
structure BoxOk (H : Hp) (b c : Addr) : Prop where
  ex : ∃ ns x1 x2 x3 x4, H b = some (.lst (boxL c x1 x2 x3 x4)) ∧ H c = some (.lst (List.map V.int ns)) ∧ 0 ≤ x1
/-- what cannot be the box -/
def NB (o : HO) : Prop := ∀ c x1 x2 x3 x4, o ≠ .lst (boxL c x1 x2 x3 x4)
theorem nb_tup {xs : List V} : NB (.tup xs) := fun _ _ _ _ _ q => by cases q
theorem nb_nil : NB (.lst []) := fun _ _ _ _ _ q => by cases q
theorem nb_ints {ns : List Int} : NB (.lst (ns.map V.int)) := fun _ _ _ _ _ q => by
  cases ns with
  | nil => cases q
  | cons n r => cases q
theorem nb_refs {as : List Addr} : NB (.lst (as.map V.ref)) := fun _ _ _ _ _ q => by
  match as with
  | [] => cases q
  | [_] => cases q
  | _ :: _ :: _ => cases q
theorem box_c {H : Hp} {b c d : Addr} {ns : List Int} {x1 x2 x3 x4 : Int} (hb : H b = some (.lst (boxL d x1 x2 x3 x4))) (hc : H c = some (.lst (ns.map V.int))) : c ≠ b := fun z => by
  rw [z, hb] at hc
  exact nb_ints d x1 x2 x3 x4 (Option.some.inj hc).symm
theorem nb_ins {C dx : Addr} {fs : List (Str × V)} : NB (.ins C dx fs) := fun _ _ _ _ _ q => by cases q
theorem nb_dT {kvs : List (List Key × V)} : NB (.dT kvs) := fun _ _ _ _ _ q => by cases q
theorem nb_frz {o : Obj} {u : HO} : NB (.frz o u) := fun _ _ _ _ _ q => by cases q
theorem BoxOk.ne {H : Hp} {a b c : Addr} {o : HO} (x : BoxOk H b c) (h : H a = some o) (d : NB o) : a ≠ b := fun z => by
  obtain ⟨ns, x1, x2, x3, x4, hb, _⟩ := x
  rw [z, hb] at h
  exact d c x1 x2 x3 x4 (Option.some.inj h).symm
theorem BoxOk.new {H : Hp} {b c p : Addr} {o : HO} (x : BoxOk H b c) (n : H p = none) : BoxOk (upd H p o) b c := by
  obtain ⟨ns, x1, x2, x3, x4, hb, hc, r⟩ := x
  exact ⟨ns, x1, x2, x3, x4, by rw [upd_ne (ne_of_none hb n)]; exact hb, by rw [upd_ne (ne_of_none hc n)]; exact hc, r⟩
theorem BoxOk.same {H H' : Hp} {b c : Addr} (s : Same H H') (x : BoxOk H b c) : BoxOk H' b c := by
  obtain ⟨ns, x1, x2, x3, x4, hb, hc, r⟩ := x
  exact ⟨ns, x1, x2, x3, x4, s _ _ hb, s _ _ hc, r⟩
/-- a list is changed that stood not at H0 -/
theorem BoxOk.mut {H0 H : Hp} {b c p : Addr} {o : HO} (x : BoxOk H b c) (x0 : BoxOk H0 b c) (n : H0 p = none) : BoxOk (upd H p o) b c := by
  obtain ⟨ns, x1, x2, x3, x4, hb, hc, r⟩ := x
  obtain ⟨ms, y1, y2, y3, y4, kb, kc, _⟩ := x0
  exact ⟨ns, x1, x2, x3, x4, by rw [upd_ne (ne_of_none kb n)]; exact hb, by rw [upd_ne (ne_of_none kc n)]; exact hc, r⟩
theorem BoxOk.there {H : Hp} {b c : Addr} (x : BoxOk H b c) : ∃ u, H b = some u := by
  obtain ⟨ns, x1, x2, x3, x4, hb, _⟩ := x
  exact ⟨_, hb⟩
theorem Kp.get {b c a : Addr} {H H' : Hp} {o : HO} (k : Kp b H H') (x : BoxOk H b c) (h : H a = some o) (d : NB o) : H' a = some o := k a o (x.ne h d) h
theorem Kp.free {b c p : Addr} {H H' : Hp} (k : Kp b H H') (x : BoxOk H' b c) (n : H' p = none) : H p = none := by
  obtain ⟨u, hu⟩ := x.there
  exact k.fr0 n hu
theorem cut_all {ns : List Int} {n : Int} (h : (ns.length : Int) ≤ n) : cutV (ns.map V.int) none (some n) = ns.map V.int := by
  have e : HT.sIx (ns.map V.int).length (ns.map V.int).length (some n) = (ns.map V.int).length := by
    show (HT.sIx _ _ _) = _
    simp only [HT.sIx, List.length_map]
    first
      | omega
      | (split <;> omega)
      | simp; omega
  unfold cutV
  rw [e]
  show ((ns.map V.int).drop 0).take ((ns.map V.int).length - 0) = _
  rw [List.drop_zero, Nat.sub_zero, List.take_length]
theorem dpInts {K : PySem.W.Frag} {H : Hp} : ∀ ns : List Int, DpAll K H (ns.map V.int) (ns.map PyData.int)
  | [] => .nil
  | n :: r => .cons (.int n) (dpInts r)
def prD (p : Int × Int) : PyData := .tuple [.int p.1, .int p.2]
theorem prD_lay : ∀ ps : List (Int × Int), PyData.canLayAll0 (ps.map prD) = true
  | [] => rfl
  | p :: r => by
    show (PyData.canLay0 (prD p) && PyData.canLayAll0 (r.map prD)) = true
    rw [prD_lay r] <;> rfl
theorem prD_deep : ∀ ps : List (Int × Int), PyData.depthAll (ps.map prD) ≤ 1
  | [] => Nat.zero_le _
  | p :: r => by
    show max (PyData.depth (prD p)) (PyData.depthAll (r.map prD)) ≤ 1
    exact Nat.max_le.mpr ⟨Nat.le_refl 1, prD_deep r⟩
theorem prD_shaped (ps : List (Int × Int)) : SeqAt.shaped (.list (ps.map prD)) = true := by
  refine Bool.and_eq_true_iff.mpr ⟨prD_lay ps, decide_eq_true ?_⟩
  show PyData.depthAll (ps.map prD) + 1 ≤ 64
  have := prD_deep ps
  omega
theorem eqv_ints (ns : List Int) : PyData.eqv (.list (ns.map PyData.int)) (.list (ns.map PyData.int)) = true := SeqAt.eqv_refl _ (Bool.and_eq_true_iff.mp (PySem.W.ke_shaped_ints ns)).1
theorem eqv_prs (ps : List (Int × Int)) : PyData.eqv (.list (ps.map prD)) (.list (ps.map prD)) = true := SeqAt.eqv_refl _ (prD_lay ps)
/-- tuples stay -/
def Tk (H H' : Hp) : Prop := ∀ a xs, H a = some (.tup xs) → H' a = some (.tup xs)
theorem Tk.refl {H : Hp} : Tk H H := fun _ _ h => h
theorem Tk.get {H H' : Hp} {t : Addr} {xs : List V} (h : H t = some (.tup xs)) (k : Tk H H') : H' t = some (.tup xs) := k t xs h
theorem Tk.tr {H H1 H2 : Hp} (y : Tk H1 H2) (x : Tk H H1) : Tk H H2 := fun a xs h => y a xs (x a xs h)
theorem Tk.new {H H1 : Hp} {p : Addr} {o : HO} (x : Tk H H1) (n : H1 p = none) : Tk H (upd H1 p o) := fun a xs h => by
  rw [upd_ne (ne_of_none (x a xs h) n)]
  exact x a xs h
theorem Tk.lst {H H1 : Hp} {p : Addr} {ys : List V} {o : HO} (x : Tk H H1) (n : H1 p = some (.lst ys)) : Tk H (upd H1 p o) := fun a xs h => by
  rw [upd_ne (ne_of (x a xs h) n (by intro q; cases q))]
  exact x a xs h
theorem Same.tk {H H1 : Hp} (x : Same H H1) : Tk H H1 := fun a xs h => x a _ h
theorem Kp.tk {b c : Addr} {H H1 : Hp} (x : Kp b H H1) (bx : BoxOk H b c) : Tk H H1 := fun a xs h => x.get bx h nb_tup
/-- at the addresses as: the pairs ps -/
def PrT (H : Hp) (as : List Addr) (ps : List (Int × Int)) : Prop := as.length = ps.length ∧ ∀ (i : Nat) (a : Addr) (p : Int × Int), as[i]? = some a → ps[i]? = some p → H a = some (.tup [.int p.1, .int p.2])
theorem PrT.mono {H H' : Hp} {as : List Addr} {ps : List (Int × Int)} (x : PrT H as ps) (k : Tk H H') : PrT H' as ps := ⟨x.1, fun i a p h1 h2 => k _ _ (x.2 i a p h1 h2)⟩
theorem PrT.nil {H : Hp} : PrT H [] [] := ⟨rfl, fun i a p h => by simp at h⟩
theorem PrT.tail {H : Hp} {a : Addr} {p : Int × Int} {as : List Addr} {ps : List (Int × Int)} (x : PrT H (a :: as) (p :: ps)) : PrT H as ps :=
  ⟨by have := x.1; simp at this; exact this, fun i b q h1 h2 => x.2 (i + 1) b q (by simpa using h1) (by simpa using h2)⟩
theorem dpPrs {K : PySem.W.Frag} {H : Hp} : ∀ {as : List Addr} {ps : List (Int × Int)}, PrT H as ps → DpAll K H (as.map V.ref) (ps.map prD)
  | [], [], _ => .nil
  | a :: as, p :: ps, x => .cons (.tup (SqT.of (x.2 0 a p rfl rfl)) (.cons (.int _) (.cons (.int _) .nil))) (dpPrs x.tail)
  | [], _ :: _, x => by have := x.1; simp at this
  | _ :: _, [], x => by have := x.1; simp at this
theorem PrT.snoc {H : Hp} {as : List Addr} {ps : List (Int × Int)} {t : Addr} {x y : Int} (h : PrT H as ps) (ht : H t = some (.tup [.int x, .int y])) : PrT H (as ++ [t]) (ps ++ [(x, y)]) := by
  refine ⟨by rw [List.length_append, List.length_append, h.1]; rfl, fun i a p h1 h2 => ?_⟩
  by_cases hi : i < as.length
  · rw [List.getElem?_append_left hi] at h1
    rw [List.getElem?_append_left (h.1 ▸ hi)] at h2
    exact h.2 i a p h1 h2
  · rw [List.getElem?_append_right (by omega)] at h1
    rw [List.getElem?_append_right (by have := h.1; omega)] at h2
    have e : i - as.length = 0 := by
      have := (List.getElem?_eq_some_iff.mp h1).1
      simp at this
      omega
    have e2 : i - ps.length = 0 := by rw [← h.1]; exact e
    rw [e] at h1
    rw [e2] at h2
    cases h1
    cases h2
    exact ht
theorem PrT.append {H : Hp} {as bs : List Addr} {ps qs : List (Int × Int)} (x : PrT H as ps) (y : PrT H bs qs) : PrT H (as ++ bs) (ps ++ qs) := by
  refine ⟨by rw [List.length_append, List.length_append, x.1, y.1], fun i a p h1 h2 => ?_⟩
  by_cases hi : i < as.length
  · rw [List.getElem?_append_left hi] at h1
    rw [List.getElem?_append_left (x.1 ▸ hi)] at h2
    exact x.2 i a p h1 h2
  · rw [List.getElem?_append_right (by omega)] at h1
    rw [List.getElem?_append_right (by have := x.1; omega), ← x.1] at h2
    exact y.2 _ a p h1 h2
theorem PrT.one {H : Hp} {t : Addr} {x y : Int} (h : H t = some (.tup [.int x, .int y])) : PrT H [t] [(x, y)] := PrT.snoc (as := []) (ps := []) PrT.nil h
theorem PrT.take {H : Hp} {as : List Addr} {ps : List (Int × Int)} (x : PrT H as ps) (k : Nat) : PrT H (as.take k) (ps.take k) := by
  refine ⟨by rw [List.length_take, List.length_take, x.1], fun i a p h1 h2 => ?_⟩
  rw [List.getElem?_take] at h1 h2
  by_cases h : i < k
  · rw [if_pos h] at h1 h2
    exact x.2 i a p h1 h2
  · rw [if_neg h] at h1
    cases h1
theorem PrT.drop {H : Hp} {as : List Addr} {ps : List (Int × Int)} (x : PrT H as ps) (k : Nat) : PrT H (as.drop k) (ps.drop k) := by
  refine ⟨by rw [List.length_drop, List.length_drop, x.1], fun i a p h1 h2 => ?_⟩
  rw [List.getElem?_drop] at h1 h2
  exact x.2 _ a p h1 h2
theorem PrT.ins {H : Hp} {as : List Addr} {ps : List (Int × Int)} {t : Addr} {x y : Int} (h : PrT H as ps) (ht : H t = some (.tup [.int x, .int y])) (k : Nat) : PrT H (as.take k ++ [t] ++ as.drop k) (ps.take k ++ [(x, y)] ++ ps.drop k) :=
  ((h.take k).append (PrT.one ht)).append (h.drop k)
theorem PrT.at {H : Hp} {as : List Addr} {ps : List (Int × Int)} {i : Nat} (h : PrT H as ps) (hi : i < ps.length) : ∃ a x y, as[i]? = some a ∧ ps[i]? = some (x, y) ∧ H a = some (.tup [.int x, .int y]) := by
  have h1 : i < as.length := by rw [h.1]; exact hi
  exact ⟨as[i], ps[i].1, ps[i].2, List.getElem?_eq_getElem h1, List.getElem?_eq_getElem hi, h.2 i _ _ (List.getElem?_eq_getElem h1) (List.getElem?_eq_getElem hi)⟩
theorem PrT.item {H : Hp} {as : List Addr} {ps : List (Int × Int)} {i : Nat} {v : V} (h : PrT H as ps) (e : (as.map V.ref)[i]? = some v) : ∃ a x y, v = V.ref a ∧ as[i]? = some a ∧ ps[i]? = some (x, y) ∧ H a = some (.tup [.int x, .int y]) := by
  rw [List.getElem?_map] at e
  cases q : as[i]? with
  | none => rw [q] at e; cases e
  | some a =>
    rw [q] at e
    have hi := (List.getElem?_eq_some_iff.mp q).1
    obtain ⟨b, x, y, e1, e2, e3⟩ := h.at (i := i) (by rw [← h.1]; exact hi)
    rw [q] at e1
    cases e1
    exact ⟨a, x, y, (Option.some.inj e).symm, rfl, e2, e3⟩
theorem at_of0 {α : Type} {xs : List α} {j : Nat} {v : α} (h : xs[j]? = some v) : atI xs (j : Int) = some v := atI_nat h
theorem at_ref {as : List Addr} {i : Nat} {a : Addr} {z : Int} (h : as[i]? = some a) (e : z = (i : Int)) : atI (as.map V.ref) z = some (V.ref a) := at_of e (by rw [List.getElem?_map, h]; rfl)
theorem ix0 {α : Type} {a : α} {l : List α} : atI (a :: l) 0 = some a := at_of0 (j := 0) rfl
theorem ix1 {α : Type} {a b : α} {l : List α} : atI (a :: b :: l) 1 = some b := at_of0 (j := 1) rfl
theorem ix2 {α : Type} {a b c : α} {l : List α} : atI (a :: b :: c :: l) 2 = some c := at_of0 (j := 2) rfl
theorem at_drawn {as : List Addr} {d : Int} (h0 : 0 ≤ d) (h1 : d < (((as.map V.ref).length : Nat) : Int)) : atI (as.map V.ref) d = some (V.ref (as.getD d.toNat 0)) := by
  rw [List.length_map] at h1
  have h : d.toNat < as.length := by omega
  refine at_ref (i := d.toNat) ?_ (by omega)
  rw [List.getD_eq_getElem?_getD, List.getElem?_eq_getElem h]
  rfl
theorem getD_at {as : List Addr} {d : Int} (h0 : 0 ≤ d) (h1 : d < (((as.map V.ref).length : Nat) : Int)) : as[d.toNat]? = some (as.getD d.toNat 0) := by
  rw [List.length_map] at h1
  have h : d.toNat < as.length := by omega
  rw [List.getD_eq_getElem?_getD, List.getElem?_eq_getElem h]
  rfl
theorem at_int {ns : List Int} {i : Nat} {n : Int} {z : Int} (h : ns[i]? = some n) (e : z = (i : Int)) : atI (ns.map V.int) z = some (V.int n) := at_of e (by rw [List.getElem?_map, h]; rfl)
theorem upd_new {H : Hp} {a p : Addr} {o u : HO} (h : H a = some u) (n : H p = none) : upd H p o a = some u := by
  rw [upd_ne (ne_of_none h n)]
  exact h
theorem upd_oth {H : Hp} {a p : Addr} {o u : HO} (h : H a = some u) (n : a ≠ p) : upd H p o a = some u := by
  rw [upd_ne n]
  exact h
end Kit

end
section
set_option Elab.async false
set_option linter.all false
set_option maxHeartbeats 4000000
namespace Kit
open PySem L2
/-! tables of links, pairs -/
def Good (n : Nat) (p : Int × Int) : Prop := 0 ≤ p.1 ∧ p.1 < n ∧ 0 ≤ p.2 ∧ p.2 < n ∧ p.1 ≠ p.2
instance (n : Nat) (p : Int × Int) : Decidable (Good n p) := by unfold Good; infer_instance
abbrev Rel := Nat → Nat → Bool
def hitP (p : Int × Int) (x y : Nat) : Bool := decide (p.1 = (x : Int) ∧ p.2 = (y : Int))
def relP (ps : List (Int × Int)) (both : Bool) : Rel := fun x y => ps.any fun p => hitP p x y || (both && hitP p y x)
theorem hit_nat (x0 y0 x y : Nat) : hitP ((x0 : Int), (y0 : Int)) x y = decide (x = x0 ∧ y = y0) := by
  unfold hitP
  exact decide_eq_decide.mpr ⟨fun h => ⟨by omega, by omega⟩, fun h => ⟨by show (x0 : Int) = _; omega, by show (y0 : Int) = _; omega⟩⟩
theorem relP_snoc (ps : List (Int × Int)) (both : Bool) (x0 y0 x y : Nat) : relP (ps ++ [((x0 : Int), (y0 : Int))]) both x y = (relP ps both x y || (decide (x = x0 ∧ y = y0) || (both && decide (y = x0 ∧ x = y0)))) := by
  unfold relP
  rw [List.any_append, List.any_cons, List.any_nil, Bool.or_false, hit_nat, hit_nat]
theorem relP_iff {ps : List (Int × Int)} {both : Bool} {x y : Nat} : relP ps both x y = true ↔ ((x : Int), (y : Int)) ∈ ps ∨ (both = true ∧ ((y : Int), (x : Int)) ∈ ps) := by
  unfold relP hitP
  simp only [List.any_eq_true, Bool.or_eq_true, Bool.and_eq_true, decide_eq_true_eq]
  constructor
  · rintro ⟨p, hp, h | h⟩
    · exact .inl (by rw [← h.1, ← h.2]; exact hp)
    · exact .inr ⟨h.1, by rw [← h.2.1, ← h.2.2]; exact hp⟩
  · rintro (h | ⟨b, h⟩)
    · exact ⟨_, h, .inl ⟨rfl, rfl⟩⟩
    · exact ⟨_, h, .inr ⟨b, rfl, rfl⟩⟩
structure IsTab (n : Nat) (T : List Int) (R : Rel) : Prop where
  len : T.length = n * n
  get : ∀ x y, x < n → y < n → T[x * n + y]? = some (if R x y = true then 1 else 0)
theorem ix_lt {n x y : Nat} (hx : x < n) (hy : y < n) : x * n + y < n * n := by
  have h : (x + 1) * n ≤ n * n := Nat.mul_le_mul_right n hx
  rw [Nat.add_mul, Nat.one_mul] at h
  omega
theorem ix_inj {n x y x' y' : Nat} (hy : y < n) (hy' : y' < n) (e : x * n + y = x' * n + y') : x = x' ∧ y = y' := by
  have h1 : (x * n + y) / n = x := by rw [Nat.mul_comm, Nat.mul_add_div (by omega), Nat.div_eq_of_lt hy, Nat.add_zero]
  have h2 : (x' * n + y') / n = x' := by rw [Nat.mul_comm, Nat.mul_add_div (by omega), Nat.div_eq_of_lt hy', Nat.add_zero]
  have h3 : x = x' := by rw [← h1, ← h2, e]
  subst h3
  exact ⟨rfl, by omega⟩
theorem IsTab.congr {n : Nat} {T : List Int} {R R' : Rel} (t : IsTab n T R) (h : ∀ x y, x < n → y < n → R x y = R' x y) : IsTab n T R' :=
  ⟨t.len, fun x y hx hy => by rw [← h x y hx hy]; exact t.get x y hx hy⟩
theorem IsTab.set {n : Nat} {T : List Int} {R : Rel} (t : IsTab n T R) {x0 y0 : Nat} (hx : x0 < n) (hy : y0 < n) (b : Bool) {v : Int} (hv : v = if b = true then 1 else 0) :
    IsTab n (T.set (x0 * n + y0) v) (fun x y => if x = x0 ∧ y = y0 then b else R x y) := by
  refine ⟨by rw [List.length_set, t.len], fun x y hx' hy' => ?_⟩
  by_cases h : x = x0 ∧ y = y0
  · rw [h.1, h.2, List.getElem?_set_self (by rw [t.len]; exact ix_lt hx hy), hv]
    simp
  · rw [List.getElem?_set_ne (fun e => h (let z := ix_inj hy hy' e; ⟨z.1.symm, z.2.symm⟩)), t.get x y hx' hy']
    simp only [if_neg h]
theorem IsTab.on {n : Nat} {T : List Int} {R : Rel} (t : IsTab n T R) {x0 y0 : Nat} (hx : x0 < n) (hy : y0 < n) : IsTab n (T.set (x0 * n + y0) 1) (fun x y => R x y || decide (x = x0 ∧ y = y0)) :=
  (t.set hx hy true (v := 1) rfl).congr fun x y _ _ => by
    by_cases h : x = x0 ∧ y = y0
    · rw [if_pos h, decide_eq_true h, Bool.or_true]
    · rw [if_neg h, decide_eq_false h, Bool.or_false]
theorem IsTab.zero (n : Nat) : IsTab n (List.replicate (n * n) 0) (fun _ _ => false) :=
  ⟨List.length_replicate, fun x y hx hy => by rw [List.getElem?_replicate, if_pos (ix_lt hx hy)]; rfl⟩
theorem rep_ints (n : Nat) (v : Int) : (List.replicate n [V.int v]).flatten = (List.replicate n v).map V.int := by
  induction n with
  | zero => rfl
  | succ n ih =>
    rw [List.replicate_succ, List.replicate_succ, List.flatten_cons, ih]
    rfl
def rowT (R : Rel) (x j : Nat) : List (Int × Int) := ((List.range j).filter (R x)).map fun (y : Nat) => ((x : Int), (y : Int))
def tiesTo (n : Nat) (R : Rel) (i : Nat) : List (Int × Int) := (List.range i).flatMap fun x => rowT R x n
def ties (n : Nat) (R : Rel) : List (Int × Int) := tiesTo n R n
theorem rowT_yes {R : Rel} {x j : Nat} (h : R x j = true) : rowT R x (j + 1) = rowT R x j ++ [((x : Int), (j : Int))] := by
  unfold rowT
  rw [List.range_succ, List.filter_append, List.map_append]
  simp [List.filter, h]
theorem rowT_no {R : Rel} {x j : Nat} (h : R x j = false) : rowT R x (j + 1) = rowT R x j := by
  unfold rowT
  rw [List.range_succ, List.filter_append, List.map_append]
  simp [List.filter, h]
theorem tiesTo_succ (n : Nat) (R : Rel) (i : Nat) : tiesTo n R (i + 1) = tiesTo n R i ++ rowT R i n := by
  unfold tiesTo
  rw [List.range_succ, List.flatMap_append]
  simp
theorem mem_ties {n : Nat} {R : Rel} {p : Int × Int} : p ∈ ties n R ↔ ∃ x y : Nat, x < n ∧ y < n ∧ R x y = true ∧ p = ((x : Int), (y : Int)) := by
  unfold ties tiesTo rowT
  simp only [List.mem_flatMap, List.mem_map, List.mem_filter, List.mem_range]
  constructor
  · rintro ⟨x, hx, y, ⟨hy, hr⟩, e⟩
    exact ⟨x, y, hx, hy, hr, e.symm⟩
  · rintro ⟨x, y, hx, hy, hr, e⟩
    exact ⟨x, hx, y, ⟨hy, hr⟩, e.symm⟩
theorem rowT_len (R : Rel) (x j : Nat) : (rowT R x j).length ≤ j := by
  unfold rowT
  rw [List.length_map]
  have h := List.length_filter_le (R x) (List.range j)
  rw [List.length_range] at h
  exact h
theorem tiesTo_len (n : Nat) (R : Rel) : ∀ i, (tiesTo n R i).length ≤ i * n
  | 0 => Nat.zero_le _
  | i + 1 => by
    rw [tiesTo_succ, List.length_append, Nat.add_mul, Nat.one_mul]
    exact Nat.add_le_add (tiesTo_len n R i) (rowT_len R i n)
theorem ties_len {n : Nat} (R : Rel) (h : n ≤ 24) : (ties n R).length ≤ 576 := Nat.le_trans (tiesTo_len n R n) (Nat.mul_le_mul h h)
theorem ties_congr {n : Nat} {R R' : Rel} (h : ∀ x y, x < n → y < n → R x y = R' x y) : ties n R = ties n R' := by
  have row : ∀ x, x < n → ∀ j, j ≤ n → rowT R x j = rowT R' x j := by
    intro x hx j
    induction j with
    | zero => intro _; rfl
    | succ j ih =>
      intro hj
      have e := h x j hx hj
      cases q : R x j with
      | true => rw [rowT_yes q, rowT_yes (e ▸ q), ih (by omega)]
      | false => rw [rowT_no q, rowT_no (e ▸ q), ih (by omega)]
  have all : ∀ i, i ≤ n → tiesTo n R i = tiesTo n R' i := by
    intro i
    induction i with
    | zero => intro _; rfl
    | succ i ih => intro hi; rw [tiesTo_succ, tiesTo_succ, ih (by omega), row i hi n (Nat.le_refl n)]
  exact all n (Nat.le_refl n)
def netF (n : Nat) (d : Addr) : List (Str × V) := putF "_links" (.ref d) (putF "count" (.int (n : Int)) [])
theorem netF_links (n : Nat) (d : Addr) : (netF n d).lookup ("_links" : Str) = some (.ref d) := by
  unfold netF
  rw [lookup_putF, if_pos rfl]
theorem netF_count (n : Nat) (d : Addr) : (netF n d).lookup ("count" : Str) = some (.int (n : Int)) := by
  unfold netF
  rw [lookup_putF, if_neg (by decide +kernel), lookup_putF, if_pos rfl]
theorem netF_no (n : Nat) (d : Addr) {m : Str} (h1 : ¬ m = "_links") (h2 : ¬ m = "count") : (netF n d).lookup m = none := by
  unfold netF
  rw [lookup_putF, if_neg h1, lookup_putF, if_neg h2]
  rfl
def linkKV (n : Nat) (R : Rel) : List (List Key × V) := (ties n R).map fun p => ([.inl p.1, .inl p.2], V.bl true)
/-- at a: a net of n replicas with the links R -/
structure NetAt (C : Addr) (H : Hp) (a : Addr) (n : Nat) (R : Rel) : Prop where
  ex : ∃ dx d, H a = some (.ins C dx (netF n d)) ∧ H d = some (.dT (linkKV n R))
  b1 : 1 ≤ n
  b2 : n ≤ 24
  ir : ∀ x y, x < n → y < n → R x y = true → x ≠ y
theorem NetAt.same {C : Addr} {H H' : Hp} {a : Addr} {n : Nat} {R : Rel} (s : Same H H') (x : NetAt C H a n R) : NetAt C H' a n R := by
  obtain ⟨⟨dx, d, h1, h2⟩, r⟩ := x
  exact ⟨⟨dx, d, s _ _ h1, s _ _ h2⟩, by assumption, by assumption, by assumption⟩
theorem NetAt.kp {C : Addr} {H H' : Hp} {a b c : Addr} {n : Nat} {R : Rel} (k : Kp b H H') (bx : BoxOk H b c) (x : NetAt C H a n R) : NetAt C H' a n R := by
  obtain ⟨⟨dx, d, h1, h2⟩, r⟩ := x
  exact ⟨⟨dx, d, k.get bx h1 nb_ins, k.get bx h2 nb_dT⟩, by assumption, by assumption, by assumption⟩
theorem NetAt.new {C : Addr} {H : Hp} {a p : Addr} {o : HO} {n : Nat} {R : Rel} (x : NetAt C H a n R) (np : H p = none) : NetAt C (upd H p o) a n R := NetAt.same (Same.new (Same.refl H) np) x
theorem NetAt.lst {C : Addr} {H : Hp} {a p : Addr} {xs ys : List V} {n : Nat} {R : Rel} (x : NetAt C H a n R) (hp : H p = some (.lst xs)) : NetAt C (upd H p (.lst ys)) a n R := by
  obtain ⟨⟨dx, d, h1, h2⟩, r⟩ := x
  exact ⟨⟨dx, d, by rw [upd_ne (ne_of h1 hp (by intro q; cases q))]; exact h1, by rw [upd_ne (ne_of h2 hp (by intro q; cases q))]; exact h2⟩, by assumption, by assumption, by assumption⟩
theorem find_key (ls : List (Int × Int)) (s r : Int) : (valV (ls.map fun p => (([.inl p.1, .inl p.2] : List Key), V.bl true)) [.inl s, .inl r]).isSome = decide ((s, r) ∈ ls) := by
  rw [← valV_any, List.any_map]
  induction ls with
  | nil => rfl
  | cons p t ih =>
    rw [List.any_cons, ih]
    have e : (([.inl p.1, .inl p.2] : List Key) = [.inl s, .inl r]) ↔ (s, r) = p := by
      obtain ⟨a, b⟩ := p
      constructor
      · intro h
        injection h with h1 h2
        injection h2 with h2 _
        exact Prod.ext (Sum.inl.inj h1).symm (Sum.inl.inj h2).symm
      · intro h
        cases h
        rfl
    show (decide (([.inl p.1, .inl p.2] : List Key) = [.inl s, .inl r]) || _) = _
    by_cases h : (s, r) = p
    · rw [decide_eq_true (e.mpr h), Bool.true_or]
      exact (decide_eq_true (by rw [h]; exact List.mem_cons_self)).symm
    · rw [decide_eq_false (fun z => h (e.mp z)), Bool.false_or]
      exact decide_eq_decide.mpr ⟨fun z => List.mem_cons_of_mem _ z, fun z => (List.mem_cons.mp z).resolve_left h⟩
theorem prT_keys {H : Hp} {ls : List (Int × Int)} {bs : List Addr} (h : IsKeys H (ls.map fun p => (([.inl p.1, .inl p.2] : List Key), V.bl true)) bs) : PrT H bs ls := by
  induction ls generalizing bs with
  | nil =>
    cases h
    exact PrT.nil
  | cons p t ih =>
    cases h with
    | cons h1 h2 =>
      rename_i b bs'
      have r := (PrT.one (x := p.1) (y := p.2) h1).append (ih h2)
      exact r
end Kit

end
section
set_option Elab.async false
set_option linter.all false
set_option maxRecDepth 100000
set_option maxHeartbeats 4000000
/- lists of ints: slices, sums of lists, items, methods; members of a table; what is kept beside a table -/
namespace KI
open PySem L2 Kit KR
theorem cut_to {ns : List Int} {n : Int} (h : 0 ≤ n) : cutV (ns.map V.int) none (some n) = (ns.take n.toNat).map V.int := by
  have e : HT.sIx (ns.map V.int).length (ns.map V.int).length (some n) = min n.toNat ns.length := by
    show (if n < 0 then _ else _) = _
    rw [if_neg (by omega), List.length_map]
  unfold cutV
  rw [e]
  show ((ns.map V.int).drop 0).take (min n.toNat ns.length - 0) = _
  have e2 : ns.take (min n.toNat ns.length) = ns.take n.toNat := List.take_eq_take_iff.mpr (by omega)
  rw [List.drop_zero, Nat.sub_zero, ← List.map_take, e2]
theorem cut_from {ns : List Int} {n : Int} (h : 0 ≤ n) : cutV (ns.map V.int) (some n) none = (ns.drop n.toNat).map V.int := by
  have e : HT.sIx (ns.map V.int).length 0 (some n) = min n.toNat ns.length := by
    show (if n < 0 then _ else _) = _
    rw [if_neg (by omega), List.length_map]
  unfold cutV
  rw [e]
  show ((ns.map V.int).drop (min n.toNat ns.length)).take ((ns.map V.int).length - min n.toNat ns.length) = _
  rw [← List.map_drop, ← List.map_take]
  congr 1
  by_cases q : n.toNat ≤ ns.length
  · rw [Nat.min_eq_left q, List.take_of_length_le (by rw [List.length_map, List.length_drop]; omega)]
  · rw [Nat.min_eq_right (by omega), List.drop_of_length_le (Nat.le_refl _), List.drop_of_length_le (by omega), List.take_nil]
theorem cut_mid {ns : List Int} {m n : Int} (h : 0 ≤ m) (h2 : m ≤ n) : cutV (ns.map V.int) (some m) (some n) = ((ns.drop m.toNat).take (n.toNat - m.toNat)).map V.int := by
  have e : ∀ z : Int, 0 ≤ z → ∀ d, HT.sIx (ns.map V.int).length d (some z) = min z.toNat ns.length := fun z hz d => by
    show (if z < 0 then _ else _) = _
    rw [if_neg (by omega), List.length_map]
  unfold cutV
  rw [e m h, e n (by omega)]
  rw [← List.map_drop, ← List.map_take]
  congr 1
  by_cases q : m.toNat ≤ ns.length
  · rw [Nat.min_eq_left q, List.take_eq_take_iff.mpr]
    rw [List.length_drop]
    omega
  · have e1 : ns.drop (min m.toNat ns.length) = [] := List.drop_of_length_le (by omega)
    have e2 : ns.drop m.toNat = [] := List.drop_of_length_le (by omega)
    rw [e1, e2, List.take_nil, List.take_nil]
def rTo (K : PySem.W.Frag) : V → Option Int → Option Int → Hp → VK → Prop := fun x lo hi H Q => ∃ (a : Addr) (ns : List Int) (n : Int), x = .ref a ∧ lo = none ∧ hi = some n ∧ 0 ≤ n ∧ SqL K H a (ns.map V.int) ∧ ∀ p, H p = none → Q (.ref p) (upd H p (.lst ((ns.take n.toNat).map V.int)))
def rFrom (K : PySem.W.Frag) : V → Option Int → Option Int → Hp → VK → Prop := fun x lo hi H Q => ∃ (a : Addr) (ns : List Int) (n : Int), x = .ref a ∧ lo = some n ∧ hi = none ∧ 0 ≤ n ∧ SqL K H a (ns.map V.int) ∧ ∀ p, H p = none → Q (.ref p) (upd H p (.lst ((ns.drop n.toNat).map V.int)))
def rMid (K : PySem.W.Frag) : V → Option Int → Option Int → Hp → VK → Prop := fun x lo hi H Q => ∃ (a : Addr) (ns : List Int) (m n : Int), x = .ref a ∧ lo = some m ∧ hi = some n ∧ 0 ≤ m ∧ m ≤ n ∧ SqL K H a (ns.map V.int) ∧ ∀ p, H p = none → Q (.ref p) (upd H p (.lst (((ns.drop m.toNat).take (n.toNat - m.toNat)).map V.int)))
theorem sl_to {X : Cx} : SlR X (rTo X.K) := by
  intro pins s σ H x v vl vu lo hi sl Q I rv hs pl pu h
  obtain ⟨a, ns, n, rfl, rfl, rfl, hn, hq, k⟩ := h
  refine sl_list pins s σ H _ v vl vu none (some n) sl Q I rv hs pl pu ⟨a, _, rfl, hq, ?_⟩
  rw [cut_to hn]
  exact k
theorem sl_from {X : Cx} : SlR X (rFrom X.K) := by
  intro pins s σ H x v vl vu lo hi sl Q I rv hs pl pu h
  obtain ⟨a, ns, n, rfl, rfl, rfl, hn, hq, k⟩ := h
  refine sl_list pins s σ H _ v vl vu (some n) none sl Q I rv hs pl pu ⟨a, _, rfl, hq, ?_⟩
  rw [cut_from hn]
  exact k
theorem sl_mid {X : Cx} : SlR X (rMid X.K) := by
  intro pins s σ H x v vl vu lo hi sl Q I rv hs pl pu h
  obtain ⟨a, ns, m, n, rfl, rfl, rfl, hm, hn, hq, k⟩ := h
  refine sl_list pins s σ H _ v vl vu (some m) (some n) sl Q I rv hs pl pu ⟨a, _, rfl, hq, ?_⟩
  rw [cut_mid hm hn]
  exact k
theorem eqv_cons (a b : Int) (as bs : List Int) : PyData.eqv (.list ((a :: as).map PyData.int)) (.list ((b :: bs).map PyData.int)) = (decide (a = b) && PyData.eqv (.list (as.map PyData.int)) (.list (bs.map PyData.int))) := by
  have e : PyData.eqv (.list ((a :: as).map PyData.int)) (.list ((b :: bs).map PyData.int)) = ((a == b) && PyData.eqv (.list (as.map PyData.int)) (.list (bs.map PyData.int))) := rfl
  rw [e]
  congr 1
theorem eqv_ii : ∀ (as bs : List Int), PyData.eqv (.list (as.map PyData.int)) (.list (bs.map PyData.int)) = decide (as = bs)
  | [], [] => rfl
  | [], b :: bs => rfl
  | a :: as, [] => rfl
  | a :: as, b :: bs => by
    rw [eqv_cons, eqv_ii as bs]
    by_cases h : a = b <;> by_cases g : as = bs <;> simp [h, g]
/-- an item of a written list of ints -/
theorem at_lit {ns : List Int} {d : Int} (h0 : 0 ≤ d) (h1 : d < ((ns.length : Nat) : Int)) : atI (ns.map V.int) d = some (V.int (ns.getD d.toNat 0)) := by
  have h : d.toNat < ns.length := by omega
  refine at_int (i := d.toNat) ?_ (by omega)
  rw [List.getD_eq_getElem?_getD, List.getElem?_eq_getElem h]
  rfl
theorem getD_some {ns : List Int} {d : Int} (h0 : 0 ≤ d) (h1 : d < ((ns.length : Nat) : Int)) : ns[d.toNat]? = some (ns.getD d.toNat 0) := by
  have h : d.toNat < ns.length := by omega
  rw [List.getD_eq_getElem?_getD, List.getElem?_eq_getElem h]
  rfl
theorem op_catI {X : Cx} : OpR X (binaryOp .Add) (fun x y H Q => ∃ (a b : Addr) (as bs : List Int), x = V.ref a ∧ y = V.ref b ∧ H a = some (.lst (as.map V.int)) ∧ H b = some (.lst (bs.map V.int)) ∧ as.length + bs.length ≤ sizeLine ∧ ∀ p, H p = none → Q (.ref p) (upd H p (.lst ((as ++ bs).map V.int)))) := by
  intro pins s σ H x y v u Q I rx ry h
  obtain ⟨a, b, as, bs, rfl, rfl, ha, hb, hs, k⟩ := h
  refine op_cat pins s σ H _ _ v u Q I rx ry ⟨a, b, _, _, rfl, rfl, ha, hb, by rw [List.length_map, List.length_map]; exact hs, ?_⟩
  rw [← List.map_append]
  exact k
theorem call_lenI {X : Cx} : CallR X (.builtin "len") (fun vs H Q => ∃ (a : Addr) (ns : List Int), vs = [V.ref a] ∧ H a = some (.lst (ns.map V.int)) ∧ Q (.int ((ns.length : Nat) : Int)) H) := by
  intro pins s σ H vs us Q I r h
  obtain ⟨a, ns, rfl, ha, k⟩ := h
  refine call_len_seq pins s σ H _ us Q I r ⟨a, _, rfl, .inl (SqL.of ha), ?_⟩
  rw [List.length_map]
  exact k
theorem ix_I {X : Cx} : IxR X (fun x y H Q => ∃ (a : Addr) (ns : List Int) (i : Int) (v : V), x = V.ref a ∧ y = V.int i ∧ H a = some (.lst (ns.map V.int)) ∧ atI (ns.map V.int) i = some v ∧ Q v H) := by
  intro ev es pins s σ H x y v u Q I rx ry h
  obtain ⟨a, ns, i, z, rfl, rfl, ha, hx, k⟩ := h
  exact ix_list ev es pins s σ H _ _ v u Q I rx ry ⟨a, _, i, z, rfl, rfl, SqL.of ha, hx, k⟩
theorem eq_nil {es : List Int} (h : PyData.eqv (.list (es.map PyData.int)) (.list []) = false) : 1 ≤ es.length := by
  cases es with
  | nil => cases h
  | cons a r => exact Nat.le_add_left 1 _
theorem lit0 {H : Hp} {p : Addr} : upd H p (.lst []) p = some (.lst (([] : List Int).map V.int)) := upd_same
theorem lit1 {H : Hp} {p : Addr} {a : Int} : upd H p (.lst [V.int a]) p = some (.lst ([a].map V.int)) := upd_same
theorem lit3 {H : Hp} {p : Addr} {a b c : Int} : upd H p (.lst [V.int a, V.int b, V.int c]) p = some (.lst ([a, b, c].map V.int)) := upd_same
theorem lit2 {H : Hp} {p : Addr} {a b : Int} : upd H p (.lst [V.int a, V.int b]) p = some (.lst ([a, b].map V.int)) := upd_same
theorem lit7 {H : Hp} {p : Addr} {a b c d e f g : Int} : upd H p (.lst [V.int a, V.int b, V.int c, V.int d, V.int e, V.int f, V.int g]) p = some (.lst ([a, b, c, d, e, f, g].map V.int)) := upd_same
theorem lit9 {H : Hp} {p : Addr} {a b c d e f g h i : Int} : upd H p (.lst [V.int a, V.int b, V.int c, V.int d, V.int e, V.int f, V.int g, V.int h, V.int i]) p = some (.lst ([a, b, c, d, e, f, g, h, i].map V.int)) := upd_same
theorem drop3 {cs : List Int} {n : Nat} (h : n + 3 ≤ cs.length) : ∃ a b c r, cs.drop n = a :: b :: c :: r := by
  have hl : (cs.drop n).length = cs.length - n := List.length_drop
  match e : cs.drop n, hl with
  | a :: b :: c :: r, _ => exact ⟨a, b, c, r, rfl⟩
  | [], hl => simp at hl; omega
  | [_], hl => simp at hl; omega
  | [_, _], hl => simp at hl; omega

theorem mt_appendI {X : Cx} : MtM X "list.append" (fun x vs H Q => ∃ (l : Addr) (ns : List Int) (y : Int), x = V.ref l ∧ vs = [V.int y] ∧ H l = some (.lst (ns.map V.int)) ∧ ns.length < sizeLine ∧ Q .non (upd H l (.lst ((ns ++ [y]).map V.int)))) := by
  intro pins s σ H x xs v us Q I rx r h
  obtain ⟨l, ns, y, rfl, rfl, hl, hs, k⟩ := h
  refine mt_append pins s σ H _ _ v us Q I rx r ⟨l, _, _, rfl, rfl, hl, by rw [List.length_map]; exact hs, ?_⟩
  rw [List.map_append] at k
  exact k
theorem mt_popI {X : Cx} : MtM X "list.pop" (fun x vs H Q => ∃ (l : Addr) (ns : List Int) (i : Int), x = V.ref l ∧ vs = [V.int i] ∧ H l = some (.lst (ns.map V.int)) ∧ 0 ≤ i ∧ i < ((ns.length : Nat) : Int) ∧ i < 2 ^ 63 ∧ Q (.int (ns.getD i.toNat 0)) (upd H l (.lst ((ns.eraseIdx i.toNat).map V.int)))) := by
  intro pins s σ H x xs v us Q I rx r h
  obtain ⟨l, ns, i, rfl, rfl, hl, h0, h1, h2, k⟩ := h
  have e := getD_some h0 h1
  refine mt_popAt pins s σ H _ _ v us Q I rx r ⟨l, _, i, i.toNat, _, rfl, rfl, hl, by omega, h2, ?_, by rw [List.getElem?_map, e]; rfl, ?_⟩
  · unfold seqIndex?
    rw [List.length_map]
    first
      | (simp only [h0, h1, if_true, if_pos]; done)
      | (simp; omega)
  · rw [List.eraseIdx_eq_take_drop_succ, List.map_append, List.map_take, List.map_drop] at k
    rw [List.eraseIdx_eq_take_drop_succ]
    exact k
theorem mt_popR {X : Cx} : MtM X "list.pop" (fun x vs H Q => ∃ (l : Addr) (as : List Addr) (i : Int), x = V.ref l ∧ vs = [V.int i] ∧ H l = some (.lst (as.map V.ref)) ∧ 0 ≤ i ∧ i < ((as.length : Nat) : Int) ∧ i < 2 ^ 63 ∧ Q (.ref (as.getD i.toNat 0)) (upd H l (.lst ((as.eraseIdx i.toNat).map V.ref)))) := by
  intro pins s σ H x xs v us Q I rx r h
  obtain ⟨l, as, i, rfl, rfl, hl, h0, h1, h2, k⟩ := h
  have e : as[i.toNat]? = some (as.getD i.toNat 0) := getD_at h0 (by rw [List.length_map]; exact h1)
  refine mt_popAt pins s σ H _ _ v us Q I rx r ⟨l, _, i, i.toNat, _, rfl, rfl, hl, by omega, h2, ?_, by rw [List.getElem?_map, e]; rfl, ?_⟩
  · unfold seqIndex?
    rw [List.length_map]
    first
      | (simp only [h0, h1, if_true, if_pos]; done)
      | (simp; omega)
  · rw [List.eraseIdx_eq_take_drop_succ, List.map_append, List.map_take, List.map_drop] at k
    rw [List.eraseIdx_eq_take_drop_succ]
    exact k
theorem PrT.erase {H : Hp} {as : List Addr} {ps : List (Int × Int)} (x : PrT H as ps) (k : Nat) : PrT H (as.eraseIdx k) (ps.eraseIdx k) := by
  rw [List.eraseIdx_eq_take_drop_succ, List.eraseIdx_eq_take_drop_succ]
  exact (x.take k).append (x.drop (k + 1))
theorem mt_insertI {X : Cx} : MtR X "list.insert" (fun x vs H Q => ∃ (l : Addr) (ns : List Int) (i y : Int), x = V.ref l ∧ vs = [V.int i, V.int y] ∧ H l = some (.lst (ns.map V.int)) ∧ ns.length < sizeLine ∧ 0 ≤ i ∧ i < 2 ^ 63 ∧ Q .non (upd H l (.lst ((ns.take i.toNat ++ [y] ++ ns.drop i.toNat).map V.int)))) := by
  intro pins s σ H x xs v us Q I rx r h
  obtain ⟨l, ns, i, y, rfl, rfl, hl, hs, h0, h1, k⟩ := h
  refine mt_insert pins s σ H _ _ v us Q I rx r ⟨l, _, i, _, rfl, rfl, hl, by rw [List.length_map]; exact hs, h0, h1, ?_⟩
  rw [List.map_append, List.map_append, List.map_take, List.map_drop] at k
  exact k
theorem set_I {X : Cx} : PSet X (fun o i v H Q => ∃ (p : Addr) (ns : List Int) (k v' : Int) (j : Nat), o = .ref p ∧ i = .int k ∧ v = .int v' ∧ H p = some (.lst (ns.map V.int)) ∧ ixN ns.length k = some j ∧ Q (upd H p (.lst ((ns.set j v').map V.int)))) := by
  intro pins s σ H o i v ov iv u Q I ro ri rv h
  obtain ⟨p, ns, k, v', j, rfl, rfl, rfl, hp, hj, q⟩ := h
  refine set_list pins s σ H _ _ _ ov iv u Q I ro ri rv ⟨p, _, k, j, rfl, rfl, hp, by rw [List.length_map]; exact hj, ?_⟩
  rw [List.map_set] at q
  exact q
theorem flat_ints : ∀ ns : List Int, (ns.map V.int).all flatV = true
  | [] => rfl
  | n :: r => by
    show (flatV (V.int n) && (r.map V.int).all flatV) = true
    rw [flat_ints r]
    rfl
theorem in_ints (x : Int) : ∀ ns : List Int, inV (V.int x) (ns.map V.int) = decide (x ∈ ns)
  | [] => rfl
  | n :: r => by
    show (eqV (V.int n) (V.int x) || inV (V.int x) (r.map V.int)) = _
    rw [in_ints x r]
    have e : eqV (V.int n) (V.int x) = decide (n = x) := rfl
    rw [e]
    by_cases h : n = x
    · rw [decide_eq_true h, decide_eq_true (List.mem_cons.mpr (.inl h.symm)), Bool.true_or]
    · rw [decide_eq_false h, Bool.false_or]
      by_cases g : x ∈ r
      · rw [decide_eq_true g, decide_eq_true (List.mem_cons_of_mem _ g)]
      · rw [decide_eq_false g, decide_eq_false fun q => (List.mem_cons.mp q).elim (fun z => h z.symm) g]
theorem op_inI {X : Cx} : OpR X (compareOp .In) (fun x y H Q => ∃ (k : Int) (p : Addr) (ns : List Int), x = V.int k ∧ y = V.ref p ∧ H p = some (.lst (ns.map V.int)) ∧ Q (.bl (decide (k ∈ ns))) H) := by
  intro pins s σ H x y v u Q I rx ry h
  obtain ⟨k, p, ns, rfl, rfl, hp, q⟩ := h
  refine op_in_seq pins s σ H _ _ v u Q I rx ry ⟨p, _, rfl, .inl (SqL.of hp), rfl, flat_ints ns, ?_⟩
  rw [← in_ints] at q
  exact q
theorem op_notInI {X : Cx} : OpR X (compareOp .NotIn) (fun x y H Q => ∃ (k : Int) (p : Addr) (ns : List Int), x = V.int k ∧ y = V.ref p ∧ H p = some (.lst (ns.map V.int)) ∧ Q (.bl (!decide (k ∈ ns))) H) := by
  intro pins s σ H x y v u Q I rx ry h
  obtain ⟨k, p, ns, rfl, rfl, hp, q⟩ := h
  refine op_notIn_seq pins s σ H _ _ v u Q I rx ry ⟨p, _, rfl, .inl (SqL.of hp), rfl, flat_ints ns, ?_⟩
  rw [← in_ints] at q
  exact q
/-- different replicas -/
structure MemOk (n : Nat) (ms : List Int) : Prop where
  nd : ms.Nodup
  rg : ∀ x ∈ ms, 0 ≤ x ∧ x < (n : Int)
theorem MemOk.at {n : Nat} {ms : List Int} (h : MemOk n ms) {i : Int} (h0 : 0 ≤ i) (h1 : i < ((ms.length : Nat) : Int)) : ∃ x : Nat, atI (ms.map V.int) i = some (V.int (x : Int)) ∧ x < n ∧ ms[i.toNat]? = some (x : Int) := by
  have e := getD_some h0 h1
  have r := h.rg _ (List.mem_of_getElem? e)
  refine ⟨(ms.getD i.toNat 0).toNat, ?_, by omega, ?_⟩
  · rw [at_lit h0 h1]
    congr 2
    omega
  · rw [e]
    congr 1
    omega
theorem MemOk.ne {n : Nat} {ms : List Int} (h : MemOk n ms) {i j : Nat} {x y : Nat} (e1 : ms[i]? = some (x : Int)) (e2 : ms[j]? = some (y : Int)) (ne : i ≠ j) : x ≠ y := fun z => by
  subst z
  obtain ⟨h1, v1⟩ := List.getElem?_eq_some_iff.mp e1
  obtain ⟨h2, v2⟩ := List.getElem?_eq_some_iff.mp e2
  have pw := List.pairwise_iff_getElem.mp h.nd
  rcases Nat.lt_or_gt_of_ne ne with q | q
  · exact pw i j h1 h2 q (v1.trans v2.symm)
  · exact pw j i h2 h1 q (v2.trans v1.symm)
theorem MemOk.sub {n : Nat} {ms ks : List Int} (h : MemOk n ms) (s : List.Sublist ks ms) : MemOk n ks := ⟨h.nd.sublist s, fun x hx => h.rg x (s.subset hx)⟩
theorem MemOk.take {n : Nat} {ms : List Int} (h : MemOk n ms) (k : Nat) : MemOk n (ms.take k) := h.sub (List.take_sublist k ms)
theorem MemOk.drop {n : Nat} {ms : List Int} (h : MemOk n ms) (k : Nat) : MemOk n (ms.drop k) := h.sub (List.drop_sublist k ms)
def every (n : Nat) : List Int := (List.range n).map fun (x : Nat) => (x : Int)
theorem every_len (n : Nat) : (every n).length = n := by unfold every; rw [List.length_map, List.length_range]
theorem mem_every {n : Nat} {x : Int} : x ∈ every n ↔ 0 ≤ x ∧ x < (n : Int) := by
  unfold every
  rw [List.mem_map]
  constructor
  · rintro ⟨k, hk, rfl⟩
    have := List.mem_range.mp hk
    omega
  · rintro ⟨h0, h1⟩
    exact ⟨x.toNat, List.mem_range.mpr (by omega), by omega⟩
theorem every_ok (n : Nat) : MemOk n (every n) := ⟨by
  unfold every
  refine List.Pairwise.map (S := fun a b => a ≠ b) _ (fun a b (h : a ≠ b) => ?_) List.nodup_range
  omega, fun x hx => mem_every.mp hx⟩
theorem every_succ (n : Nat) : every (n + 1) = every n ++ [(n : Int)] := by
  unfold every
  rw [List.range_succ, List.map_append]
  rfl
/-- a table of some net -/
def TabI (n : Nat) (T : List Int) : Prop := ∃ R : Rel, IsTab n T R ∧ ∀ x y, x < n → y < n → R x y = true → x ≠ y
theorem TabI.len {n : Nat} {T : List Int} (h : TabI n T) : T.length = n * n := by
  obtain ⟨R, t, _⟩ := h
  exact t.len
theorem TabI.zero (n : Nat) : TabI n (List.replicate (n * n) 0) := ⟨_, IsTab.zero n, fun _ _ _ _ h => nomatch h⟩
theorem TabI.put {n : Nat} {T : List Int} (h : TabI n T) {x y : Nat} (hx : x < n) (hy : y < n) (ne : x ≠ y) : TabI n (T.set (x * n + y) 1) := by
  obtain ⟨R, t, ir⟩ := h
  refine ⟨_, t.set hx hy true (v := 1) rfl, fun a b ha hb r => ?_⟩
  by_cases e : a = x ∧ b = y
  · rw [e.1, e.2]
    exact ne
  · simp only [if_neg e] at r
    exact ir a b ha hb r
theorem TabI.cut {n : Nat} {T : List Int} (h : TabI n T) {x y : Nat} (hx : x < n) (hy : y < n) : TabI n (T.set (x * n + y) 0) := by
  obtain ⟨R, t, ir⟩ := h
  refine ⟨_, t.set hx hy false (v := 0) rfl, fun a b ha hb r => ?_⟩
  by_cases e : a = x ∧ b = y
  · simp only [if_pos e] at r
    cases r
  · simp only [if_neg e] at r
    exact ir a b ha hb r
theorem ixT {n x y : Nat} {T : List Int} (hT : T.length = n * n) (hx : x < n) (hy : y < n) : ixN T.length ((x : Int) * (n : Int) + (y : Int)) = some (x * n + y) := by
  have h := ix_lt hx hy
  have e : (x : Int) * (n : Int) + (y : Int) = ((x * n + y : Nat) : Int) := by rw [Int.natCast_add, Int.natCast_mul]
  unfold ixN
  rw [e, hT]
  rw [if_pos (by omega), if_pos (by omega)]
  rfl
/-- all is kept but what stands at b and at t -/
def Kq (b t : Addr) (H H' : Hp) : Prop := ∀ a o, a ≠ b → a ≠ t → H a = some o → H' a = some o
theorem Kq.refl {b t : Addr} {H : Hp} : Kq b t H H := fun _ _ _ _ h => h
theorem Kq.trans {b t : Addr} {H H1 H2 : Hp} (x : Kq b t H H1) (y : Kq b t H1 H2) : Kq b t H H2 := fun a o n m h => y a o n m (x a o n m h)
theorem Kq.of {b t : Addr} {H H1 : Hp} (x : Kp b H H1) : Kq b t H H1 := fun a o n _ h => x a o n h
theorem Kq.ofS {b t : Addr} {H H1 : Hp} (x : Same H H1) : Kq b t H H1 := fun a o _ _ h => x a o h
theorem Kq.new {b t p : Addr} {H H1 : Hp} {o : HO} (x : Kq b t H H1) (n : H1 p = none) : Kq b t H (upd H1 p o) := fun a u m k h => by
  have e := x a u m k h
  rw [upd_ne (ne_of_none e n)]
  exact e
theorem Kq.at {b t : Addr} {H H1 : Hp} {o : HO} (x : Kq b t H H1) : Kq b t H (upd H1 t o) := fun a u m k h => by
  rw [upd_ne k]
  exact x a u m k h
theorem Kq.mut {b t p : Addr} {H H1 : Hp} {o : HO} (x : Kq b t H H1) (n : H p = none) : Kq b t H (upd H1 p o) := fun a u m k h => by
  rw [upd_ne (ne_of_none h n)]
  exact x a u m k h
theorem prd_nil {ps : List (Int × Int)} (h : PyData.eqv (.list (ps.map prD)) (.list []) = false) : 1 ≤ ps.length := by
  cases ps with
  | nil => cases h
  | cons a r => exact Nat.le_add_left 1 _
theorem Kq.kp {b t : Addr} {H0 H H1 : Hp} (x : Kq b t H H1) (k : Kp b H0 H) (n : H0 t = none) : Kp b H0 H1 := fun a u m h => x a u m (ne_of_none h n) (k a u m h)
theorem Kq.get {b c t a : Addr} {H H' : Hp} {o : HO} (k : Kq b t H H') (x : BoxOk H b c) (h : H a = some o) (d : NB o) (m : a ≠ t) : H' a = some o := k a o (x.ne h d) m h
theorem BoxOk.tab {H : Hp} {b c t : Addr} {xs : List V} {ns : List Int} {o : HO} (x : BoxOk H b c) (h : H t = some (.lst (ns.map V.int))) (nc : t ≠ c) : BoxOk (upd H t o) b c := by
  have nb : t ≠ b := x.ne h nb_ints
  obtain ⟨ms, x1, x2, x3, x4, hb, hc, r⟩ := x
  exact ⟨ms, x1, x2, x3, x4, by rw [upd_ne nb.symm]; exact hb, by rw [upd_ne nc.symm]; exact hc, r⟩
end KI

end
section
set_option Elab.async false
set_option linter.all false
/- what can be reached -/
namespace RM
open Kit KI
/-- reached from S along links of R between members of A -/
inductive Rch (n : Nat) (R : Rel) (S A : List Int) : Nat → Prop
  | start {x : Nat} : x < n → (x : Int) ∈ S → (x : Int) ∈ A → Rch n R S A x
  | step {x y : Nat} : Rch n R S A x → y < n → R x y = true → (y : Int) ∈ A → Rch n R S A y
theorem Rch.lt {n : Nat} {R : Rel} {S A : List Int} {x : Nat} (h : Rch n R S A x) : x < n := by
  cases h with
  | start h _ _ => exact h
  | step _ h _ _ => exact h
theorem Rch.mem {n : Nat} {R : Rel} {S A : List Int} {x : Nat} (h : Rch n R S A x) : (x : Int) ∈ A := by
  cases h with
  | start _ _ h => exact h
  | step _ _ _ h => exact h
theorem Rch.least {n : Nat} {R : Rel} {S A : List Int} {D : Nat → Prop} (h0 : ∀ x, x < n → (x : Int) ∈ S → (x : Int) ∈ A → D x) (h1 : ∀ x y, x < n → D x → y < n → R x y = true → (y : Int) ∈ A → D y) {x : Nat} (h : Rch n R S A x) : D x := by
  induction h with
  | start a b c => exact h0 _ a b c
  | step a b c d ih => exact h1 _ _ a.lt ih b c d
theorem Rch.congr {n : Nat} {R R' : Rel} {S A : List Int} (e : ∀ x y, x < n → y < n → R x y = R' x y) {x : Nat} (h : Rch n R S A x) : Rch n R' S A x :=
  h.least (D := Rch n R' S A) (fun _ a b c => .start a b c) fun a b ha hd hb r m => .step hd hb (by rw [← e a b ha hb]; exact r) m
theorem Rch.trans {n : Nat} {R : Rel} {S A : List Int} {x y : Nat} (h : Rch n R S A x) (k : Rch n R [(x : Int)] A y) : Rch n R S A y :=
  k.least (D := Rch n R S A) (fun z a b c => by
    have e : (z : Int) = (x : Int) := List.mem_singleton.mp b
    have e : z = x := by omega
    rw [e]
    exact h) fun a b _ hd hb r m => .step hd hb r m
/-- the links turned -/
def turn (R : Rel) : Rel := fun x y => R y x
theorem Rch.turned {n : Nat} {R : Rel} {A : List Int} {x y : Nat} (hx : x < n) (hA : ∀ z : Nat, z < n → (z : Int) ∈ A) (h : Rch n R [(x : Int)] A y) : Rch n (turn R) [(y : Int)] A x :=
  h.least (D := fun y => Rch n (turn R) [(y : Int)] A x) (fun z a b c => by
    have e : (z : Int) = (x : Int) := List.mem_singleton.mp b
    have e : z = x := by omega
    rw [e]
    exact .start hx (List.mem_singleton.mpr rfl) (hA x hx)) fun a b ha hd hb r m => Rch.trans (x := a) (.step (.start hb (List.mem_singleton.mpr rfl) m) ha r (hA a ha)) hd
noncomputable def rchB (n : Nat) (R : Rel) (S A : List Int) (x : Nat) : Bool := @decide (Rch n R S A x) (Classical.propDecidable _)
theorem rchB_iff {n : Nat} {R : Rel} {S A : List Int} {x : Nat} : rchB n R S A x = true ↔ Rch n R S A x := by
  unfold rchB
  exact @decide_eq_true_iff _ (Classical.propDecidable _)
/-- the list of those reached -/
noncomputable def rchL (n : Nat) (R : Rel) (S A : List Int) : List Int := ((List.range n).filter fun x => rchB n R S A x).map fun (x : Nat) => (x : Int)
/-- of the first i, those of which D tells true -/
def tells (D : Nat → Bool) (i : Nat) : List Int := ((List.range i).filter D).map fun (x : Nat) => (x : Int)
theorem tells_yes {D : Nat → Bool} {i : Nat} (h : D i = true) : tells D (i + 1) = tells D i ++ [(i : Int)] := by
  unfold tells
  rw [List.range_succ, List.filter_append, List.map_append, List.filter_cons_of_pos h]
  rfl
theorem tells_no {D : Nat → Bool} {i : Nat} (h : D i = false) : tells D (i + 1) = tells D i := by
  unfold tells
  rw [List.range_succ, List.filter_append, List.map_append, List.filter_cons_of_neg (by rw [h]; exact Bool.false_ne_true)]
  exact List.append_nil _
theorem tells_len (D : Nat → Bool) (i : Nat) : (tells D i).length ≤ i := by
  unfold tells
  rw [List.length_map]
  have := List.length_filter_le D (List.range i)
  rw [List.length_range] at this
  exact this
theorem tells_congr {D D' : Nat → Bool} {i : Nat} (h : ∀ x, x < i → D x = D' x) : tells D i = tells D' i := by
  unfold tells
  congr 1
  exact List.filter_congr fun x hx => h x (List.mem_range.mp hx)
theorem rchL_tells (n : Nat) (R : Rel) (S A : List Int) : rchL n R S A = tells (rchB n R S A) n := rfl
theorem mem_tells {D : Nat → Bool} {i : Nat} {x : Nat} : (x : Int) ∈ tells D i ↔ x < i ∧ D x = true := by
  unfold tells
  rw [List.mem_map]
  constructor
  · rintro ⟨y, hy, e⟩
    have e : y = x := by omega
    subst e
    obtain ⟨h1, h2⟩ := List.mem_filter.mp hy
    exact ⟨List.mem_range.mp h1, h2⟩
  · rintro ⟨h1, h2⟩
    exact ⟨x, List.mem_filter.mpr ⟨List.mem_range.mpr h1, h2⟩, rfl⟩
theorem tells_all {D : Nat → Bool} {n : Nat} (h : ∀ x, x < n → D x = true) : tells D n = every n := by
  unfold tells every
  rw [List.filter_eq_self.mpr fun x hx => h x (List.mem_range.mp hx)]
theorem tells_every {D : Nat → Bool} {n : Nat} : tells D n = every n ↔ ∀ x, x < n → D x = true := by
  constructor
  · intro h x hx
    have m : (x : Int) ∈ every n := mem_every.mpr ⟨by omega, by omega⟩
    rw [← h] at m
    exact (mem_tells.mp m).2
  · exact tells_all
theorem tells_count {D : Nat → Bool} {n : Nat} : (tells D n).length = n ↔ ∀ x, x < n → D x = true := by
  constructor
  · intro h
    have e : ((List.range n).filter D).length = (List.range n).length := by
      rw [List.length_range]
      unfold tells at h
      rw [List.length_map] at h
      exact h
    intro x hx
    exact List.length_filter_eq_length_iff.mp e x (List.mem_range.mpr hx)
  · intro h
    rw [tells_all h, every_len]
/-- all are reached from each one -/
def Strong (n : Nat) (R : Rel) : Prop := ∀ x y, x < n → y < n → Rch n R [(x : Int)] (every n) y
theorem strong_iff {n : Nat} {R : Rel} (h : 1 ≤ n) : Strong n R ↔ (∀ y, y < n → Rch n R [(0 : Int)] (every n) y) ∧ ∀ y, y < n → Rch n (turn R) [(0 : Int)] (every n) y := by
  have hA : ∀ z : Nat, z < n → (z : Int) ∈ every n := fun z hz => mem_every.mpr ⟨by omega, by omega⟩
  constructor
  · intro s
    exact ⟨fun y hy => s 0 y (by omega) hy, fun y hy => Rch.turned (x := y) (y := 0) hy hA (s y 0 hy (by omega))⟩
  · rintro ⟨h1, h2⟩ x y hx hy
    have a : Rch n (turn (turn R)) [(x : Int)] (every n) 0 := Rch.turned (x := 0) (y := x) (by omega) hA (h2 x hx)
    exact Rch.trans (x := 0) (a.congr fun _ _ _ _ => rfl) (h1 y hy)
end RM

end
section
set_option Elab.async false
set_option linter.all false
set_option maxRecDepth 100000
set_option maxHeartbeats 4000000
/- lists of truths; the search -/
namespace RM
open PySem L2 Kit KR KI
def bl (n : Nat) (D : Nat → Bool) : List V := (List.range n).map fun x => V.bl (D x)
theorem bl_len (n : Nat) (D : Nat → Bool) : (bl n D).length = n := by unfold bl; rw [List.length_map, List.length_range]
theorem bl_snoc (i : Nat) (D : Nat → Bool) : bl (i + 1) D = bl i D ++ [V.bl (D i)] := by
  unfold bl
  rw [List.range_succ, List.map_append]
  rfl
theorem bl_at {n x : Nat} (D : Nat → Bool) (h : x < n) : (bl n D)[x]? = some (V.bl (D x)) := by
  unfold bl
  rw [List.getElem?_map, List.getElem?_range h]
  rfl
theorem bl_ix {n x : Nat} (D : Nat → Bool) (h : x < n) : atI (bl n D) (x : Int) = some (V.bl (D x)) := at_of0 (bl_at D h)
def on (D : Nat → Bool) (y : Nat) : Nat → Bool := fun x => D x || decide (x = y)
theorem bl_set {n y : Nat} (D : Nat → Bool) (h : y < n) : (bl n D).set y (V.bl true) = bl n (on D y) := by
  refine List.ext_getElem? fun i => ?_
  by_cases e : i = y
  · subst e
    rw [List.getElem?_set_self (by rw [bl_len]; exact h), bl_at _ h]
    unfold on
    rw [decide_eq_true rfl, Bool.or_true]
  · rw [List.getElem?_set_ne (fun z => e z.symm)]
    by_cases l : i < n
    · rw [bl_at _ l, bl_at _ l]
      unfold on
      rw [decide_eq_false e, Bool.or_false]
    · rw [List.getElem?_eq_none (by rw [bl_len]; omega), List.getElem?_eq_none (by rw [bl_len]; omega)]
def unm (n : Nat) (D : Nat → Bool) : Nat := ((List.range n).filter fun x => !D x).length
theorem unm_succ (n : Nat) (D : Nat → Bool) : unm (n + 1) D = unm n D + if D n = true then 0 else 1 := by
  unfold unm
  rw [List.range_succ, List.filter_append, List.length_append]
  cases e : D n
  · rw [List.filter_cons_of_pos (by rw [e]; rfl)]
    rfl
  · rw [List.filter_cons_of_neg (by rw [e]; exact Bool.false_ne_true)]
    rfl
theorem unm_on {n y : Nat} {D : Nat → Bool} (h : y < n) (f : D y = false) : unm n (on D y) + 1 = unm n D := by
  induction n with
  | zero => omega
  | succ n ih =>
    rw [unm_succ, unm_succ]
    by_cases e : y = n
    · subst e
      have s : unm y (on D y) = unm y D := by
        unfold unm
        congr 1
        refine List.filter_congr fun x hx => ?_
        have := List.mem_range.mp hx
        unfold on
        rw [decide_eq_false (by omega), Bool.or_false]
      have t : on D y y = true := by unfold on; rw [decide_eq_true rfl, Bool.or_true]
      rw [s, if_pos t, f]
      rfl
    · have t : on D y n = D n := by unfold on; rw [decide_eq_false (fun z => e z.symm), Bool.or_false]
      rw [t]
      have := ih (by omega)
      omega
theorem unm_le (n : Nat) (D : Nat → Bool) : unm n D ≤ n := by
  unfold unm
  have := List.length_filter_le (fun x => !D x) (List.range n)
  rw [List.length_range] at this
  exact this
/-- how far the search has come: the marks D, the waiting ws, the one that is being asked (or none) with those of it that are done -/
structure Srch (n : Nat) (R : Rel) (S A : List Int) (D : Nat → Bool) (ws : List Int) (cur : Option (Nat × List Int)) : Prop where
  snd : ∀ x, x < n → D x = true → Rch n R S A x
  st : ∀ x, x < n → (x : Int) ∈ S → (x : Int) ∈ A → D x = true
  wt : ∀ z ∈ ws, ∃ x : Nat, z = (x : Int) ∧ x < n ∧ D x = true
  cl : ∀ x, x < n → D x = true → (x : Int) ∉ ws → (∀ c, cur = some c → x ≠ c.1) → ∀ y, y < n → R x y = true → (y : Int) ∈ A → D y = true
  cu : ∀ c, cur = some c → c.1 < n ∧ D c.1 = true ∧ ∀ y : Nat, (y : Int) ∈ c.2 → (y : Int) ∈ A → D y = true
theorem Srch.done {n : Nat} {R : Rel} {S A : List Int} {D : Nat → Bool} (h : Srch n R S A D [] none) : ∀ x, x < n → D x = rchB n R S A x := fun x hx => by
  have k : D x = true ↔ rchB n R S A x = true := by
    rw [rchB_iff]
    exact ⟨h.snd x hx, fun r => r.least (D := fun x => x < n → D x = true) (fun a b c d _ => h.st a b c d) (fun a b ha hd hb r m _ => h.cl a ha (hd ha) (List.not_mem_nil) (fun _ z => nomatch z) b hb r m) hx⟩
  cases e : D x <;> cases f : rchB n R S A x
  · rfl
  · rw [e, f] at k; exact absurd (k.mpr rfl) Bool.false_ne_true
  · rw [e, f] at k; exact absurd (k.mp rfl) Bool.false_ne_true
  · rfl
theorem Srch.init {n : Nat} {R : Rel} {S A : List Int} {D : Nat → Bool} (h : ∀ x, D x = (decide ((x : Int) ∈ A) && decide ((x : Int) ∈ S))) : Srch n R S A D (tells D n) none := by
  have k : ∀ x, D x = true ↔ (x : Int) ∈ A ∧ (x : Int) ∈ S := fun x => by
    rw [h, Bool.and_eq_true, decide_eq_true_iff, decide_eq_true_iff]
  refine ⟨fun x hx d => .start hx ((k x).mp d).2 ((k x).mp d).1, fun x _ a b => (k x).mpr ⟨b, a⟩, fun z hz => ?_, fun x hx d nw => absurd (mem_tells.mpr ⟨hx, d⟩) nw, fun _ z => nomatch z⟩
  unfold tells at hz
  obtain ⟨x, hx, e⟩ := List.mem_map.mp hz
  obtain ⟨h1, h2⟩ := List.mem_filter.mp hx
  exact ⟨x, e.symm, List.mem_range.mp h1, h2⟩
theorem Srch.pop {n : Nat} {R : Rel} {S A : List Int} {D : Nat → Bool} {ws : List Int} {z : Int} (h : Srch n R S A D (ws ++ [z]) none) : ∃ x : Nat, z = (x : Int) ∧ x < n ∧ Srch n R S A D ws (some (x, [])) := by
  obtain ⟨x, e, hx, d⟩ := h.wt z (List.mem_append_right _ (List.mem_singleton.mpr rfl))
  refine ⟨x, e, hx, h.snd, h.st, fun q hq => h.wt q (List.mem_append_left _ hq), fun y hy dy nw nc => h.cl y hy dy (fun m => ?_) (fun _ q => nomatch q), fun c hc => ?_⟩
  · cases List.mem_append.mp m with
    | inl m => exact nw m
    | inr m =>
      have := List.mem_singleton.mp m
      exact nc (x, []) rfl (by show y = x; omega)
  · cases hc
    exact ⟨hx, d, fun _ q => nomatch q⟩
theorem Srch.mark {n : Nat} {R : Rel} {S A : List Int} {D : Nat → Bool} {ws ds : List Int} {x y : Nat} (h : Srch n R S A D ws (some (x, ds))) (hy : y < n) (r : R x y = true) (m : (y : Int) ∈ A) : Srch n R S A (on D y) (ws ++ [(y : Int)]) (some (x, ds ++ [(y : Int)])) := by
  have o : ∀ z, on D y z = true ↔ D z = true ∨ z = y := fun z => by
    unfold on
    rw [Bool.or_eq_true, decide_eq_true_iff]
  obtain ⟨hx, dx, hd⟩ := h.cu _ rfl
  refine ⟨fun z hz d => ?_, fun z hz a b => (o z).mpr (.inl (h.st z hz a b)), fun q hq => ?_, fun z hz d nw nc w hw rz mw => ?_, fun c hc => ?_⟩
  · cases (o z).mp d with
    | inl d => exact h.snd z hz d
    | inr e => rw [e]; exact .step (h.snd x hx dx) hy r m
  · cases List.mem_append.mp hq with
    | inl hq =>
      obtain ⟨z, e, hz, d⟩ := h.wt q hq
      exact ⟨z, e, hz, (o z).mpr (.inl d)⟩
    | inr hq => exact ⟨y, List.mem_singleton.mp hq, hy, (o y).mpr (.inr rfl)⟩
  · cases (o z).mp d with
    | inl d => exact (o w).mpr (.inl (h.cl z hz d (fun q => nw (List.mem_append_left _ q)) (fun c hc => by cases hc; exact nc (x, ds ++ [(y : Int)]) rfl) w hw rz mw))
    | inr e => exact absurd (List.mem_append_right _ (List.mem_singleton.mpr (by rw [e]))) nw
  · cases hc
    refine ⟨hx, (o x).mpr (.inl dx), fun z hz mz => ?_⟩
    cases List.mem_append.mp hz with
    | inl hz => exact (o z).mpr (.inl (hd z hz mz))
    | inr hz => exact (o z).mpr (.inr (by have := List.mem_singleton.mp hz; omega))
theorem Srch.pass {n : Nat} {R : Rel} {S A : List Int} {D : Nat → Bool} {ws ds : List Int} {x y : Nat} (h : Srch n R S A D ws (some (x, ds))) (d : (y : Int) ∈ A → D y = true) : Srch n R S A D ws (some (x, ds ++ [(y : Int)])) := by
  obtain ⟨hx, dx, hd⟩ := h.cu _ rfl
  refine ⟨h.snd, h.st, h.wt, fun z hz dz nw nc => h.cl z hz dz nw (fun c hc => by cases hc; exact nc (x, ds ++ [(y : Int)]) rfl), fun c hc => ?_⟩
  cases hc
  refine ⟨hx, dx, fun z hz mz => ?_⟩
  cases List.mem_append.mp hz with
  | inl hz => exact hd z hz mz
  | inr hz =>
    have e : z = y := by have := List.mem_singleton.mp hz; omega
    rw [e]
    exact d (e ▸ mz)
theorem Srch.end {n : Nat} {R : Rel} {S A : List Int} {D : Nat → Bool} {ws ds : List Int} {x : Nat} (h : Srch n R S A D ws (some (x, ds))) (all : ∀ y, y < n → R x y = true → (y : Int) ∈ ds) : Srch n R S A D ws none := by
  obtain ⟨hx, dx, hd⟩ := h.cu _ rfl
  refine ⟨h.snd, h.st, h.wt, fun z hz dz nw _ w hw r m => ?_, fun _ q => nomatch q⟩
  by_cases e : z = x
  · subst e
    exact hd w (all w hw r) m
  · exact h.cl z hz dz nw (fun c hc => by cases hc; exact e) w hw r m
end RM

end
section
set_option Elab.async false
set_option linter.all false
set_option maxRecDepth 100000
set_option maxHeartbeats 4000000
namespace K02
open PySem L2 Kit KR
def top (i : Nat) : Stmt := PySem.Challenge.pw_pullstore_k02_tree_paths_and_sides.main.body.getD i (.Pass ⟨0, 0, 0, 0⟩)
local macro_rules | `(tactic| fail "om") => `(tactic| first | omega | decide | assumption | (simp only [List.length_map, List.length_append, List.length_cons, List.length_nil]; omega) | fail "no om")
local macro_rules | `(tactic| fail "nz") => `(tactic| first | decide | omega | fail "no nz")
local macro_rules | `(tactic| fail "dv") => `(tactic| exact ⟨by first | decide | omega, by first | decide | omega⟩)
local macro_rules | `(tactic| fail "mul") => `(tactic| first | exact .inr ⟨by decide, by decide⟩ | exact .inl ⟨by decide, by decide⟩ | exact mulF (by decide) (by decide) | exact .inl ⟨by omega, by omega⟩ | exact .inr ⟨by omega, by omega⟩ | fail "no mul")
local macro_rules | `(tactic| fail "sz") => `(tactic| first | assumption | exact Nat.zero_le _ | (show 1 ≤ sizeLine; decide) | (show 2 ≤ sizeLine; decide) | (show 3 ≤ sizeLine; decide) | (show 4 ≤ sizeLine; decide) | (show 5 ≤ sizeLine; decide) | exact Evl.sz_of (by omega) | (refine Evl.sz_of ?_; simp only [List.length_append, List.length_map, List.length_cons, List.length_nil]; omega) | fail "no sz")
local macro_rules | `(tactic| fail "szl") => `(tactic| first | exact Evl.sz_lt (by omega) | (refine Evl.sz_lt ?_; simp only [List.length_append, List.length_map, List.length_cons, List.length_nil]; omega) | fail "no szl")
local macro_rules | `(tactic| fail "ix") => `(tactic| first | assumption | exact ix0 | exact ix1 | exact ix2 | exact at_ref (by assumption) (by omega) | exact at_int (by assumption) (by omega) | exact at_drawn (by assumption) (by assumption) | rfl | fail "no ix")
local macro_rules | `(tactic| fail "ixn") => `(tactic| first | rfl | assumption | fail "no ixn")
local macro_rules | `(tactic| fail "nb") => `(tactic| first | assumption | exact nb_tup | exact nb_nil | exact nb_ints | exact nb_refs | exact nb_ins | exact nb_dT | exact nb_frz | fail "no nb")
local macro_rules | `(tactic| fail "ne") => `(tactic| first | assumption | exact Ne.symm (by assumption) | exact ne_of_none (by assumption) (by assumption) | exact (ne_of_none (by assumption) (by assumption)).symm | exact ne_of (by assumption) (by assumption) (by intro q; cases q) | exact ne_of (by assumption) (by assumption) (by simp) | fail "no ne")
local macro_rules | `(tactic| fail "hp") => `(tactic| first | assumption | exact upd_same | (refine' Tk.get (by assumption) ?k1; (case k1 => fail "tk")) | (with_reducible refine' upd_new ?h1 ?n1; (case n1 => assumption); (case h1 => fail "hp")) | (refine' Same.get (by assumption) ?h1; (case h1 => fail "hp")) | (refine' Kp.get (by assumption) (by fail "bx") ?h1 ?d1; (case h1 => fail "hp"); (case d1 => fail "nb")) | (with_reducible refine' upd_oth ?h1 ?n1; (case n1 => fail "ne"); (case h1 => fail "hp")) | (with_reducible refine' upd_oth ?h1 ?n1; (case h1 => fail "hp"); (case n1 => fail "ne")) | fail "no hp")
local macro_rules | `(tactic| fail "bx") => `(tactic| first | assumption | (with_reducible refine' BoxOk.new ?h1 ?n1; (case n1 => assumption); (case h1 => fail "bx")) | (refine' BoxOk.same (by assumption) ?h1; (case h1 => fail "bx")) | (with_reducible refine' BoxOk.mut ?h1 ?h2 ?n1; (case n1 => assumption); (case h2 => assumption); (case h1 => fail "bx")) | fail "no bx")
local macro_rules | `(tactic| fail "kp") => `(tactic| first | assumption | exact Kp.refl | (with_reducible refine' Kp.at ?h1; (case h1 => fail "kp")) | (with_reducible refine' Kp.new ?h1 ?n1; (case n1 => assumption); (case h1 => fail "kp")) | (with_reducible refine' Kp.mut ?h1 ?n1; (case n1 => assumption); (case h1 => fail "kp")) | (refine' Kp.tr (by assumption) ?h1; (case h1 => fail "kp")) | (refine' Kp.tr (Kp.of (by assumption)) ?h1; (case h1 => fail "kp")) | fail "no kp")
local macro_rules | `(tactic| fail "ite") => `(tactic| first | refine iteT ?_ | refine iteF ?_)
local macro_rules | `(tactic| fail "tt") => `(tactic| first | rfl | exact decide_eq_true (by first | rfl | omega | assumption) | exact decide_eq_true (congrArg V.int (by first | rfl | omega)) | fail "no tt")
local macro_rules | `(tactic| fail "cv") => `(tactic| first | exact .ty _ | exact .own _)
local macro_rules | `(tactic| fail "tx") => `(tactic| first | exact .base (.int _) | exact .base (.bl _) | exact .base .non | exact .base (.lst (by fail "hp")) | exact .base (.tup (by fail "hp")) | fail "no tx")
local macro_rules | `(tactic| fail "dead") => `(tactic| (exfalso; first | omega | contradiction | simp_all))
local macro_rules | `(tactic| fail "dp") => `(tactic| first | exact .tup (SqT.of (by fail "hp")) (.cons (.int _) (.cons (.int _) .nil)) | exact .lst (SqL.of (by fail "hp")) (dpPrs (by fail "pr")) | exact .lst (SqL.of (by fail "hp")) (dpInts _) | exact .lst (SqL.of (by fail "hp")) .nil | fail "no dp")
local macro_rules | `(tactic| fail "shp") => `(tactic| first | assumption | exact prD_shaped _ | exact PySem.W.ke_shaped_ints _ | rfl | fail "no shp")
local macro_rules | `(tactic| fail "pr") => `(tactic| first | assumption | exact PrT.mono (by assumption) (by fail "tk") | fail "no pr")
local macro_rules | `(tactic| fail "tk") => `(tactic| first | assumption | exact Tk.refl | (with_reducible refine' Tk.new ?h1 ?n1; (case n1 => assumption); (case h1 => fail "tk")) | (refine' Tk.tr (Kp.tk (by assumption) (by fail "bx")) ?h1; (case h1 => fail "tk")) | (refine' Tk.tr (Same.tk (by assumption)) ?h1; (case h1 => fail "tk")) | (with_reducible refine' Tk.lst ?h1 ?n1; (case n1 => fail "hp"); (case h1 => fail "tk")) | fail "no tk")

def Df (K : PySem.W.Frag) (mg : Str → Option Value) (x : Str) (st : Stmt) (ps : List Str) : Prop := ∃ (f : Addr) (fd : FuncData), L2.Fun K x x st f fd ∧ mg x = some (.ref f) ∧ Binds K fd ps []
structure Txt (K : PySem.W.Frag) (mg : Str → Option Value) : Prop where
  len : mg "len" = none
  int : mg "int" = none
  bool : mg "bool" = none
  list : mg "list" = none
  tuple : mg "tuple" = none
  range : mg "range" = none
  isinstance : mg "isinstance" = none
  sum : mg "sum" = none
  max : mg "max" = none
  min : mg "min" = none
  set : mg "set" = none
  sorted : mg "sorted" = none
theorem pair_ne {x d n : Int} (h0 : 0 ≤ x) (h1 : x < n) (h2 : 0 ≤ d) (h3 : d < n - 1) : x ≠ (x + 1 + d).fmod n := by
  intro e
  have h4 : (0 : Int) < n := by omega
  by_cases h : x + 1 + d < n
  · rw [Int.fmod_eq_emod_of_nonneg _ (Int.le_of_lt h4), Int.emod_eq_of_lt (by omega) h] at e
    omega
  · have q : x + 1 + d = (x + 1 + d - n) + n * 1 := by omega
    rw [Int.fmod_eq_emod_of_nonneg _ (Int.le_of_lt h4), q, Int.add_mul_emod_self_left, Int.emod_eq_of_lt (by omega) (by omega)] at e
    omega
section
variable {P : Program} {w : World} {K : PySem.W.Frag} {mg : Str → Option Value} {base : Heap}

abbrev sDraw : Stmt := top 27
theorem scDraw : FnScope ["box", "many", "digit", "first", "second", "third"] ["box", "many"] (defScope sDraw) := ⟨rfl, rfl, rfl, by decide +kernel, rfl, by decide +kernel, by decide +kernel⟩
def spDraw : Sp := fun vs H Q _ => ∃ (b bc : Addr) (m : Int), vs = [.ref b, .int m] ∧ BoxOk H b bc ∧ 1 ≤ m ∧ m ≤ 1000000000 ∧
  ∀ (d : Int) (H' : Hp), 0 ≤ d → d < m → Kp b H H' → BoxOk H' b bc → Q (.int d) H'
theorem ok_Draw (D : Df K mg "_law_draw" sDraw ["box", "many"]) (T : Txt K mg) : C8.Cal P w K mg base 1 "_law_draw" spDraw [] := by
  obtain ⟨f, fd, F, hm, hb⟩ := D
  refine ⟨f, fd, ["box", "many"], [], F.ok scDraw (fun vs H Q E h => ?_) (fun cdv A outer s H vs Q E hr h => ?_), hm, F.kp, hb, .nil⟩
  · obtain ⟨b, c, m, rfl, ⟨ns, x1, x2, x3, x4, hb, hc, h1⟩, hm1, hm2, k⟩ := h
    rfl
  · obtain ⟨b, c, m, rfl, ⟨ns, x1, x2, x3, x4, hb, hc, h1⟩, hm1, hm2, k⟩ := h
    refine ⟨_, (pss_cons (ps_if (pt_cmpR op_gt (pe_ix ix_list (pv 0) pe_int (fun _ _ => rfl)) pe_int (nomark _))
        (pss_cons (ps_set (i := 2) scDraw.nd rfl (Or.inl rfl) (pe_op op_modN (pe_callTy call_int1 (by rfl) T.int (by decide +kernel) (pa_cons (pe_ix ix_list (pv 0) pe_int (fun _ _ => rfl)) pa_nil)) (pv 1)))
        (pss_cons (ps_asg (pe_op op_fdivN (pe_ix ix_list (pv 0) pe_int (fun _ _ => rfl)) (pv 1)) (pg_sub (pv 0) pe_int set_list))
        (pss_one (ps_ret (pv 2)))))
        pss_nil)
      (pss_cons (ps_asg (pe_op op_add (pe_ix ix_list (pv 0) pe_int (fun _ _ => rfl)) pe_int) (pg_sub (pv 0) pe_int set_list))
      (pss_cons (ps_set (i := 3) scDraw.nd rfl (Or.inl rfl) (pe_op op_modN (pe_callTy call_int1 (by rfl) T.int (by decide +kernel) (pa_cons (pe_op op_add (pe_op op_mul (pe_ix ix_list (pv 0) pe_int (fun _ _ => rfl)) pe_int) (pe_op op_mul (pe_ix ix_list (pv 0) pe_int (fun _ _ => rfl)) pe_int)) pa_nil)) pe_int))
      (pss_cons (ps_set (i := 4) scDraw.nd rfl (Or.inl rfl) (pe_op op_modN (pe_callTy call_int1 (by rfl) T.int (by decide +kernel) (pa_cons (pe_op op_add (pe_op op_add (pe_op op_mul (pv 3) (pv 3)) (pe_op op_mul (pe_ix ix_list (pv 0) pe_int (fun _ _ => rfl)) pe_int)) (pe_ix ix_list (pv 0) pe_int (fun _ _ => rfl))) pa_nil)) pe_int))
      (pss_cons (ps_set (i := 5) scDraw.nd rfl (Or.inl rfl) (pe_op op_modN (pe_callTy call_int1 (by rfl) T.int (by decide +kernel) (pa_cons (pe_op op_add (pe_op op_mul (pv 4) (pv 4)) (pv 3)) pa_nil)) pe_int))
      (pss_one (ps_ret (pe_op op_modN (pe_callTy call_int1 (by rfl) T.int (by decide +kernel) (pa_cons (pe_op op_fdivN (pv 5) pe_int) pa_nil)) (pv 1))))))))), ?_⟩
    -- if box[2] > 0:
    refine ⟨_, rfl, _, _, _, _, rfl, rfl, SqL.of (by fail "hp"), (by fail "ix"), _, _, rfl, rfl, _, rfl, ?_⟩
    refine ifD (fun g1 => ?_) (fun g1 => ?_)
    · -- digit = int(box[2]) % many
      refine ⟨_, rfl, _, _, _, _, rfl, rfl, SqL.of (by fail "hp"), (by fail "ix"), .inl ⟨_, rfl, _, rfl, _, _, rfl, rfl, (by fail "nz"), ?_⟩⟩
      -- box[2] = box[2] // many
      refine ⟨_, rfl, _, _, _, _, rfl, rfl, SqL.of (by fail "hp"), (by fail "ix"), _, rfl, _, _, rfl, rfl, (by fail "dv"), _, rfl, _, _, _, _, rfl, rfl, (by fail "hp"), (by fail "ixn"), ?_⟩
      -- return digit
      refine ⟨_, rfl, ?_⟩
      refine k _ _ (fm0 _ (by omega)) (fm1 _ (by omega)) (by fail "kp") ?_
      exact ⟨ns, x1, _, x3, x4, upd_same, by rw [upd_ne (box_c hb hc)]; exact hc, h1⟩
    · -- box[3] = box[3] + 1
      refine ⟨_, rfl, _, _, _, _, rfl, rfl, SqL.of (by fail "hp"), (by fail "ix"), _, _, rfl, rfl, _, rfl, _, _, _, _, rfl, rfl, (by fail "hp"), (by fail "ixn"), ?_⟩
      -- first = int(box[4] * 48271 + box[3] * 69621) % 2147483647
      refine ⟨_, rfl, _, _, _, _, rfl, rfl, SqL.of (by fail "hp"), (by fail "ix"), _, _, rfl, rfl, (by fail "mul"), _, rfl, _, _, _, _, rfl, rfl, SqL.of (by fail "hp"), (by fail "ix"), _, _, rfl, rfl, (by fail "mul"), _, _, rfl, rfl, .inl ⟨_, rfl, _, _, rfl, rfl, (by fail "nz"), ?_⟩⟩
      -- second = int(first * first + box[3] * 40692 + box[4]) % 2147483399
      refine ⟨_, rfl, _, rfl, _, _, rfl, rfl, (by fail "mul"), _, rfl, _, _, _, _, rfl, rfl, SqL.of (by fail "hp"), (by fail "ix"), _, _, rfl, rfl, (by fail "mul"), _, _, rfl, rfl, _, rfl, _, _, _, _, rfl, rfl, SqL.of (by fail "hp"), (by fail "ix"), _, _, rfl, rfl, .inl ⟨_, rfl, _, _, rfl, rfl, (by fail "nz"), ?_⟩⟩
      -- third = int(second * second + first) % 2147483629
      refine ⟨_, rfl, _, rfl, _, _, rfl, rfl, (by fail "mul"), _, rfl, _, _, rfl, rfl, .inl ⟨_, rfl, _, _, rfl, rfl, (by fail "nz"), ?_⟩⟩
      -- return int(third // 8) % many
      refine ⟨_, rfl, _, _, rfl, rfl, (by fail "dv"), .inl ⟨_, rfl, _, rfl, _, _, rfl, rfl, (by fail "nz"), ?_⟩⟩
      refine k _ _ (fm0 _ (by omega)) (fm1 _ (by omega)) (by fail "kp") ?_
      exact ⟨ns, x1, x2, _, x4, upd_same, by rw [upd_ne (box_c hb hc)]; exact hc, h1⟩
abbrev sGreat : Stmt := top 28
theorem scGreat : FnScope ["box", "low", "middle", "high", "top"] ["box"] (defScope sGreat) := ⟨rfl, rfl, rfl, by decide +kernel, rfl, by decide +kernel, by decide +kernel⟩
def spGreat : Sp := fun vs H Q _ => ∃ (b bc : Addr), vs = [.ref b] ∧ BoxOk H b bc ∧
  ∀ (d : Int) (H' : Hp), 0 ≤ d → Kp b H H' → BoxOk H' b bc → Q (.int d) H'
theorem ok_Great (D : Df K mg "_law_great" sGreat ["box"]) (T : Txt K mg) (GDraw : C8.Cal P w K mg base 1 "_law_draw" spDraw []) : C8.Cal P w K mg base 2 "_law_great" spGreat [] := by
  obtain ⟨f, fd, F, hm, hb⟩ := D
  refine ⟨f, fd, ["box"], [], F.ok scGreat (fun vs H Q E h => ?_) (fun cdv A outer s H vs Q E hr h => ?_), hm, F.kp, hb, .nil⟩
  · obtain ⟨b, bc, rfl, bx, k⟩ := h
    rfl
  · obtain ⟨b, bc, rfl, bx, k⟩ := h
    refine ⟨_, (pss_cons (ps_set (i := 1) scGreat.nd rfl (Or.inl rfl) (C8.pe_c GDraw hr (by decide) (by rfl) (pa_cons (pv 0) (pa_cons (pe_op op_pow pe_int pe_int) pa_nil))))
      (pss_cons (ps_set (i := 2) scGreat.nd rfl (Or.inl rfl) (C8.pe_c GDraw hr (by decide) (by rfl) (pa_cons (pv 0) (pa_cons (pe_op op_pow pe_int pe_int) pa_nil))))
      (pss_cons (ps_set (i := 3) scGreat.nd rfl (Or.inl rfl) (C8.pe_c GDraw hr (by decide) (by rfl) (pa_cons (pv 0) (pa_cons (pe_op op_pow pe_int pe_int) pa_nil))))
      (pss_cons (ps_set (i := 4) scGreat.nd rfl (Or.inl rfl) (C8.pe_c GDraw hr (by decide) (by rfl) (pa_cons (pv 0) (pa_cons (pe_op op_pow pe_int pe_int) pa_nil))))
      (pss_one (ps_ret (pe_op op_add (pe_op op_mul (pe_op op_add (pe_op op_mul (pe_op op_add (pe_op op_mul (pv 4) (pe_op op_pow pe_int pe_int)) (pv 3)) (pe_op op_pow pe_int pe_int)) (pv 2)) (pe_op op_pow pe_int pe_int)) (pv 1)))))))), ?_⟩
    -- low = _law_draw(box, 10 ** 8)
    refine ⟨_, rfl, _, _, rfl, rfl, ⟨by decide, by decide, by decide⟩, _, _, _, rfl, (by fail "bx"), (by fail "om"), (by fail "om"), fun d1 H1 da1 db1 kp1 bx1 => ?_⟩
    -- middle = _law_draw(box, 10 ** 8)
    refine ⟨_, rfl, _, _, rfl, rfl, ⟨by decide, by decide, by decide⟩, _, _, _, rfl, (by fail "bx"), (by fail "om"), (by fail "om"), fun d2 H2 da2 db2 kp2 bx2 => ?_⟩
    -- high = _law_draw(box, 10 ** 8)
    refine ⟨_, rfl, _, _, rfl, rfl, ⟨by decide, by decide, by decide⟩, _, _, _, rfl, (by fail "bx"), (by fail "om"), (by fail "om"), fun d3 H3 da3 db3 kp3 bx3 => ?_⟩
    -- top = _law_draw(box, 10 ** 6)
    refine ⟨_, rfl, _, _, rfl, rfl, ⟨by decide, by decide, by decide⟩, _, _, _, rfl, (by fail "bx"), (by fail "om"), (by fail "om"), fun d4 H4 da4 db4 kp4 bx4 => ?_⟩
    -- return ((top * 10 ** 8 + high) * 10 ** 8 + middle) * 10 ** 8 + low
    refine ⟨_, rfl, _, _, rfl, rfl, ⟨by decide, by decide, by decide⟩, _, _, rfl, rfl, (by fail "mul"), _, rfl, _, _, rfl, rfl, _, _, rfl, rfl, ⟨by decide, by decide, by decide⟩, _, _, rfl, rfl, (by fail "mul"), _, rfl, _, _, rfl, rfl, _, _, rfl, rfl, ⟨by decide, by decide, by decide⟩, _, _, rfl, rfl, (by fail "mul"), _, rfl, _, _, rfl, rfl, ?_⟩
    refine k _ _ ?_ (by fail "kp") (by fail "bx")
    show 0 ≤ ((d4 * (100000000 : Int) + d3) * (100000000 : Int) + d2) * (100000000 : Int) + d1
    omega
abbrev sIsInt : Stmt := top 29
theorem scIsInt : FnScope ["actual"] ["actual"] (defScope sIsInt) := ⟨rfl, rfl, rfl, by decide +kernel, rfl, by decide +kernel, by decide +kernel⟩
def spIsInt : Sp := fun vs H Q _ => ∃ (i : Int), vs = [.int i] ∧ Q (.bl true) H
theorem ok_IsInt (D : Df K mg "_law_is_int" sIsInt ["actual"]) (T : Txt K mg) : C8.Cal P w K mg base 1 "_law_is_int" spIsInt [] := by
  obtain ⟨f, fd, F, hm, hb⟩ := D
  refine ⟨f, fd, ["actual"], [], F.ok scIsInt (fun vs H Q E h => ?_) (fun cdv A outer s H vs Q E hr h => ?_), hm, F.kp, hb, .nil⟩
  · obtain ⟨i, rfl, k⟩ := h
    rfl
  · obtain ⟨i, rfl, k⟩ := h
    refine ⟨_, (pss_one (ps_ret (pe_and (pe_callB call_isi (by rfl) T.isinstance (by decide +kernel) (pa_cons (pv 0) (pa_cons (pe_bltn (v := .ty "int") (u := .type "int") (by rfl) T.int (by decide +kernel) rfl) pa_nil))) (pe_one (pe_not (pe_callB call_isi (by rfl) T.isinstance (by decide +kernel) (pa_cons (pv 0) (pa_cons (pe_bltn (v := .ty "bool") (u := .type "bool") (by rfl) T.bool (by decide +kernel) rfl) pa_nil)))))))), ?_⟩
    -- return isinstance(actual, int) and (not isinstance(actual, bool))
    refine ⟨_, rfl, _, _, _, _, true, rfl, (by fail "cv"), (by fail "tx"), kit_ty (by decide +kernel), _, rfl, iteK (by fail "tt") ⟨_, rfl, _, _, _, _, false, rfl, (by fail "cv"), (by fail "tx"), kit_ty (by decide +kernel), _, rfl, ?_⟩⟩
    exact k
abbrev sStranger : Stmt := top 30
theorem scStranger : FnScope ["box", "count", "kind", "great"] ["box", "count"] (defScope sStranger) := ⟨rfl, rfl, rfl, by decide +kernel, rfl, by decide +kernel, by decide +kernel⟩
def spStranger : Sp := fun vs H Q _ => ∃ (b bc : Addr) (n : Int), vs = [.ref b, .int n] ∧ BoxOk H b bc ∧ 0 < n ∧
  ∀ (d : Int) (H' : Hp), (d < 0 ∨ n ≤ d) → Kp b H H' → BoxOk H' b bc → Q (.int d) H'
theorem ok_Stranger (D : Df K mg "_law_stranger" sStranger ["box", "count"]) (T : Txt K mg) (GDraw : C8.Cal P w K mg base 1 "_law_draw" spDraw []) (GGreat : C8.Cal P w K mg base 2 "_law_great" spGreat []) : C8.Cal P w K mg base 3 "_law_stranger" spStranger [] := by
  obtain ⟨f, fd, F, hm, hb⟩ := D
  refine ⟨f, fd, ["box", "count"], [], F.ok scStranger (fun vs H Q E h => ?_) (fun cdv A outer s H vs Q E hr h => ?_), hm, F.kp, hb, .nil⟩
  · obtain ⟨b, bc, n, rfl, bx, hn, k⟩ := h
    rfl
  · obtain ⟨b, bc, n, rfl, bx, hn, k⟩ := h
    refine ⟨_, (pss_cons (ps_set (i := 2) scStranger.nd rfl (Or.inl rfl) (C8.pe_c GDraw hr (by decide) (by rfl) (pa_cons (pv 0) (pa_cons pe_int pa_nil))))
      (pss_cons (ps_if (pt_cmpR op_eq (pv 2) pe_int (nomark _))
        (pss_one (ps_ret (pe_un un_neg pe_int)))
        pss_nil)
      (pss_cons (ps_if (pt_cmpR op_eq (pv 2) pe_int (nomark _))
        (pss_one (ps_ret (pv 1)))
        pss_nil)
      (pss_cons (ps_if (pt_cmpR op_eq (pv 2) pe_int (nomark _))
        (pss_one (ps_ret (pe_op op_sub (pe_un un_neg pe_int) (C8.pe_c GDraw hr (by decide) (by rfl) (pa_cons (pv 0) (pa_cons pe_int pa_nil))))))
        pss_nil)
      (pss_cons (ps_if (pt_cmpR op_eq (pv 2) pe_int (nomark _))
        (pss_one (ps_ret (pe_op op_add (pv 1) (C8.pe_c GDraw hr (by decide) (by rfl) (pa_cons (pv 0) (pa_cons pe_int pa_nil))))))
        pss_nil)
      (pss_cons (ps_set (i := 3) scStranger.nd rfl (Or.inl rfl) (C8.pe_c GGreat hr (by decide) (by rfl) (pa_cons (pv 0) pa_nil)))
      (pss_cons (ps_if (pt_cmpR op_eq (pv 2) pe_int (nomark _))
        (pss_one (ps_ret (pe_callB (call_max2 rfl) (by rfl) T.max (by decide +kernel) (pa_cons (pv 1) (pa_cons (pv 3) pa_nil)))))
        pss_nil)
      (pss_one (ps_ret (pe_callB (call_min2 rfl) (by rfl) T.min (by decide +kernel) (pa_cons (pe_un un_neg pe_int) (pa_cons (pe_op op_sub pe_int (pv 3)) pa_nil)))))))))))), ?_⟩
    -- kind = _law_draw(box, 6)
    refine ⟨_, rfl, _, _, _, rfl, (by fail "bx"), (by fail "om"), (by fail "om"), fun d1 H1 da1 db1 kp1 bx1 => ?_⟩
    -- if kind == 0:
    refine ⟨_, rfl, rfl, _, rfl, ?_⟩
    refine ifEqI (fun g2 => ?_) (fun g2 => ?_)
    · -- return -1
      refine ⟨_, rfl, ?_⟩
      exact k _ _ (by omega) (by fail "kp") (by fail "bx")
    · -- if kind == 1:
      refine ⟨_, rfl, rfl, _, rfl, ?_⟩
      refine ifEqI (fun g3 => ?_) (fun g3 => ?_)
      · -- return count
        refine ⟨_, rfl, ?_⟩
        exact k _ _ (by omega) (by fail "kp") (by fail "bx")
      · -- if kind == 2:
        refine ⟨_, rfl, rfl, _, rfl, ?_⟩
        refine ifEqI (fun g4 => ?_) (fun g4 => ?_)
        · -- return -1 - _law_draw(box, 24)
          refine ⟨_, rfl, _, rfl, _, _, _, rfl, (by fail "bx"), (by fail "om"), (by fail "om"), fun d5 H5 da5 db5 kp5 bx5 => ⟨_, _, rfl, rfl, ?_⟩⟩
          exact k _ _ (by omega) (by fail "kp") (by fail "bx")
        · -- if kind == 3:
          refine ⟨_, rfl, rfl, _, rfl, ?_⟩
          refine ifEqI (fun g6 => ?_) (fun g6 => ?_)
          · -- return count + _law_draw(box, 4)
            refine ⟨_, rfl, _, rfl, _, _, _, rfl, (by fail "bx"), (by fail "om"), (by fail "om"), fun d7 H7 da7 db7 kp7 bx7 => ⟨_, _, rfl, rfl, ?_⟩⟩
            exact k _ _ (by omega) (by fail "kp") (by fail "bx")
          · -- great = _law_great(box)
            refine ⟨_, rfl, _, _, rfl, (by fail "bx"), fun d8 H8 da8 kp8 bx8 => ?_⟩
            -- if kind == 4:
            refine ⟨_, rfl, rfl, _, rfl, ?_⟩
            refine ifEqI (fun g9 => ?_) (fun g9 => ?_)
            · -- return max(count, great)
              refine ⟨_, rfl, _, rfl, _, _, rfl, ?_⟩
              exact k _ _ (by split <;> omega) (by fail "kp") (by fail "bx")
            · -- return min(-1, 0 - great)
              refine ⟨_, rfl, _, rfl, _, _, rfl, rfl, _, _, rfl, ?_⟩
              exact k _ _ (by split <;> omega) (by fail "kp") (by fail "bx")
def spTruth : Sp := fun vs H Q _ => ∃ (a : Bool), vs = [.bl a, .bl a] ∧ Q (.bl true) H
abbrev sCount : Stmt := top 32
theorem scCount : FnScope ["box", "share"] ["box"] (defScope sCount) := ⟨rfl, rfl, rfl, by decide +kernel, rfl, by decide +kernel, by decide +kernel⟩
def spCount : Sp := fun vs H Q _ => ∃ (b bc : Addr), vs = [.ref b] ∧ BoxOk H b bc ∧
  ∀ (d : Int) (H' : Hp), 1 ≤ d → d ≤ 24 → Kp b H H' → BoxOk H' b bc → Q (.int d) H'
theorem ok_Count (D : Df K mg "_law_count" sCount ["box"]) (T : Txt K mg) (GDraw : C8.Cal P w K mg base 1 "_law_draw" spDraw []) : C8.Cal P w K mg base 2 "_law_count" spCount [] := by
  obtain ⟨f, fd, F, hm, hb⟩ := D
  refine ⟨f, fd, ["box"], [], F.ok scCount (fun vs H Q E h => ?_) (fun cdv A outer s H vs Q E hr h => ?_), hm, F.kp, hb, .nil⟩
  · obtain ⟨b, bc, rfl, bx, k⟩ := h
    rfl
  · obtain ⟨b, bc, rfl, bx, k⟩ := h
    refine ⟨_, (pss_cons (ps_set (i := 1) scCount.nd rfl (Or.inl rfl) (C8.pe_c GDraw hr (by decide) (by rfl) (pa_cons (pv 0) (pa_cons pe_int pa_nil))))
      (pss_cons (ps_if (pt_cmpR op_lt (pv 1) pe_int (nomark _))
        (pss_one (ps_ret (pe_op op_add pe_int (C8.pe_c GDraw hr (by decide) (by rfl) (pa_cons (pv 0) (pa_cons pe_int pa_nil))))))
        pss_nil)
      (pss_cons (ps_if (pt_cmpR op_eq (pv 1) pe_int (nomark _))
        (pss_one (ps_ret (pe_op op_add pe_int (C8.pe_c GDraw hr (by decide) (by rfl) (pa_cons (pv 0) (pa_cons pe_int pa_nil))))))
        pss_nil)
      (pss_one (ps_ret (pe_op op_add pe_int (C8.pe_c GDraw hr (by decide) (by rfl) (pa_cons (pv 0) (pa_cons pe_int pa_nil))))))))), ?_⟩
    -- share = _law_draw(box, 8)
    refine ⟨_, rfl, _, _, _, rfl, (by fail "bx"), (by fail "om"), (by fail "om"), fun d1 H1 da1 db1 kp1 bx1 => ?_⟩
    -- if share < 6:
    refine ⟨_, rfl, _, _, rfl, rfl, _, rfl, ?_⟩
    refine ifD (fun g2 => ?_) (fun g2 => ?_)
    · -- return 1 + _law_draw(box, 6)
      refine ⟨_, rfl, _, _, _, rfl, (by fail "bx"), (by fail "om"), (by fail "om"), fun d3 H3 da3 db3 kp3 bx3 => ⟨_, _, rfl, rfl, ?_⟩⟩
      exact k _ _ (by omega) (by omega) (by fail "kp") (by fail "bx")
    · -- if share == 6:
      refine ⟨_, rfl, rfl, _, rfl, ?_⟩
      refine ifEqI (fun g4 => ?_) (fun g4 => ?_)
      · -- return 1 + _law_draw(box, 24)
        refine ⟨_, rfl, _, _, _, rfl, (by fail "bx"), (by fail "om"), (by fail "om"), fun d5 H5 da5 db5 kp5 bx5 => ⟨_, _, rfl, rfl, ?_⟩⟩
        exact k _ _ (by omega) (by omega) (by fail "kp") (by fail "bx")
      · -- return 23 + _law_draw(box, 2)
        refine ⟨_, rfl, _, _, _, rfl, (by fail "bx"), (by fail "om"), (by fail "om"), fun d6 H6 da6 db6 kp6 bx6 => ⟨_, _, rfl, rfl, ?_⟩⟩
        exact k _ _ (by omega) (by omega) (by fail "kp") (by fail "bx")
def spPair : Sp := fun vs H Q _ => ∃ (b bc : Addr) (n : Int), vs = [.ref b, .int n] ∧ BoxOk H b bc ∧ 2 ≤ n ∧ n ≤ 24 ∧
  ∀ (x y : Int) (t : Addr) (H' : Hp), 0 ≤ x → x < n → 0 ≤ y → y < n → x ≠ y → Kp b H H' → BoxOk H' b bc → H t = none → t ≠ b → H' t = some (.tup [.int x, .int y]) → Q (.ref t) H'
end
end K02

end
section
set_option Elab.async false
set_option linter.all false
set_option maxRecDepth 100000
set_option maxHeartbeats 4000000
namespace K02
open PySem L2 Kit KR
local macro_rules | `(tactic| fail "om") => `(tactic| first | omega | decide | assumption | (simp only [List.length_map, List.length_append, List.length_cons, List.length_nil]; omega) | fail "no om")
local macro_rules | `(tactic| fail "nz") => `(tactic| first | decide | omega | fail "no nz")
local macro_rules | `(tactic| fail "dv") => `(tactic| exact ⟨by first | decide | omega, by first | decide | omega⟩)
local macro_rules | `(tactic| fail "mul") => `(tactic| first | exact .inr ⟨by decide, by decide⟩ | exact .inl ⟨by decide, by decide⟩ | exact mulF (by decide) (by decide) | exact .inl ⟨by omega, by omega⟩ | exact .inr ⟨by omega, by omega⟩ | fail "no mul")
local macro_rules | `(tactic| fail "sz") => `(tactic| first | assumption | exact Nat.zero_le _ | (show 1 ≤ sizeLine; decide) | (show 2 ≤ sizeLine; decide) | (show 3 ≤ sizeLine; decide) | (show 4 ≤ sizeLine; decide) | (show 5 ≤ sizeLine; decide) | exact Evl.sz_of (by omega) | (refine Evl.sz_of ?_; simp only [List.length_append, List.length_map, List.length_cons, List.length_nil]; omega) | fail "no sz")
local macro_rules | `(tactic| fail "szl") => `(tactic| first | exact Evl.sz_lt (by omega) | (refine Evl.sz_lt ?_; simp only [List.length_append, List.length_map, List.length_cons, List.length_nil]; omega) | fail "no szl")
local macro_rules | `(tactic| fail "ix") => `(tactic| first | assumption | exact ix0 | exact ix1 | exact ix2 | exact at_ref (by assumption) (by omega) | exact at_int (by assumption) (by omega) | exact at_drawn (by assumption) (by assumption) | rfl | fail "no ix")
local macro_rules | `(tactic| fail "ixn") => `(tactic| first | rfl | assumption | fail "no ixn")
local macro_rules | `(tactic| fail "nb") => `(tactic| first | assumption | exact nb_tup | exact nb_nil | exact nb_ints | exact nb_refs | exact nb_ins | exact nb_dT | exact nb_frz | fail "no nb")
local macro_rules | `(tactic| fail "ne") => `(tactic| first | assumption | exact Ne.symm (by assumption) | exact ne_of_none (by assumption) (by assumption) | exact (ne_of_none (by assumption) (by assumption)).symm | exact ne_of (by assumption) (by assumption) (by intro q; cases q) | exact ne_of (by assumption) (by assumption) (by simp) | fail "no ne")
local macro_rules | `(tactic| fail "hp") => `(tactic| first | assumption | exact upd_same | (refine' Tk.get (by assumption) ?k1; (case k1 => fail "tk")) | (with_reducible refine' upd_new ?h1 ?n1; (case n1 => assumption); (case h1 => fail "hp")) | (refine' Same.get (by assumption) ?h1; (case h1 => fail "hp")) | (refine' Kp.get (by assumption) (by fail "bx") ?h1 ?d1; (case h1 => fail "hp"); (case d1 => fail "nb")) | (with_reducible refine' upd_oth ?h1 ?n1; (case n1 => fail "ne"); (case h1 => fail "hp")) | (with_reducible refine' upd_oth ?h1 ?n1; (case h1 => fail "hp"); (case n1 => fail "ne")) | fail "no hp")
local macro_rules | `(tactic| fail "bx") => `(tactic| first | assumption | (with_reducible refine' BoxOk.new ?h1 ?n1; (case n1 => assumption); (case h1 => fail "bx")) | (refine' BoxOk.same (by assumption) ?h1; (case h1 => fail "bx")) | (with_reducible refine' BoxOk.mut ?h1 ?h2 ?n1; (case n1 => assumption); (case h2 => assumption); (case h1 => fail "bx")) | fail "no bx")
local macro_rules | `(tactic| fail "kp") => `(tactic| first | assumption | exact Kp.refl | (with_reducible refine' Kp.at ?h1; (case h1 => fail "kp")) | (with_reducible refine' Kp.new ?h1 ?n1; (case n1 => assumption); (case h1 => fail "kp")) | (with_reducible refine' Kp.mut ?h1 ?n1; (case n1 => assumption); (case h1 => fail "kp")) | (refine' Kp.tr (by assumption) ?h1; (case h1 => fail "kp")) | (refine' Kp.tr (Kp.of (by assumption)) ?h1; (case h1 => fail "kp")) | fail "no kp")
local macro_rules | `(tactic| fail "ite") => `(tactic| first | refine iteT ?_ | refine iteF ?_)
local macro_rules | `(tactic| fail "tt") => `(tactic| first | rfl | exact decide_eq_true (by first | rfl | omega | assumption) | exact decide_eq_true (congrArg V.int (by first | rfl | omega)) | fail "no tt")
local macro_rules | `(tactic| fail "cv") => `(tactic| first | exact .ty _ | exact .own _)
local macro_rules | `(tactic| fail "tx") => `(tactic| first | exact .base (.int _) | exact .base (.bl _) | exact .base .non | exact .base (.lst (by fail "hp")) | exact .base (.tup (by fail "hp")) | fail "no tx")
local macro_rules | `(tactic| fail "dead") => `(tactic| (exfalso; first | omega | contradiction | simp_all))
local macro_rules | `(tactic| fail "dp") => `(tactic| first | exact .tup (SqT.of (by fail "hp")) (.cons (.int _) (.cons (.int _) .nil)) | exact .lst (SqL.of (by fail "hp")) (dpPrs (by fail "pr")) | exact .lst (SqL.of (by fail "hp")) (dpInts _) | exact .lst (SqL.of (by fail "hp")) .nil | fail "no dp")
local macro_rules | `(tactic| fail "shp") => `(tactic| first | assumption | exact prD_shaped _ | exact PySem.W.ke_shaped_ints _ | rfl | fail "no shp")
local macro_rules | `(tactic| fail "pr") => `(tactic| first | assumption | exact PrT.mono (by assumption) (by fail "tk") | fail "no pr")
local macro_rules | `(tactic| fail "tk") => `(tactic| first | assumption | exact Tk.refl | (with_reducible refine' Tk.new ?h1 ?n1; (case n1 => assumption); (case h1 => fail "tk")) | (refine' Tk.tr (Kp.tk (by assumption) (by fail "bx")) ?h1; (case h1 => fail "tk")) | (refine' Tk.tr (Same.tk (by assumption)) ?h1; (case h1 => fail "tk")) | (with_reducible refine' Tk.lst ?h1 ?n1; (case n1 => fail "hp"); (case h1 => fail "tk")) | fail "no tk")

theorem eqv_pair (x y : Int) : PyData.eqv (.tuple [.int x, .int y]) (.tuple [.int x, .int y]) = true := SeqAt.eqv_refl _ rfl
section
variable {P : Program} {w : World} {K : PySem.W.Frag} {mg : Str → Option Value} {base : Heap}

def spIsPair : Sp := fun vs H Q _ => ∃ (p q : Addr) (x y : Int), vs = [.ref p, .ref q] ∧ H p = some (.tup [.int x, .int y]) ∧ H q = some (.tup [.int x, .int y]) ∧ Q (.bl true) H
def spPairsAre : Sp := fun vs H Q _ => ∃ (a c : Addr) (as cs : List Addr) (ps : List (Int × Int)), vs = [.ref a, .ref c] ∧ H a = some (.lst (as.map V.ref)) ∧ H c = some (.lst (cs.map V.ref)) ∧
  PrT H as ps ∧ PrT H cs ps ∧ ps.length ≤ 1000 ∧ Q (.bl true) H
theorem len2 {as cs : List Addr} {H : Hp} {ps : List (Int × Int)} (pa : PrT H as ps) (pc : PrT H cs ps) : (((as.map V.ref).length : Nat) : Int) = (((cs.map V.ref).length : Nat) : Int) := by
  rw [List.length_map, List.length_map, pa.1, pc.1]
abbrev sIntsAre : Stmt := top 31
theorem scIntsAre : FnScope ["told", "due", "k"] ["told", "due"] (defScope sIntsAre) := ⟨rfl, rfl, rfl, by decide +kernel, rfl, by decide +kernel, by decide +kernel⟩
def spIntsAre : Sp := fun vs H Q _ => ∃ (a c : Addr) (ns : List Int), vs = [.ref a, .ref c] ∧ H a = some (.lst (ns.map V.int)) ∧ H c = some (.lst (ns.map V.int)) ∧ ns.length ≤ 1000 ∧ Q (.bl true) H
theorem ok_IntsAre (D : Df K mg "_law_ints_are" sIntsAre ["told", "due"]) (T : Txt K mg) (GIsInt : C8.Cal P w K mg base 1 "_law_is_int" spIsInt []) : C8.Cal P w K mg base 2 "_law_ints_are" spIntsAre [] := by
  obtain ⟨f, fd, F, hm, hb⟩ := D
  refine ⟨f, fd, ["told", "due"], [], F.ok scIntsAre (fun vs H Q E h => ?_) (fun cdv A outer s H vs Q E hr h => ?_), hm, F.kp, hb, .nil⟩
  · obtain ⟨a, c, ns, rfl, ha, hc, hl, k⟩ := h
    rfl
  · obtain ⟨a, c, ns, rfl, ha, hc, hl, k⟩ := h
    refine ⟨_, (pss_cons (ps_if (PW.pt (pw_or (pt_not (pt_val (pe_callB call_isi (by rfl) T.isinstance (by decide +kernel) (pa_cons (pv 0) (pa_cons (pe_bltn (v := .ty "list") (u := .type "list") (by rfl) T.list (by decide +kernel) rfl) pa_nil))))) (pw_or1 (pt_cmpR op_ne (pe_callB call_len_seq (by rfl) T.len (by decide +kernel) (pa_cons (pv 0) pa_nil)) (pe_callB call_len_seq (by rfl) T.len (by decide +kernel) (pa_cons (pv 1) pa_nil)) (nomark _)))))
        (pss_one (ps_ret pe_bl))
        pss_nil)
      (pss_cons (ps_for PassesOwn.never rfl (pi_range1 rfl T.range (pa_cons (pe_callB call_len_seq (by rfl) T.len (by decide +kernel) (pa_cons (pv 1) pa_nil)) pa_nil)) (pg_name (i := 2) scIntsAre.nd rfl (Or.inl rfl))
        (pss_one (ps_if (PW.pt (pw_or (pt_not (pt_val (C8.pe_c GIsInt hr (by decide) (by rfl) (pa_cons (pe_ix ix_list (pv 0) (pv 2) (fun _ _ => rfl)) pa_nil)))) (pw_or1 (pt_cmpR op_ne (pe_ix ix_list (pv 0) (pv 2) (fun _ _ => rfl)) (pe_ix ix_list (pv 1) (pv 2) (fun _ _ => rfl)) (nomark _)))))
          (pss_one (ps_ret pe_bl))
          pss_nil)))
      (pss_one (ps_ret pe_bl)))), ?_⟩
    -- if not isinstance(told, list) or len(told) != len(due):
    refine ⟨_, rfl, _, _, _, _, true, rfl, (by fail "cv"), (by fail "tx"), kit_ty (by decide +kernel), _, rfl, ?_⟩
    fail "ite"
    refine ⟨_, rfl, _, _, rfl, .inl (SqL.of (by fail "hp")), _, rfl, _, _, rfl, .inl (SqL.of (by fail "hp")), rfl, _, rfl, ?_⟩
    refine ifNeI (fun g1 => ?_) (fun g1 => ?_)
    · -- return False
      exact absurd rfl g1
    · -- for k in range(len(due)):
      refine ⟨_, rfl, _, _, rfl, .inl (SqL.of (by fail "hp")), _, rfl, (by fail "om"), (by fail "om"), for_range (lo := 0) (fun i σ H' => H' = H ∧ ∃ v, σ = [some (.ref a), some (.ref c), v]) ⟨rfl, none, rfl⟩ ?_ ?_⟩
      · rintro i σ H' hi ⟨rfl, v, rfl⟩
        have hi' : i < ns.length := by
          simp at hi
          omega
        have e1 := List.getElem?_eq_getElem hi'
        -- if not _law_is_int(told[k]) or told[k] != due[k]:
        refine ⟨_, rfl, _, rfl, _, _, _, _, rfl, rfl, SqL.of (by fail "hp"), (by fail "ix"), _, rfl, ⟨_, rfl, ?_⟩⟩
        fail "ite"
        refine ⟨_, rfl, _, rfl, _, _, _, _, rfl, rfl, SqL.of (by fail "hp"), (by fail "ix"), _, rfl, _, rfl, _, _, _, _, rfl, rfl, SqL.of (by fail "hp"), (by fail "ix"), rfl, _, rfl, ?_⟩
        refine ifNeI (fun g3 => ?_) (fun g3 => ?_)
        · -- return False
          contradiction
        · exact ⟨rfl, _, rfl⟩
      · rintro σ H' ⟨rfl, v, rfl⟩
        -- return True
        exact k
abbrev sBox : Stmt := top 25
theorem scBox : FnScope ["script", "cells"] ["script"] (defScope sBox) := ⟨rfl, rfl, rfl, by decide +kernel, rfl, by decide +kernel, by decide +kernel⟩
def spBox (K : PySem.W.Frag) : Sp := fun vs H Q _ => ∃ (a : Addr) (ns : List Int), vs = [.ref a] ∧ SqL K H a (ns.map V.int) ∧ ns.length ≤ 63 ∧
  ∀ (b bc : Addr) (H' : Hp), H b = none → Same H H' → BoxOk H' b bc → Q (.ref b) H'
theorem ok_Box (D : Df K mg "_law_box" sBox ["script"]) (T : Txt K mg) : C8.Cal P w K mg base 1 "_law_box" (spBox K) [] := by
  obtain ⟨f, fd, F, hm, hb⟩ := D
  refine ⟨f, fd, ["script"], [], F.ok scBox (fun vs H Q E h => ?_) (fun cdv A outer s H vs Q E hr h => ?_), hm, F.kp, hb, .nil⟩
  · obtain ⟨a, ns, rfl, ha, hl, k⟩ := h
    rfl
  · obtain ⟨a, ns, rfl, ha, hl, k⟩ := h
    refine ⟨_, (pss_cons (ps_set (i := 1) scBox.nd rfl (Or.inl rfl) (pe_callTy call_list_of (by rfl) T.list (by decide +kernel) (pa_cons (pe_slice sl_list (pv 0) po_none (po_some pe_int)) pa_nil)))
      (pss_cons (ps_if (pt_cmpR (op_eqD hr.units) (pv 1) (pe_lst pa_nil) (nomark _))
        (pss_one (ps_set (i := 1) scBox.nd rfl (Or.inl rfl) (pe_lst (pa_cons pe_int pa_nil))))
        pss_nil)
      (pss_one (ps_ret (pe_lst (pa_cons (pv 1) (pa_cons pe_int (pa_cons pe_int (pa_cons pe_int (pa_cons (pe_op op_modN (pe_callTy call_int1 (by rfl) T.int (by decide +kernel) (pa_cons (pe_callB (cr_sum rfl) (by rfl) T.sum (by decide +kernel) (pa_cons (pv 1) pa_nil)) pa_nil)) pe_int) pa_nil)))))))))), ?_⟩
    refine ⟨_, rfl, _, rfl, a, _, rfl, ha, fun p2 np2 => ⟨_, _, rfl, .inl (SqL.of upd_same), fun p1 np1 => ?_⟩⟩
    rw [cut_all (by omega)] at np1 ⊢
    have fin : ∀ (b c : Addr) (H1 : Hp) (ms : List Int) (v : Int), H1 c = some (.lst (ms.map V.int)) → Same H H1 → H1 b = none → Q (.ref b) (upd H1 b (.lst (boxL c 0 0 0 v))) := fun b c H1 ms v hc sm nb =>
      k b c _ (sm.free nb) (Same.new sm nb) ⟨ms, 0, 0, 0, v, upd_same, upd_new hc nb, Int.le_refl 0⟩
    have sm : Same H (upd (upd H p2 (.lst (ns.map V.int))) p1 (.lst (ns.map V.int))) := Same.new (Same.new (Same.refl H) np2) np1
    refine ⟨_, rfl, (by fail "sz"), fun p3 np3 => ⟨.list (ns.map PyData.int), .list [], .lst (SqL.of (upd_new upd_same np3)) (dpInts ns), .lst (SqL.of upd_same) .nil, PySem.W.ke_shaped_ints ns, rfl, _, rfl, ?_⟩⟩
    cases ns with
    | nil =>
      refine iteT ?_
      refine ⟨(by fail "sz"), fun p5 np5 => ?_⟩
      refine ⟨_, rfl, _, rfl, _, [0], rfl, SqL.of upd_same, .inl ⟨_, rfl, _, _, rfl, rfl, (by fail "nz"), (by fail "sz"), fun p6 np6 => ?_⟩⟩
      exact fin p6 p5 _ [0] _ upd_same (Same.new (Same.new sm np3) np5) np6
    | cons n r =>
      refine iteF ?_
      refine ⟨_, rfl, _, rfl, _, n :: r, rfl, SqL.of (upd_new upd_same np3), .inl ⟨_, rfl, _, _, rfl, rfl, (by fail "nz"), (by fail "sz"), fun p7 np7 => ?_⟩⟩
      exact fin p7 p1 _ (n :: r) _ (upd_new upd_same np3) (Same.new sm np3) np7
abbrev sStep : Stmt := top 26
theorem scStep : FnScope ["box", "cell"] ["box"] (defScope sStep) := ⟨rfl, rfl, rfl, by decide +kernel, rfl, by decide +kernel, by decide +kernel⟩
def spStep : Sp := fun vs H Q _ => ∃ (b bc : Addr), vs = [.ref b] ∧ BoxOk H b bc ∧ ∀ (H' : Hp), Kp b H H' → BoxOk H' b bc → Q .non H'
theorem ok_Step (D : Df K mg "_law_step" sStep ["box"]) (T : Txt K mg) : C8.Cal P w K mg base 1 "_law_step" spStep [] := by
  obtain ⟨f, fd, F, hm, hb⟩ := D
  refine ⟨f, fd, ["box"], [], F.ok scStep (fun vs H Q E h => ?_) (fun cdv A outer s H vs Q E hr h => ?_), hm, F.kp, hb, .nil⟩
  · obtain ⟨b, c, rfl, ⟨ns, x1, x2, x3, x4, hb, hc, h1⟩, k⟩ := h
    rfl
  · obtain ⟨b, c, rfl, ⟨ns, x1, x2, x3, x4, hb, hc, h1⟩, k⟩ := h
    refine ⟨_, (pss_one (ps_if (pt_cmpR op_lt (pe_ix ix_list (pv 0) pe_int (fun _ _ => rfl)) (pe_callB call_len_seq (by rfl) T.len (by decide +kernel) (pa_cons (pe_ix ix_list (pv 0) pe_int (fun _ _ => rfl)) pa_nil)) (nomark _))
        (pss_cons (ps_set (i := 1) scStep.nd rfl (Or.inl rfl) (pe_ix ix_list (pe_ix ix_list (pv 0) pe_int (fun _ _ => rfl)) (pe_ix ix_list (pv 0) pe_int (fun _ _ => rfl)) (fun _ _ => rfl)))
        (pss_cons (ps_asg (pe_op op_add (pe_ix ix_list (pv 0) pe_int (fun _ _ => rfl)) pe_int) (pg_sub (pv 0) pe_int set_list))
        (pss_cons (ps_asg pe_int (pg_sub (pv 0) pe_int set_list))
        (pss_one (ps_if (pt_cmpR op_ge (pv 1) (pe_op op_pow pe_int pe_int) (nomark _))
          (pss_one (ps_asg (pv 1) (pg_sub (pv 0) pe_int set_list)))
          (pss_one (ps_asg (pe_op op_modN (pe_callTy call_int1 (by rfl) T.int (by decide +kernel) (pa_cons (pe_op op_add (pe_op op_mul (pe_ix ix_list (pv 0) pe_int (fun _ _ => rfl)) pe_int) (pv 1)) pa_nil)) pe_int) (pg_sub (pv 0) pe_int set_list))))))))
        pss_nil)), ?_⟩
    -- if box[1] < len(box[0]):
    refine ⟨_, rfl, _, _, _, _, rfl, rfl, SqL.of (by fail "hp"), (by fail "ix"), _, rfl, _, _, _, _, rfl, rfl, SqL.of (by fail "hp"), (by fail "ix"), _, _, rfl, .inl (SqL.of (by fail "hp")), _, _, rfl, rfl, _, rfl, ?_⟩
    refine ifD (fun g1 => ?_) (fun g1 => ?_)
    · have hi : x1.toNat < ns.length := by
        have g : x1 < (((ns.map V.int).length : Nat) : Int) := g1
        rw [List.length_map] at g
        omega
      have e1 := List.getElem?_eq_getElem hi
      have ncb : c ≠ b := box_c hb hc
      -- cell = box[0][box[1]]
      refine ⟨_, rfl, _, _, _, _, rfl, rfl, SqL.of (by fail "hp"), (by fail "ix"), _, rfl, _, _, _, _, rfl, rfl, SqL.of (by fail "hp"), (by fail "ix"), _, _, _, _, rfl, rfl, SqL.of (by fail "hp"), (by fail "ix"), ?_⟩
      -- box[1] = box[1] + 1
      refine ⟨_, rfl, _, _, _, _, rfl, rfl, SqL.of (by fail "hp"), (by fail "ix"), _, _, rfl, rfl, _, rfl, _, _, _, _, rfl, rfl, (by fail "hp"), (by fail "ixn"), ?_⟩
      -- box[2] = 0
      refine ⟨_, rfl, _, _, _, _, rfl, rfl, (by fail "hp"), (by fail "ixn"), ?_⟩
      -- if cell >= 10 ** 18:
      refine ⟨_, rfl, _, _, rfl, rfl, ⟨by decide, by decide, by decide⟩, _, _, rfl, rfl, _, rfl, ?_⟩
      refine ifD (fun g2 => ?_) (fun g2 => ?_)
      · -- box[2] = cell
        refine ⟨_, rfl, _, rfl, _, _, _, _, rfl, rfl, (by fail "hp"), (by fail "ixn"), ?_⟩
        refine k _ (by fail "kp") ?_
        refine ⟨ns, _, _, _, _, upd_same, ?_, ?_⟩
        · rw [upd_ne ncb, upd_ne ncb, upd_ne ncb]
          exact hc
        · omega
      · -- box[4] = int(box[4] * 31 + cell) % 2147483647
        refine ⟨_, rfl, _, _, _, _, rfl, rfl, SqL.of (by fail "hp"), (by fail "ix"), _, _, rfl, rfl, (by fail "mul"), _, rfl, _, _, rfl, rfl, .inl ⟨_, rfl, _, _, rfl, rfl, (by fail "nz"), _, rfl, _, _, _, _, rfl, rfl, (by fail "hp"), (by fail "ixn"), ?_⟩⟩
        refine k _ (by fail "kp") ?_
        refine ⟨ns, _, _, _, _, upd_same, ?_, ?_⟩
        · rw [upd_ne ncb, upd_ne ncb, upd_ne ncb]
          exact hc
        · omega
    · exact k _ Kp.refl ⟨ns, x1, x2, x3, x4, hb, hc, h1⟩
end
end K02

end
section
set_option Elab.async false
set_option linter.all false
set_option maxRecDepth 100000
set_option maxHeartbeats 4000000
namespace K02
open PySem L2 Kit KR
local macro_rules | `(tactic| fail "om") => `(tactic| first | omega | decide | assumption | (simp only [List.length_map, List.length_append, List.length_cons, List.length_nil]; omega) | fail "no om")
local macro_rules | `(tactic| fail "nz") => `(tactic| first | decide | omega | fail "no nz")
local macro_rules | `(tactic| fail "dv") => `(tactic| exact ⟨by first | decide | omega, by first | decide | omega⟩)
local macro_rules | `(tactic| fail "mul") => `(tactic| first | exact .inr ⟨by decide, by decide⟩ | exact .inl ⟨by decide, by decide⟩ | exact mulF (by decide) (by decide) | exact .inl ⟨by omega, by omega⟩ | exact .inr ⟨by omega, by omega⟩ | fail "no mul")
local macro_rules | `(tactic| fail "sz") => `(tactic| first | assumption | exact Nat.zero_le _ | (show 1 ≤ sizeLine; decide) | (show 2 ≤ sizeLine; decide) | (show 3 ≤ sizeLine; decide) | (show 4 ≤ sizeLine; decide) | (show 5 ≤ sizeLine; decide) | exact Evl.sz_of (by omega) | (refine Evl.sz_of ?_; simp only [List.length_append, List.length_map, List.length_cons, List.length_nil]; omega) | fail "no sz")
local macro_rules | `(tactic| fail "szl") => `(tactic| first | exact Evl.sz_lt (by omega) | (refine Evl.sz_lt ?_; simp only [List.length_append, List.length_map, List.length_cons, List.length_nil]; omega) | fail "no szl")
local macro_rules | `(tactic| fail "ix") => `(tactic| first | assumption | exact ix0 | exact ix1 | exact ix2 | exact at_ref (by assumption) (by omega) | exact at_int (by assumption) (by omega) | exact at_drawn (by assumption) (by assumption) | rfl | fail "no ix")
local macro_rules | `(tactic| fail "ixn") => `(tactic| first | rfl | assumption | fail "no ixn")
local macro_rules | `(tactic| fail "nb") => `(tactic| first | assumption | exact nb_tup | exact nb_nil | exact nb_ints | exact nb_refs | exact nb_ins | exact nb_dT | exact nb_frz | fail "no nb")
local macro_rules | `(tactic| fail "ne") => `(tactic| first | assumption | exact Ne.symm (by assumption) | exact ne_of_none (by assumption) (by assumption) | exact (ne_of_none (by assumption) (by assumption)).symm | exact ne_of (by assumption) (by assumption) (by intro q; cases q) | exact ne_of (by assumption) (by assumption) (by simp) | fail "no ne")
local macro_rules | `(tactic| fail "hp") => `(tactic| first | assumption | exact upd_same | (refine' Tk.get (by assumption) ?k1; (case k1 => fail "tk")) | (with_reducible refine' upd_new ?h1 ?n1; (case n1 => assumption); (case h1 => fail "hp")) | (refine' Same.get (by assumption) ?h1; (case h1 => fail "hp")) | (refine' Kp.get (by assumption) (by fail "bx") ?h1 ?d1; (case h1 => fail "hp"); (case d1 => fail "nb")) | (with_reducible refine' upd_oth ?h1 ?n1; (case n1 => fail "ne"); (case h1 => fail "hp")) | (with_reducible refine' upd_oth ?h1 ?n1; (case h1 => fail "hp"); (case n1 => fail "ne")) | fail "no hp")
local macro_rules | `(tactic| fail "bx") => `(tactic| first | assumption | (with_reducible refine' BoxOk.new ?h1 ?n1; (case n1 => assumption); (case h1 => fail "bx")) | (refine' BoxOk.same (by assumption) ?h1; (case h1 => fail "bx")) | (with_reducible refine' BoxOk.mut ?h1 ?h2 ?n1; (case n1 => assumption); (case h2 => assumption); (case h1 => fail "bx")) | fail "no bx")
local macro_rules | `(tactic| fail "kp") => `(tactic| first | assumption | exact Kp.refl | (with_reducible refine' Kp.at ?h1; (case h1 => fail "kp")) | (with_reducible refine' Kp.new ?h1 ?n1; (case n1 => assumption); (case h1 => fail "kp")) | (with_reducible refine' Kp.mut ?h1 ?n1; (case n1 => assumption); (case h1 => fail "kp")) | (refine' Kp.tr (by assumption) ?h1; (case h1 => fail "kp")) | (refine' Kp.tr (Kp.of (by assumption)) ?h1; (case h1 => fail "kp")) | fail "no kp")
local macro_rules | `(tactic| fail "ite") => `(tactic| first | refine iteT ?_ | refine iteF ?_)
local macro_rules | `(tactic| fail "tt") => `(tactic| first | rfl | exact decide_eq_true (by first | rfl | omega | assumption) | exact decide_eq_true (congrArg V.int (by first | rfl | omega)) | fail "no tt")
local macro_rules | `(tactic| fail "cv") => `(tactic| first | exact .ty _ | exact .own _)
local macro_rules | `(tactic| fail "tx") => `(tactic| first | exact .base (.int _) | exact .base (.bl _) | exact .base .non | exact .base (.lst (by fail "hp")) | exact .base (.tup (by fail "hp")) | fail "no tx")
local macro_rules | `(tactic| fail "dead") => `(tactic| (exfalso; first | omega | contradiction | simp_all))
local macro_rules | `(tactic| fail "dp") => `(tactic| first | exact .tup (SqT.of (by fail "hp")) (.cons (.int _) (.cons (.int _) .nil)) | exact .lst (SqL.of (by fail "hp")) (dpPrs (by fail "pr")) | exact .lst (SqL.of (by fail "hp")) (dpInts _) | exact .lst (SqL.of (by fail "hp")) .nil | fail "no dp")
local macro_rules | `(tactic| fail "shp") => `(tactic| first | assumption | exact prD_shaped _ | exact PySem.W.ke_shaped_ints _ | rfl | fail "no shp")
local macro_rules | `(tactic| fail "pr") => `(tactic| first | assumption | exact PrT.mono (by assumption) (by fail "tk") | fail "no pr")
local macro_rules | `(tactic| fail "tk") => `(tactic| first | assumption | exact Tk.refl | (with_reducible refine' Tk.new ?h1 ?n1; (case n1 => assumption); (case h1 => fail "tk")) | (refine' Tk.tr (Kp.tk (by assumption) (by fail "bx")) ?h1; (case h1 => fail "tk")) | (refine' Tk.tr (Same.tk (by assumption)) ?h1; (case h1 => fail "tk")) | (with_reducible refine' Tk.lst ?h1 ?n1; (case n1 => fail "hp"); (case h1 => fail "tk")) | fail "no tk")

section
variable {P : Program} {w : World} {K : PySem.W.Frag} {mg : Str → Option Value} {base : Heap}

def spFirstBad : Sp := fun vs H Q _ => ∃ (n : Nat) (l : Addr) (as : List Addr) (ps : List (Int × Int)), vs = [.int (n : Int), .ref l] ∧ H l = some (.lst (as.map V.ref)) ∧ PrT H as ps ∧
  ((∀ p ∈ ps, Good n p) → Q .non H) ∧ (∀ (i : Nat) (a : Addr) (p : Int × Int), as[i]? = some a → ps[i]? = some p → ¬ Good n p → (∀ j q, j < i → ps[j]? = some q → Good n q) → Q (.ref a) H)
def spTable : Sp := fun vs H Q _ => ∃ (n : Nat) (l : Addr) (as : List Addr) (ps : List (Int × Int)) (both : Bool), vs = [.int (n : Int), .ref l, .bl both] ∧ H l = some (.lst (as.map V.ref)) ∧ PrT H as ps ∧ n ≤ 24 ∧ (∀ p ∈ ps, Good n p) ∧
  ∀ (t : Addr) (T : List Int) (H' : Hp), H t = none → Same H H' → H' t = some (.lst (T.map V.int)) → IsTab n T (relP ps both) → Q (.ref t) H'
theorem toN {n : Nat} {x : Int} (h0 : 0 ≤ x) (h1 : x < n) : ∃ k : Nat, x = (k : Int) ∧ k < n := ⟨x.toNat, by omega, by omega⟩
theorem take_more' {α : Type} {l : List α} {i : Nat} {x : α} (h : l[i]? = some x) : l.take (i + 1) = l.take i ++ [x] := by
  rw [List.take_succ, h]
  rfl
theorem ixN_tab {n x y : Nat} {T : List Int} (hT : T.length = n * n) (hx : x < n) (hy : y < n) : ixN (T.map V.int).length ((x : Int) * (n : Int) + (y : Int)) = some (x * n + y) := by
  have h := ix_lt hx hy
  have e : (x : Int) * (n : Int) + (y : Int) = ((x * n + y : Nat) : Int) := by push_cast; rfl
  rw [e, List.length_map, hT]
  unfold ixN
  rw [if_pos (by omega), if_pos (by omega)]
  rfl
theorem nn_b {n : Nat} (hn : n ≤ 24) : (-(2 ^ 63) : Int) ≤ (n : Int) * (n : Int) ∧ (n : Int) * (n : Int) < 2 ^ 63 ∧ [V.int 0].length * ((n : Int) * (n : Int)).toNat ≤ sizeLine ∧ ((n : Int) * (n : Int)).toNat = n * n := by
  have h : n * n ≤ 24 * 24 := Nat.mul_le_mul hn hn
  have e : (n : Int) * (n : Int) = ((n * n : Nat) : Int) := by push_cast; rfl
  rw [e]
  refine ⟨by omega, by omega, ?_, by rw [Int.toNat_natCast]⟩
  rw [Int.toNat_natCast]
  refine Evl.sz_of ?_
  show 1 * (n * n) ≤ 100000
  omega
theorem set_ints {T : List Int} {i : Nat} {v : Int} : (T.map V.int).set i (V.int v) = (T.set i v).map V.int := by rw [List.map_set]
def spTies : Sp := fun vs H Q _ => ∃ (n : Nat) (t : Addr) (T : List Int) (R : Rel), vs = [.int (n : Int), .ref t] ∧ H t = some (.lst (T.map V.int)) ∧ IsTab n T R ∧ n ≤ 24 ∧
  ∀ (l : Addr) (as : List Addr) (H' : Hp), H l = none → Same H H' → H' l = some (.lst (as.map V.ref)) → PrT H' as (ties n R) → Q (.ref l) H'
def spBadPair : Sp := fun vs H Q _ => ∃ (b bc : Addr) (n : Nat), vs = [.ref b, .int (n : Int)] ∧ BoxOk H b bc ∧ 1 ≤ n ∧ n ≤ 24 ∧
  ∀ (x y : Int) (t : Addr) (H' : Hp), ¬ Good n (x, y) → Kp b H H' → BoxOk H' b bc → H t = none → t ≠ b → H' t = some (.tup [.int x, .int y]) → Q (.ref t) H'
theorem fresh_box {b bc p : Addr} {H H1 : Hp} (kp : Kp b H H1) (bx : BoxOk H1 b bc) (np : H1 p = none) : H p = none ∧ p ≠ b := by
  refine ⟨Kp.free kp bx np, fun z => ?_⟩
  obtain ⟨u, hu⟩ := bx.there
  rw [z, hu] at np
  cases np
end
end K02

end
section
set_option Elab.async false
set_option linter.all false
set_option maxRecDepth 100000
set_option maxHeartbeats 4000000
namespace K02
open PySem L2 Kit KR
local macro_rules | `(tactic| fail "om") => `(tactic| first | omega | decide | assumption | (simp only [List.length_map, List.length_append, List.length_cons, List.length_nil]; omega) | fail "no om")
local macro_rules | `(tactic| fail "nz") => `(tactic| first | decide | omega | fail "no nz")
local macro_rules | `(tactic| fail "dv") => `(tactic| exact ⟨by first | decide | omega, by first | decide | omega⟩)
local macro_rules | `(tactic| fail "mul") => `(tactic| first | exact .inr ⟨by decide, by decide⟩ | exact .inl ⟨by decide, by decide⟩ | exact mulF (by decide) (by decide) | exact .inl ⟨by omega, by omega⟩ | exact .inr ⟨by omega, by omega⟩ | fail "no mul")
local macro_rules | `(tactic| fail "sz") => `(tactic| first | assumption | exact Nat.zero_le _ | (show 1 ≤ sizeLine; decide) | (show 2 ≤ sizeLine; decide) | (show 3 ≤ sizeLine; decide) | (show 4 ≤ sizeLine; decide) | (show 5 ≤ sizeLine; decide) | exact Evl.sz_of (by omega) | (refine Evl.sz_of ?_; simp only [List.length_append, List.length_map, List.length_cons, List.length_nil]; omega) | fail "no sz")
local macro_rules | `(tactic| fail "szl") => `(tactic| first | exact Evl.sz_lt (by omega) | (refine Evl.sz_lt ?_; simp only [List.length_append, List.length_map, List.length_cons, List.length_nil]; omega) | fail "no szl")
local macro_rules | `(tactic| fail "ix") => `(tactic| first | assumption | exact ix0 | exact ix1 | exact ix2 | exact at_ref (by assumption) (by omega) | exact at_int (by assumption) (by omega) | exact at_drawn (by assumption) (by assumption) | rfl | fail "no ix")
local macro_rules | `(tactic| fail "ixn") => `(tactic| first | rfl | assumption | fail "no ixn")
local macro_rules | `(tactic| fail "nb") => `(tactic| first | assumption | exact nb_tup | exact nb_nil | exact nb_ints | exact nb_refs | exact nb_ins | exact nb_dT | exact nb_frz | fail "no nb")
local macro_rules | `(tactic| fail "ne") => `(tactic| first | assumption | exact Ne.symm (by assumption) | exact ne_of_none (by assumption) (by assumption) | exact (ne_of_none (by assumption) (by assumption)).symm | exact ne_of (by assumption) (by assumption) (by intro q; cases q) | exact ne_of (by assumption) (by assumption) (by simp) | fail "no ne")
local macro_rules | `(tactic| fail "hp") => `(tactic| first | assumption | exact upd_same | (refine' Tk.get (by assumption) ?k1; (case k1 => fail "tk")) | (with_reducible refine' upd_new ?h1 ?n1; (case n1 => assumption); (case h1 => fail "hp")) | (refine' Same.get (by assumption) ?h1; (case h1 => fail "hp")) | (refine' Kp.get (by assumption) (by fail "bx") ?h1 ?d1; (case h1 => fail "hp"); (case d1 => fail "nb")) | (with_reducible refine' upd_oth ?h1 ?n1; (case n1 => fail "ne"); (case h1 => fail "hp")) | (with_reducible refine' upd_oth ?h1 ?n1; (case h1 => fail "hp"); (case n1 => fail "ne")) | fail "no hp")
local macro_rules | `(tactic| fail "bx") => `(tactic| first | assumption | (with_reducible refine' BoxOk.new ?h1 ?n1; (case n1 => assumption); (case h1 => fail "bx")) | (refine' BoxOk.same (by assumption) ?h1; (case h1 => fail "bx")) | (with_reducible refine' BoxOk.mut ?h1 ?h2 ?n1; (case n1 => assumption); (case h2 => assumption); (case h1 => fail "bx")) | fail "no bx")
local macro_rules | `(tactic| fail "kp") => `(tactic| first | assumption | exact Kp.refl | (with_reducible refine' Kp.at ?h1; (case h1 => fail "kp")) | (with_reducible refine' Kp.new ?h1 ?n1; (case n1 => assumption); (case h1 => fail "kp")) | (with_reducible refine' Kp.mut ?h1 ?n1; (case n1 => assumption); (case h1 => fail "kp")) | (refine' Kp.tr (by assumption) ?h1; (case h1 => fail "kp")) | (refine' Kp.tr (Kp.of (by assumption)) ?h1; (case h1 => fail "kp")) | fail "no kp")
local macro_rules | `(tactic| fail "ite") => `(tactic| first | refine iteT ?_ | refine iteF ?_)
local macro_rules | `(tactic| fail "tt") => `(tactic| first | rfl | exact decide_eq_true (by first | rfl | omega | assumption) | exact decide_eq_true (congrArg V.int (by first | rfl | omega)) | fail "no tt")
local macro_rules | `(tactic| fail "cv") => `(tactic| first | exact .ty _ | exact .own _)
local macro_rules | `(tactic| fail "tx") => `(tactic| first | exact .base (.int _) | exact .base (.bl _) | exact .base .non | exact .base (.lst (by fail "hp")) | exact .base (.tup (by fail "hp")) | fail "no tx")
local macro_rules | `(tactic| fail "dead") => `(tactic| (exfalso; first | omega | contradiction | simp_all))
local macro_rules | `(tactic| fail "dp") => `(tactic| first | exact .tup (SqT.of (by fail "hp")) (.cons (.int _) (.cons (.int _) .nil)) | exact .lst (SqL.of (by fail "hp")) (dpPrs (by fail "pr")) | exact .lst (SqL.of (by fail "hp")) (dpInts _) | exact .lst (SqL.of (by fail "hp")) .nil | fail "no dp")
local macro_rules | `(tactic| fail "shp") => `(tactic| first | assumption | exact prD_shaped _ | exact PySem.W.ke_shaped_ints _ | rfl | fail "no shp")
local macro_rules | `(tactic| fail "pr") => `(tactic| first | assumption | exact PrT.mono (by assumption) (by fail "tk") | fail "no pr")
local macro_rules | `(tactic| fail "tk") => `(tactic| first | assumption | exact Tk.refl | (with_reducible refine' Tk.new ?h1 ?n1; (case n1 => assumption); (case h1 => fail "tk")) | (refine' Tk.tr (Kp.tk (by assumption) (by fail "bx")) ?h1; (case h1 => fail "tk")) | (refine' Tk.tr (Same.tk (by assumption)) ?h1; (case h1 => fail "tk")) | (with_reducible refine' Tk.lst ?h1 ?n1; (case n1 => fail "hp"); (case h1 => fail "tk")) | fail "no tk")

section
variable {P : Program} {w : World} {K : PySem.W.Frag} {mg : Str → Option Value} {base : Heap}

def spGoodPairs : Sp := fun vs H Q _ => ∃ (b bc : Addr) (n : Nat), vs = [.ref b, .int (n : Int)] ∧ BoxOk H b bc ∧ 1 ≤ n ∧ n ≤ 24 ∧
  ∀ (l : Addr) (as : List Addr) (ps : List (Int × Int)) (H' : Hp), (∀ p ∈ ps, Good n p) → ps.length ≤ 60 → H l = none → l ≠ b → Kp b H H' → BoxOk H' b bc → H' l = some (.lst (as.map V.ref)) → PrT H' as ps → Q (.ref l) H'
end
end K02

end
section
set_option Elab.async false
set_option linter.all false
set_option maxRecDepth 100000
set_option maxHeartbeats 800000
namespace K02
open PySem L2 Kit KR
local macro_rules | `(tactic| fail "om") => `(tactic| first | omega | (simp only [List.length_map, List.length_append, List.length_cons, List.length_nil]; omega) | (simp only [List.length_map, List.length_append, List.length_cons, List.length_nil] at *; omega) | assumption | decide | fail "no om")
local macro_rules | `(tactic| fail "nz") => `(tactic| first | decide | omega | fail "no nz")
local macro_rules | `(tactic| fail "dv") => `(tactic| exact ⟨by first | decide | omega, by first | decide | omega⟩)
local macro_rules | `(tactic| fail "mul") => `(tactic| first | exact .inr ⟨by decide, by decide⟩ | exact .inl ⟨by decide, by decide⟩ | exact mulF (by decide) (by decide) | exact .inl ⟨by omega, by omega⟩ | exact .inr ⟨by omega, by omega⟩ | fail "no mul")
local macro_rules | `(tactic| fail "sz") => `(tactic| first | assumption | exact Nat.zero_le _ | (show 1 ≤ sizeLine; decide) | (show 2 ≤ sizeLine; decide) | (show 3 ≤ sizeLine; decide) | (show 4 ≤ sizeLine; decide) | (show 5 ≤ sizeLine; decide) | exact Evl.sz_of (by omega) | (refine Evl.sz_of ?_; simp only [List.length_append, List.length_map, List.length_cons, List.length_nil]; omega) | fail "no sz")
local macro_rules | `(tactic| fail "szl") => `(tactic| first | exact Evl.sz_lt (by omega) | (refine Evl.sz_lt ?_; simp only [List.length_append, List.length_map, List.length_cons, List.length_nil]; omega) | fail "no szl")
local macro_rules | `(tactic| fail "ix") => `(tactic| first | assumption | exact ix0 | exact ix1 | exact ix2 | exact at_ref (by assumption) (by omega) | exact at_int (by assumption) (by omega) | exact at_drawn (by assumption) (by assumption) | rfl | fail "no ix")
local macro_rules | `(tactic| fail "ixn") => `(tactic| first | rfl | assumption | fail "no ixn")
local macro_rules | `(tactic| fail "nb") => `(tactic| first | assumption | exact nb_tup | exact nb_nil | exact nb_ints | exact nb_refs | exact nb_ins | exact nb_dT | exact nb_frz | fail "no nb")
local macro_rules | `(tactic| fail "ne") => `(tactic| first | assumption | exact Ne.symm (by assumption) | exact ne_of_none (by assumption) (by assumption) | exact (ne_of_none (by assumption) (by assumption)).symm | exact ne_of (by assumption) (by assumption) (by intro q; cases q) | exact ne_of (by assumption) (by assumption) (by simp) | fail "no ne")
local macro_rules | `(tactic| fail "hp") => `(tactic| first | assumption | exact upd_same | (refine' Tk.get (by assumption) ?k1; (case k1 => fail "tk")) | (with_reducible refine' upd_new ?h1 ?n1; (case n1 => assumption); (case h1 => fail "hp")) | (refine' Same.get (by assumption) ?h1; (case h1 => fail "hp")) | (refine' Kp.get (by assumption) (by fail "bx") ?h1 ?d1; (case h1 => fail "hp"); (case d1 => fail "nb")) | (with_reducible refine' upd_oth ?h1 ?n1; (case n1 => fail "ne"); (case h1 => fail "hp")) | (with_reducible refine' upd_oth ?h1 ?n1; (case h1 => fail "hp"); (case n1 => fail "ne")) | fail "no hp")
local macro_rules | `(tactic| fail "bx") => `(tactic| first | assumption | (with_reducible refine' BoxOk.new ?h1 ?n1; (case n1 => assumption); (case h1 => fail "bx")) | (refine' BoxOk.same (by assumption) ?h1; (case h1 => fail "bx")) | (with_reducible refine' BoxOk.mut ?h1 ?h2 ?n1; (case n1 => assumption); (case h2 => assumption); (case h1 => fail "bx")) | fail "no bx")
local macro_rules | `(tactic| fail "kp") => `(tactic| first | assumption | exact Kp.refl | (with_reducible refine' Kp.at ?h1; (case h1 => fail "kp")) | (with_reducible refine' Kp.new ?h1 ?n1; (case n1 => assumption); (case h1 => fail "kp")) | (with_reducible refine' Kp.mut ?h1 ?n1; (case n1 => assumption); (case h1 => fail "kp")) | (refine' Kp.tr (by assumption) ?h1; (case h1 => fail "kp")) | (refine' Kp.tr (Kp.of (by assumption)) ?h1; (case h1 => fail "kp")) | fail "no kp")
local macro_rules | `(tactic| fail "ite") => `(tactic| first | refine iteT ?_ | refine iteF ?_)
local macro_rules | `(tactic| fail "tt") => `(tactic| first | rfl | exact decide_eq_true (by first | rfl | omega | assumption) | exact decide_eq_true (congrArg V.int (by first | rfl | omega)) | fail "no tt")
local macro_rules | `(tactic| fail "cv") => `(tactic| first | exact .ty _ | exact .own _)
local macro_rules | `(tactic| fail "tx") => `(tactic| first | exact .base (.int _) | exact .base (.bl _) | exact .base .non | exact .base (.lst (by fail "hp")) | exact .base (.tup (by fail "hp")) | fail "no tx")
local macro_rules | `(tactic| fail "dead") => `(tactic| (exfalso; first | omega | contradiction | simp_all))
local macro_rules | `(tactic| fail "dp") => `(tactic| first | exact .tup (SqT.of (by fail "hp")) (.cons (.int _) (.cons (.int _) .nil)) | exact .lst (SqL.of (by fail "hp")) (dpPrs (by fail "pr")) | exact .lst (SqL.of (by fail "hp")) (dpInts _) | exact .lst (SqL.of (by fail "hp")) .nil | fail "no dp")
local macro_rules | `(tactic| fail "shp") => `(tactic| first | assumption | exact prD_shaped _ | exact PySem.W.ke_shaped_ints _ | rfl | fail "no shp")
local macro_rules | `(tactic| fail "pr") => `(tactic| first | assumption | exact PrT.mono (by assumption) (by fail "tk") | fail "no pr")
local macro_rules | `(tactic| fail "tk") => `(tactic| first | assumption | exact Tk.refl | (with_reducible refine' Tk.new ?h1 ?n1; (case n1 => assumption); (case h1 => fail "tk")) | (refine' Tk.tr (Kp.tk (by assumption) (by fail "bx")) ?h1; (case h1 => fail "tk")) | (refine' Tk.tr (Same.tk (by assumption)) ?h1; (case h1 => fail "tk")) | (with_reducible refine' Tk.lst ?h1 ?n1; (case n1 => fail "hp"); (case h1 => fail "tk")) | fail "no tk")

section
variable {P : Program} {w : World} {K : PySem.W.Frag} {mg : Str → Option Value} {base : Heap}

def spSpoilt : Sp := fun vs H Q _ => ∃ (b bc : Addr) (n : Nat) (l : Addr) (as : List Addr) (ps : List (Int × Int)), vs = [.ref b, .int (n : Int), .ref l] ∧ BoxOk H b bc ∧ H l = some (.lst (as.map V.ref)) ∧ PrT H as ps ∧ 1 ≤ n ∧ n ≤ 24 ∧ ps.length ≤ 60 ∧
  ∀ (l' : Addr) (as' : List Addr) (ps' : List (Int × Int)) (H' : Hp), (∃ p ∈ ps', ¬ Good n p) → ps'.length ≤ 62 → H l' = none → l' ≠ b → Kp b H H' → BoxOk H' b bc → H' l' = some (.lst (as'.map V.ref)) → PrT H' as' ps' → Q (.ref l') H'
def spWrongCount : Sp := fun vs H Q _ => ∃ (b bc : Addr) (way : Int), vs = [.ref b, .int way] ∧ BoxOk H b bc ∧
  ∀ (d : Int) (H' : Hp), (d < 1 ∨ 24 < d) → Kp b H H' → BoxOk H' b bc → Q (.int d) H'
def spDeedPair : Sp := fun vs H Q _ => ∃ (b bc : Addr) (n : Nat) (t : Addr) (M : List Int) (R : Rel), vs = [.ref b, .int (n : Int), .ref t] ∧ BoxOk H b bc ∧ H t = some (.lst (M.map V.int)) ∧ IsTab n M R ∧ 1 ≤ n ∧ n ≤ 24 ∧
  ∀ (x y : Int) (p : Addr) (H' : Hp), Kp b H H' → BoxOk H' b bc → H' p = some (.tup [.int x, .int y]) → Q (.ref p) H'
end
end K02

end
section
set_option Elab.async false
set_option linter.all false
set_option maxRecDepth 100000
set_option maxHeartbeats 1000000
namespace KX
open PySem PySem.Spec PyProof.Rows L2
/-- what isinstance wants of the class of a caught error -/
structure IsX (K : PySem.W.Frag) (D : Addr) : Prop where
  cl : (PySem.W.clsIn K D).isSome = true
  ga : PySem.W.findIn K (.ref D) "__getattribute__" = some (some (.builtin "BaseException.__getattribute__"))
  gg : PySem.W.findIn K (.ref D) "__getattr__" = some none
  ex : PySem.W.subIn K (.ref D) (.type "BaseException") = some true
  cc : PySem.W.findIn K (.ref D) "__class__" = some (some (.builtin "object.__class__"))
  cg : PySem.W.specialIn K (.builtin "object.__class__") "__get__" = some (some (.builtin "getset_descriptor.__get__"))
  tk : PySem.W.takesIn K (.builtin "object.__class__") = some true
  mo : PySem.W.mroIn K D (.type "object") = some true
  hd : PySem.W.hasDictIn K D = true
theorem IsX.xf {K : PySem.W.Frag} {D : Addr} (x : IsX K D) : XfC K D := ⟨x.ga, x.gg, x.ex, x.hd⟩
/-- isinstance(e, C): e the error in the suite, of the class at D, its fields at dd -/
def rIsX (K : PySem.W.Frag) (cls : Value) (d : Option Addr) (a : Addr) : List V → Hp → VK → Prop := fun xs H Q => ∃ (D : Addr) (c : V) (cv : Value) (b : Bool) (dd : Addr) (fs : List (Str × V)),
  cls = .ref D ∧ IsX K D ∧ xs = [.ref a, c] ∧ (∀ u, RelV c u → u = cv) ∧ d = some dd ∧ H dd = some (.xd fs) ∧ PySem.W.kitOne K (.ref D) cv = some b ∧ Q (.bl b) H
theorem call_isX {X : Cx} {a : Addr} {cls : Value} {d : Option Addr} {oe : Obj} {pn : List (Addr × Obj)} (hz : Zc cls d oe) (hf : ∃ vs, oe.data = .fields vs) :
    CallR (X.suite a ((a, oe) :: pn)) (.builtin "isinstance") (rIsX X.K cls d a) := by
  intro pins s σ H xs us Q I r h
  obtain ⟨D, c, cv, b, dd, fs, rfl, T, rfl, hcv, rfl, hdd, e, q⟩ := h
  obtain ⟨u1, u2, rfl, r1, r2⟩ := vals2 r
  obtain rfl : u1 = Value.ref a := r1
  obtain rfl := hcv _ r2
  have pin := (I.pin (a, oe) (List.mem_append.mpr (.inl List.mem_cons_self))).1
  have hx : ObjOk X.prog X.w H s.heap dd (.xd fs) := I.hok dd _ hdd
  obtain ⟨mA, ⟨od, es, ep, ho, _⟩, _⟩ := hx
  obtain ⟨vs, hv⟩ := hf
  obtain ⟨z1, z2⟩ := hz
  have J : PySem.W.InstAt s.heap a oe D (some od) := by
    refine ⟨pin, z1, ?_, ?_⟩
    · unfold PySem.W.notCls
      rw [hv] <;> rfl
    · rw [z2]
      exact ho
  have Z := PySem.W.kitx_exc (K := X.K) (x := a) (C := D) (ox := oe) (od := some od) T.cl T.ga T.gg T.ex T.cc T.cg T.tk T.mo
  exact PySem.W.kia_one Z I.kIn J e (fun z => by cases z) fun tk => ⟨.bl b, H, I.tok tk, rfl, q⟩
/-- a weaker making -/
theorem PMk.imp {X : Cx} {e : Expr} {t t' : L2.St → Hp → XK → Prop} (h : L2N.PMk X e t) (k : ∀ σ H Q, t' σ H Q → t σ H Q) : L2N.PMk X e t' := fun pins s σ H Q I q => h pins s σ H Q I (k σ H Q q)
section
variable {X : Cx} {x : Str} {C : Addr} {e : Expr} {es : List Expr} {ta : TA} {p pos : Pos}
/-- an own error is made by its __init__; its context is None -/
theorem pmk_oexN {fI : Addr} {k : Nat} {fd : FuncData} {ps : List Str} {sp : Sp} (T : OexC X.K C) (iC : PySem.W.findIn X.K (.ref C) "__init__" = some (some (.ref fI))) (tI : PySem.W.typeIn X.K (.ref fI) = some (.type "function"))
    (F1 : FnOk X.prog X.w X.K X.mg X.base CX0 k fI fd ps sp) (room : Room (k + 1) X.A) (b : Binds X.K fd ps []) (hg : Gl X x) (hm : X.mg x = some (.ref C)) (ha : PA X (e :: es) ta)
    (hdb : (x == ("__debug__" : Str)) = false := by decide) (he : starEach (e :: es) X.env = (false, eval e X.env) :: starEach es X.env := by rfl) (hpl : (backTo pos (starEach es X.env)).any (·.1) = false := by rfl) :
    L2N.PMk X (.Call (.Name x p) (e :: es) [] pos) (tMkO C sp [] ta) := by
  intro pins s σ H Q I h
  obtain ⟨nm, qn, N, bs, bm, sn, sub, ab, col, dd, k0, k1, k2, k3, k5, hC, hbm⟩ := T.cls
  refine wpAny_Call_Name_kw (ld_glob I hg hm ?_ hdb)
  refine PySem.W.callWith_K (h₀ := X.base) I.ok.mod.kin T.kC (thn (ha.run pos pins s σ H _ I h) fun us s1 z => ?_) he hpl
  obtain ⟨vs, H1, I1, r1, few, q1⟩ := z
  refine ⟨I1.kIn, ?_⟩
  show wpAny _ _ (call (.ref C) us) _ _ _
  obtain ⟨g0, gg, gd, gt, go⟩ := s1
  obtain ⟨a, ea⟩ : ∃ a : Addr, a = g0.objs.size + 1 := ⟨_, rfl⟩
  have sz : g0.objs.size ≤ a := by rw [ea]; exact Nat.le_succ _
  have q2 := q1 a (I1.hok.fresh sz)
  obtain ⟨g1, eg⟩ : ∃ g1, g1 = (g0.push (PySem.W.kdv_tup us)).push (PySem.HandSPX.excO C g0.objs.size) := ⟨_, rfl⟩
  have kk : ∀ b o, g0.get? b = some o → g1.get? b = some o := fun b o z => by
    rw [eg]
    exact Heap.get?_push_of_some _ (Heap.get?_push_of_some _ z)
  have at1 : g1.get? a = some (PySem.HandSPX.excO C g0.objs.size) := by
    rw [eg, ea]
    heap_get
  have I2 : Inv X pins σ (upd H1 a (exo a C none)) ⟨g1, gg, gd, gt, go⟩ := I1.laid (t' := gt) kk sz (exo_ok at1)
  have r2 : Vals (V.ref a :: (vs ++ [])) (Value.ref a :: (us ++ [])) := .cons rfl (r1.append .nil)
  have len : ((Value.ref a :: us) ++ []).length = ps.length := by
    have z := r2.length
    rw [F1.len _ _ _ _ q2] at z
    exact z.symm
  have hus : us.length ≤ sizeLine := by
    rw [← r1.length, sizeLine_eq]
    omega
  have bb : BindsTo ⟨g1, gg, gd, gt, go⟩ fd ⟨Value.ref a :: us, []⟩ (ps.zip (Value.ref a :: (us ++ []))) := b ⟨g1, gg, gd, gt, go⟩ (Value.ref a :: us) I2.kIn len
  subst ea
  subst eg
  refine wpAny_call (PySem.HandSPX.call_own F.excBase_ValueError (fun Y => PySem.HandSPX.refsVE_contains Y bm hbm) (I1.kIn _ _ hC) (PySem.W.looks_findIn I1.kIn iC)
    (fun self => PySem.W.bind_fn I1.kIn self tI) hus (codeAny_mono (F1.run _ X.stack _ _ ⟨Value.ref (g0.objs.size + 1) :: us, []⟩ (Value.ref (g0.objs.size + 1) :: (us ++ [])) _ _ (fun _ _ _ => False) (room.make C us []) (I2.env0.make C us []) bb r2 q2) fun r s2 hq => ?_))
  cases r with
  | error u => exact hq.elim
  | ok fl =>
    cases fl with
    | ret u =>
      obtain ⟨v, H2, os2, ba2, un2, ok2, rv, ev, d, fs, e1, e2, n1, q3⟩ := hq
      subst ev
      obtain ⟨h2, j2, d2, t2, o2⟩ := s2
      obtain ⟨t0, G, J, kG, ge, hoe, na⟩ := mk_end0 (d2 := d2) (t2 := t2) I1 sz kk un2 ok2 os2 ba2 e1 e2 n1
      exact ⟨rv, _, _, _, ⟨G, j2, d2, t2, o2⟩, _, .ref C, some d, rfl, J, kG, ge, hoe, ⟨rfl, rfl, fun vs z => by cases z; rfl⟩, rfl, rfl, na, rfl, ba2, raises_own T.exC T.tyC, q3⟩
    | next => exact hq.elim
    | brk => exact hq.elim
    | cont => exact hq.elim
end
theorem passN {X : Cx} : Passes (L2N.CX X.prog X.w) X E0 := fun _ _ _ _ _ _ _ h => by
  obtain ⟨_, _, _, _, _, _, _, _, _, _, _, _, z⟩ := h
  exact False.elim z
theorem takesN0 {X : Cx} : L2N.Takes X (fun _ _ _ _ => False) := fun _ _ x => by
  obtain ⟨_, _, _, _, _, _, _, _, _, _, _, _, _, _, _, _, z⟩ := x
  exact False.elim z
/-- a def that may raise, its errors' context None -/
theorem _root_.L2.Fun.okN {P : Program} {w : World} {K : PySem.W.Frag} {mg : Str → Option Value} {base : Heap} {x q : Str} {st : Stmt} {f : Addr} {fd : FuncData} {N ps : List Str} {k : Nat} {sp : Sp} (F : L2.Fun K x q st f fd) (S : FnScope N ps (defScope st))
    (len : ∀ vs H Q E, sp vs H Q E → vs.length = ps.length)
    (body : ∀ (cd : Value) (A : Around) (outer : List Env) (s : Shared) (H : Hp) (vs : List V) (Q : VK) (E : XK), Room k (A.deeper (envOfC q (defScope st) s.heap.objs.size f cd)) → sp vs H Q E →
      ∃ t, PSs (cxOf (L2N.CX P w) P w K mg base N q (defScope st) f cd A outer s H E) (defBody st) t ∧ t { nx := fun _ H' => Q .non H', rt := Q } (start N vs) H) : FnOk P w K mg base (L2N.CX P w) (k + 1) f fd ps sp := by
  obtain ⟨oc, od, kV, doc, pm, an, cdv, ct, osl, rfl, lk, hcd⟩ := F.ex
  exact fn_of lk hcd S len fun A outer s H vs Q E hr z => body cdv A outer s H vs Q E hr z
/-- the class of an own error with an __init__ that stores its arguments -/
structure ErrC (K : PySem.W.Frag) (mg : Str → Option Value) (x : Str) (C : Addr) : Prop where
  oex : OexC K C
  mgC : mg x = some (.ref C)
  is_ : IsX K C
/-- the __init__ of it: it stores at these names, in this order -/
def spErr (C : Addr) (a : Addr) : List (Str × V) → Hp → (Hp → Prop) → Prop := fun fs H k => ∀ dx, H dx = none → dx ≠ a → k (upd (upd H dx (exd dx fs)) a (exo a C (some dx)))
def spErr1 (C : Addr) (f : Str) : Sp := fun vs H Q _ => ∃ (a : Addr) (v : V), vs = [.ref a, v] ∧ H a = some (exo a C none) ∧ spErr C a [(f, v)] H fun H' => Q .non H'
def spErr2 (C : Addr) (f g : Str) : Sp := fun vs H Q _ => ∃ (a : Addr) (v u : V), vs = [.ref a, v, u] ∧ H a = some (exo a C none) ∧ ∀ dx, H dx = none → dx ≠ a → Q .non (upd (upd (upd H dx (exd dx [(f, v)])) a (exo a C (some dx))) dx (exd dx [(g, u), (f, v)]))
theorem del_upd {H : Hp} {a d : Addr} {o1 o2 o3 : HO} {fs : HO} (ha : H a = none) (hd : d ≠ a) : upd (del (upd (upd (upd H a o1) d o2) a o3) a) d fs = upd H d fs := by
  funext b
  by_cases h1 : b = d
  · rw [h1, upd_same, upd_same]
  · rw [upd_ne h1, upd_ne h1]
    by_cases h2 : b = a
    · rw [h2, del_same, ha]
    · rw [del_ne h2, upd_ne h2, upd_ne h1, upd_ne h2]
theorem del_upd2 {H : Hp} {a d : Addr} {o1 o2 o3 o4 : HO} {fs : HO} (ha : H a = none) (hd : d ≠ a) : upd (del (upd (upd (upd (upd H a o1) d o2) a o3) d o4) a) d fs = upd H d fs := by
  funext b
  by_cases h1 : b = d
  · rw [h1, upd_same, upd_same]
  · rw [upd_ne h1, upd_ne h1]
    by_cases h2 : b = a
    · rw [h2, del_same, ha]
    · rw [del_ne h2, upd_ne h1, upd_ne h2, upd_ne h1, upd_ne h2]
/-- the reading of C(e): a new dict with the field -/
def tErr1 (C : Addr) (f : Str) (ta : TA) : L2.St → Hp → XK → Prop := fun σ H Q => ta σ H fun vs H1 => ∃ v, vs = [v] ∧ ∀ d, H1 d = none → Q (.ref C) (some d) (upd H1 d (.xd [(f, v)]))
def tErr2 (C : Addr) (f g : Str) (ta : TA) : L2.St → Hp → XK → Prop := fun σ H Q => ta σ H fun vs H1 => ∃ v u, vs = [v, u] ∧ ∀ d, H1 d = none → Q (.ref C) (some d) (upd H1 d (.xd [(g, u), (f, v)]))
/-- what makes such errors: the class, its __init__'s promise -/
structure Mke (P : Program) (w : World) (K : PySem.W.Frag) (mg : Str → Option Value) (base : Heap) (k : Nat) (x : Str) (C : Addr) (sp : Sp) : Prop where
  err : ErrC K mg x C
  ex : ∃ (f : Addr) (fd : FuncData) (ps : List Str), PySem.W.findIn K (.ref C) "__init__" = some (some (.ref f)) ∧ PySem.W.typeIn K (.ref f) = some (.type "function") ∧ FnOk P w K mg base CX0 k f fd ps sp ∧ Binds K fd ps []
section
variable {X : Cx} {x : Str} {C : Addr} {k j : Nat} {f g : Str} {e : Expr} {es : List Expr} {ta : TA} {p pos : Pos}
theorem ta_mono {X : Cx} {es : List Expr} {ta : TA} (h : PA X es ta) : True := trivial
theorem pmk1 (m : Mke X.prog X.w X.K X.mg X.base k x C (spErr1 C f)) (hr : Room j X.A) (hk : k + 1 ≤ j) (hg : Gl X x) (ha : PA X (e :: es) ta) (mono : ∀ σ H Q Q', (∀ vs H1, Q vs H1 → Q' vs H1) → ta σ H Q → ta σ H Q')
    (hdb : (x == ("__debug__" : Str)) = false := by decide) (he : starEach (e :: es) X.env = (false, eval e X.env) :: starEach es X.env := by rfl) (hpl : (backTo pos (starEach es X.env)).any (·.1) = false := by rfl) :
    L2N.PMk X (.Call (.Name x p) (e :: es) [] pos) (tErr1 C f ta) := by
  obtain ⟨fI, fd, ps, iC, tI, F, hb⟩ := m.ex
  refine PMk.imp (pmk_oexN m.err.oex iC tI F (hr.mono hk) hb hg m.err.mgC ha hdb he hpl) fun σ H Q q => ?_
  refine mono σ H _ _ ?_ q
  rintro vs H1 ⟨v, rfl, q⟩
  refine ⟨by show 1 ≤ 1000; decide, fun a na => ?_⟩
  refine ⟨a, v, rfl, upd_same, fun dx hx hne => ⟨rfl, dx, [(f, v)], upd_same, ?_, ?_, ?_⟩⟩
  · rw [upd_ne hne, upd_same]
  · rw [upd_ne hne] at hx
    exact hx
  · rw [upd_ne hne] at hx
    rw [del_upd na hne]
    exact q dx hx
theorem pmk2 (m : Mke X.prog X.w X.K X.mg X.base k x C (spErr2 C f g)) (hr : Room j X.A) (hk : k + 1 ≤ j) (hg : Gl X x) (ha : PA X (e :: es) ta) (mono : ∀ σ H Q Q', (∀ vs H1, Q vs H1 → Q' vs H1) → ta σ H Q → ta σ H Q')
    (hdb : (x == ("__debug__" : Str)) = false := by decide) (he : starEach (e :: es) X.env = (false, eval e X.env) :: starEach es X.env := by rfl) (hpl : (backTo pos (starEach es X.env)).any (·.1) = false := by rfl) :
    L2N.PMk X (.Call (.Name x p) (e :: es) [] pos) (tErr2 C f g ta) := by
  obtain ⟨fI, fd, ps, iC, tI, F, hb⟩ := m.ex
  refine PMk.imp (pmk_oexN m.err.oex iC tI F (hr.mono hk) hb hg m.err.mgC ha hdb he hpl) fun σ H Q q => ?_
  refine mono σ H _ _ ?_ q
  rintro vs H1 ⟨v, u, rfl, q⟩
  refine ⟨by show 2 ≤ 1000; decide, fun a na => ?_⟩
  refine ⟨a, v, u, rfl, upd_same, fun dx hx hne => ⟨rfl, dx, [(g, u), (f, v)], ?_, upd_same, ?_, ?_⟩⟩
  · rw [upd_ne hne.symm, upd_same]
  · rw [upd_ne hne] at hx
    exact hx
  · rw [upd_ne hne] at hx
    rw [del_upd2 na hne]
    exact q dx hx
end
/-- a def that may raise, by its name -/
structure CalX (P : Program) (w : World) (K : PySem.W.Frag) (mg : Str → Option Value) (base : Heap) (k : Nat) (x : Str) (sp : Sp) : Prop where
  ex : ∃ (f : Addr) (fd : FuncData) (ps : List Str), FnOk P w K mg base (L2N.CX P w) k f fd ps sp ∧ mg x = some (.ref f) ∧ PySem.W.keepIn K (.ref f) = true ∧ Binds K fd ps []
theorem pe_cX {X : Cx} {k j : Nat} {x : Str} {sp : Sp} {E : XK} {p pos : Pos} {e : Expr} {es : List Expr} {t : TA} (c : CalX X.prog X.w X.K X.mg X.base k x sp) (hr : Room j X.A) (hk : k ≤ j) (hg : Gl X x) (hx : Passes (L2N.CX X.prog X.w) X E) (ha : PA X (e :: es) t)
    (hdb : (x == ("__debug__" : Str)) = false := by decide) (he : starEach (e :: es) X.env = (false, eval e X.env) :: starEach es X.env := by rfl) (hpl : (backTo pos (starEach es X.env)).any (·.1) = false := by rfl) :
    PE X (.Call (.Name x p) (e :: es) [] pos) (tCall sp [] E t) := by
  obtain ⟨f, fd, ps, F, hm, kp, b⟩ := c.ex
  exact pe_call F (hr.mono hk) hg hm kp b .nil hx ha hdb he hpl
end KX

end
section
set_option Elab.async false
set_option linter.all false
set_option maxRecDepth 100000
set_option maxHeartbeats 1000000
/-! a dict comprehension whose keys are tuples -/
namespace KX
open PySem PySem.Spec PyProof.Rows L2 Kit
/-- the new dict takes a pair whose key is the tuple at b -/
theorem dsetT {X : Cx} {pins : List (Addr × Obj)} {σ : L2.St} {H : Hp} {s : Shared} {E : Value → Shared → Prop} {D b : Addr} {kvs : List (List Key × V)} {k : List Key} {v : V} {r : Value} {Q : Unit → Shared → Prop}
    (hu : X.A.units < cLine) (I : Inv X pins σ H s) (hD : H D = some (.dT kvs)) (few : kvs.length < sizeLine) (hb : H b = some (.tup (k.map kV))) (rv : RelV v r)
    (h : ∀ s2, Inv X pins σ (upd H D (.dT (putK kvs k v))) s2 → Q () s2) : wpAny (model X.prog X.w) X.A (dictSet D (.ref b) r) Q E s := by
  obtain ⟨z, nsm, xs, kt, dd⟩ := dt_of I.hok hD
  have few2 : (putK kvs k v).length ≤ sizeLine := Nat.le_trans (length_putK kvs k v) few
  refine wpAny_dictSet_heap (hsz := by rw [← Paired.length kt]; exact z) hu (key_of I.hok hb) dd (fun h2 dd2 same => h _ ?_)
  obtain ⟨o, es, ep, ho, c1, c2, c3, _, c5⟩ := dd2
  refine d_write I (by rw [hD]; exact True.intro) same ⟨o, ho⟩ ⟨few2, nsm, _, (kt.put k hb rv).keeps (fun c ys ec => ?_), o, es, ep, ho, c1, c2, c3, c5⟩
  exact (upd_ne (ne_of ec hD fun q => nomatch q)).trans ec
end KX
namespace KX
open PySem PySem.Spec PyProof.Rows L2 Kit
/-- {k: v for target in iter}: a dict whose keys are tuples -/
def tDcT (wi : TI) (g : TG) (tk tv : TE) (vs : List Nat) : TE := fun σ H Q => wi σ H fun J H1 => ∀ D, H1 D = none → ∃ W : Nat → Nat → Hp → Prop, (∃ m, W 0 m (upd H1 D (.dT []))) ∧ ∀ i m H, W i m H →
  (J.stop i H ∧ Q (.ref D) H) ∨ (J.go i H ∧ ∃ Nx : Hp → Prop, (∀ H', Nx H' → ∃ m', m' < m ∧ W (i + 1) m' H') ∧ ∀ x H', J.yld i H x H' → g x (wipe σ vs) H' fun σ2 H2 => wipe σ2 vs = wipe σ vs ∧
    tk σ2 H2 fun y H4 => tv σ2 H4 fun z H5 => ∃ (kvs : List (List Key × V)) (k : List Key) (t : Addr), y = .ref t ∧ H5 t = some (.tup (k.map kV)) ∧ H5 D = some (.dT kvs) ∧ kvs.length < sizeLine ∧ Nx (upd H5 D (.dT (putK kvs k z))))
theorem pe_dcT {X : Cx} {kx vx tg iter : Expr} {scope : Scope} {own : List (Str × Nat)} {pos : Pos} {wi : TI} {g : TG} {tk tv : TE} (hu : X.A.units < cLine) (hc : X.calm = true) (hN : X.N.Nodup) (hi : PI X tg iter wi) (ok : BlkOk X.N X.env.scope scope own)
    (hg : ∀ (s : Shared) (H : Hp) (C : Addr) (cl : List (Str × Addr)) (fp : List Addr), PG (X.blk s H scope (compEnvC scope cl C X.env) fp) tg g)
    (hk : ∀ (s : Shared) (H : Hp) (C : Addr) (cl : List (Str × Addr)) (fp : List Addr), PE (X.blk s H scope (compEnvC scope cl C X.env) fp) kx tk)
    (hv : ∀ (s : Shared) (H : Hp) (C : Addr) (cl : List (Str × Addr)) (fp : List Addr), PE (X.blk s H scope (compEnvC scope cl C X.env) fp) vx tv) (hs : ∀ x, foldedSetIterable iter X.env x = pure x := by intro _; rfl) :
    PE X (.DictComp kx vx [⟨tg, iter, [], 0⟩] scope pos) (tDcT wi g tk tv (own.map (·.2))) := by
  refine ⟨fun pins s σ H Q I need => ?_⟩
  rw [arm_eval_DictComp]
  have frees : ∀ y ∈ scope.names, y.2 = .free → ∃ c, X.env.cells.lookup y.1 = some c := by
    intro y hy e
    exact (ok.free y hy e).elim (fun q => I.ok.has _ (.inl q)) (fun q => I.ok.has _ (.inr q))
  refine wpAny_comprehension_free rfl hs (closure_ok frees) ok.kind (fun y hy e => by rw [ok.uniq y hy, e]) ?_
  refine thn (hi.run pins s σ H _ I need) fun xv t1 a1 => thn a1 fun itv t2 a2 => ?_
  obtain ⟨it, fp, tn, J, G0, rfl, I2, walk, z0, fz, body⟩ := a2
  refine wpAny_newObj_type (newEnv_comp ?_)
  generalize eD : t2.heap.objs.size = D
  obtain ⟨W, ⟨m0, w0⟩, turn⟩ := body D (I2.hok.fresh (Nat.le_of_eq eD))
  -- the state with the new dict
  generalize e3 : ({ t2 with heap := t2.heap.push { cls := .type "dict", data := .dict #[] } } : Shared) = t3
  have eh : t3.heap = t2.heap.push { cls := .type "dict", data := .dict #[] } := by subst e3; rfl
  have I3 : Inv X pins σ (upd G0 D (.dT [])) t3 := by
    subst e3
    subst eD
    exact I2.laid (t' := t2.toks) (fun b o q => Heap.get?_push_of_some _ q) (Nat.le_refl _) (dt_empty t2.heap I2.big)
  have small : ∀ b ∈ fp, b < t2.heap.objs.size := fun b hb => Heap.lt_size (walk.obj _ _ z0 b hb).choose_spec.1
  have fz3 : ∀ b ∈ fp, FpOk X pins (upd G0 D (.dT [])) b ∧ b < t3.heap.objs.size := by
    intro b hb
    have lt := small b hb
    have q : upd G0 D (.dT []) b = none := (upd_ne (by rw [← eD]; exact Nat.ne_of_lt lt)).trans (fz b hb).1
    exact ⟨⟨q, (fz b hb).2⟩, by rw [eh, Heap.size_push]; exact Nat.lt_succ_of_lt lt⟩
  have z3 : tn 0 t3.heap := walk.keep _ _ _ z0 (fun b _ o q => by rw [eh]; exact Heap.get?_push_of_some _ q)
  have I4 := block_start I3 ok hN fz3
  generalize ecl : cellsFrom (t3.heap.objs.size + 1) scope.names (cloFrom X.env.cells scope.names []) = cl at I4
  have pg := hg t3 (upd G0 D (.dT [])) t3.heap.objs.size cl fp
  have pk := hk t3 (upd G0 D (.dT [])) t3.heap.objs.size cl fp
  have pv := hv t3 (upd G0 D (.dT [])) t3.heap.objs.size cl fp
  show codeAny _ _ (.compStart (.DictComp kx vx [⟨tg, iter, [], 0⟩] scope pos) 0 (.ref it) (.ref D) (compEnvC scope cl t3.heap.objs.size X.env)) (compPost _ _ _ _ _ (.ref D) t3.heap.objs.size) { t3 with heap := pushCells (t3.heap.push { cls := .type "dict", data := .dict #[] }) scope.names }
  generalize ece : compEnvC scope cl t3.heap.objs.size X.env = ce at I4 pg pk pv ⊢
  have cL : ce.locals = t3.heap.objs.size := by subst ece; rfl
  have none3 : ∀ b ∈ fp, upd G0 D (.dT []) b = none := fun b hb => (fz3 b hb).1.1
  generalize eH : upd G0 D (.dT []) = G3 at I3 I4 pg pk pv w0 none3 fz3
  generalize e4 : ({ t3 with heap := pushCells (t3.heap.push { cls := .type "dict", data := .dict #[] }) scope.names } : Shared) = t4 at I4 ⊢
  have z4 : tn 0 t4.heap := by
    subst e4
    exact walk.keep _ _ _ z3 (fun b _ o q => pushCells_keeps _ _ _ _ (Heap.get?_push_of_some _ q))
  have fpB : ∀ {τ : L2.St} {G : Hp} {t : Shared}, Inv (X.blk t3 G3 scope ce fp) [] τ G t → (∀ b ∈ fp, G b = none) → ∀ b ∈ fp, FpOk (X.blk t3 G3 scope ce fp) [] G b := by
    intro τ G t J1 nb b hb
    exact ⟨nb b hb, (J1.ok.exf b hb).1, J1.ok.exfs b hb, .inl hb, fun x c q => (J1.ok.exf b hb).2 x c q, fun p hp => absurd (show p ∈ ([] : List (Addr × Obj)) ++ [] from hp) (by simp)⟩
  have loop : codeAny (model X.prog X.w) X.A (.compLoop (.DictComp kx vx [⟨tg, iter, [], 0⟩] scope pos) 0 (.ref it) (.ref D) ce) (compPost (model X.prog X.w) X.A X.xe none (EP X pins σ Q) (.ref D) t3.heap.objs.size) t4 := by
    refine compLoop_anyD (fun m t => ∃ i G, Inv (X.blk t3 G3 scope ce fp) [] (wipe σ (own.map (·.2))) G t ∧ tn i t.heap ∧ (∀ b ∈ fp, G b = none) ∧ W i m G) ?_ m0 ⟨0, G3, I4, z4, none3, w0⟩
    intro m t5 cond
    obtain ⟨i, G5, I5, z5, n5, w5⟩ := cond
    have fB := fpB I5 n5
    cases turn i m G5 w5 with
    | inl stp =>
      obtain ⟨halt, res⟩ := stp
      refine thnF (walk.done (X.blk t3 G3 scope ce fp) rfl rfl rfl hc i [] t5 _ G5 (fun _ _ => False) I5 fB z5 halt) fun r t6 a6 => ?_
      obtain ⟨er, I6⟩ := a6
      subst er
      have back : Inv X pins σ G5 t6 := I3.call' (ch := fp) I6.os I6.base I6.hok I6.bare (fun b hb => let z := (fz3 b hb).1; ⟨z.2.2.2.1, z.2.1, z.2.2.2.2.1, z.2.2.2.2.2⟩)
      have freeL : G5 t3.heap.objs.size = none := by rw [← cL]; exact I6.free
      obtain ⟨mm, ns6, _⟩ := I6.loc
      have ns7 : t6.heap.Ns t3.heap.objs.size mm := by rw [← cL]; exact ns6
      obtain ⟨f0, f1, f2, f3, f4, f5⟩ := I3.fpOk (Nat.le_refl _) freeL
      exact ⟨mm, ns7, fun h2 sb => ⟨.ref D, G5, back.turned (t' := t6.toks) (fun b o hb e => (sb.2 b hb).trans e) f0 f1 f3 f4 f5, rfl, res⟩⟩
    | inr more =>
      obtain ⟨goes, Nx, hNx, step⟩ := more
      refine thnF (walk.item (X.blk t3 G3 scope ce fp) rfl rfl rfl hc i [] t5 _ G5 (fun _ _ => False) I5 fB z5 goes) fun r t6 a6 => ?_
      obtain ⟨u, er, a6⟩ := a6
      subst er
      refine thnF a6 fun _ t7 a7 => ?_
      obtain ⟨x, G7, I7, rx, yx, z7, n7⟩ := a7
      have J7 := I7.pinned (fpB I7 n7) (walk.obj _ _ z7)
      refine thnF (pg.run _ t7 _ G7 x u _ J7 rx (step x G7 yx)) fun _ t8 a8 => ?_
      obtain ⟨τ, G8, I8, same8, q8⟩ := a8
      -- what a turn leaves
      have leave : ∀ {t : Shared} {G : Hp}, Inv (X.blk t3 G3 scope ce fp) ([] ++ pinsAt fp t7.heap) τ G t → Nx G → ∃ m', m' < m ∧ ∃ j G', Inv (X.blk t3 G3 scope ce fp) [] (wipe σ (own.map (·.2))) G' t ∧ tn j t.heap ∧ (∀ b ∈ fp, G' b = none) ∧ W j m' G' := by
        intro t G Jt nx
        obtain ⟨m', lt, w'⟩ := hNx G nx
        have held : ∀ b ∈ fp, ∀ o, t7.heap.get? b = some o → t.heap.get? b = some o ∧ G b = none := by
          intro b hb o q
          have z := Jt.pin (b, o) (List.mem_append_right _ (List.mem_append_right _ (mem_pinsAt hb q)))
          exact ⟨z.1, z.2.1⟩
        have len : (wipe σ (own.map (·.2))).length = τ.length := by rw [← same8, wipe_length]
        refine ⟨m', lt, i + 1, G, (Jt.unpinned (pins := [])).weak len ?_, walk.keep _ _ _ z7 (fun b hb o q => (held b hb o q).1), fun b hb => ?_, w'⟩
        · intro j v q
          rw [← same8] at q
          exact (wipe_some q).1
        · have ⟨o, q, _⟩ := walk.obj _ _ z7 b hb
          exact (held b hb o q).2
      refine wpAny_pure ?_
      simp only [if_true]
      refine thnF (pk.run _ t8 τ G8 _ I8 q8) fun kv t9 a9 => ?_
      obtain ⟨y, G9, I9, ry, q9⟩ := a9
      refine thnF (pv.run _ t9 τ G9 _ I9 q9) fun vv t10 a10 => ?_
      obtain ⟨z, G10, I10, rz, kvs, ks, ta, ey, et, eD10, few, nx⟩ := a10
      subst ey
      cases (show kv = Value.ref ta from ry)
      exact dsetT (X := X.blk t3 G3 scope ce fp) hu I10 eD10 few et rz fun t11 I11 => leave I11 nx
  exact codeAny_compStart_dict loop (walk.self X.A 0 _ _ _ z4 loop)
end KX

end
section
set_option Elab.async false
set_option linter.all false
set_option maxRecDepth 100000
/-! tables of sets up to 2048 slots: every slot is met in time -/
namespace BT
open PySem PySem.Spec PyProof.Rows L2
def Big (m : Nat) : Prop := m = 7 ∨ m = 31 ∨ m = 127 ∨ m = 511 ∨ m = 2047
/-- the slots of the first n steps, as the bits of a number -/
def bitsOf (m : Nat) : Nat → Nat → Nat → Nat
  | 0, _, acc => acc
  | n + 1, x, acc => bitsOf m n ((x * 5 + 1) % (m + 1)) (acc ||| 1 <<< x)
def lastOf (m : Nat) : Nat → Nat → Nat
  | 0, x => x
  | n + 1, x => lastOf m n ((x * 5 + 1) % (m + 1))
theorem one_step (m x : Nat) : ∀ k, lcgI m ((x * 5 + 1) % (m + 1)) k = lcgI m x (k + 1)
  | 0 => rfl
  | k + 1 => by
    show (lcgI m ((x * 5 + 1) % (m + 1)) k * 5 + 1) % (m + 1) = (lcgI m x (k + 1) * 5 + 1) % (m + 1)
    rw [one_step m x k]
theorem lastOf_eq (m : Nat) : ∀ n x, lastOf m n x = lcgI m x n
  | 0, _ => rfl
  | n + 1, x => by
    show lastOf m n ((x * 5 + 1) % (m + 1)) = _
    rw [lastOf_eq m n, one_step]
theorem bit_met (m j : Nat) : ∀ n x acc, (bitsOf m n x acc).testBit j = true → acc.testBit j = true ∨ ∃ k, k < n ∧ lcgI m x k = j
  | 0, _, _, h => .inl h
  | n + 1, x, acc, h => by
    rcases bit_met m j n _ _ h with z | ⟨k, hk, e⟩
    · rw [Nat.testBit_or, Bool.or_eq_true] at z
      rcases z with z | z
      · exact .inl z
      · refine .inr ⟨0, Nat.succ_pos _, ?_⟩
        show x = j
        rw [Nat.shiftLeft_eq, Nat.one_mul, Nat.testBit_two_pow] at z
        exact of_decide_eq_true z
    · exact .inr ⟨k + 1, Nat.succ_lt_succ hk, by rw [← one_step]; exact e⟩
theorem all7 : bitsOf 7 8 0 0 = 2 ^ 8 - 1 ∧ lastOf 7 8 0 = 0 := by decide +kernel
theorem all31 : bitsOf 31 32 0 0 = 2 ^ 32 - 1 ∧ lastOf 31 32 0 = 0 := by decide +kernel
theorem all127 : bitsOf 127 128 0 0 = 2 ^ 128 - 1 ∧ lastOf 127 128 0 = 0 := by decide +kernel
theorem all511 : bitsOf 511 512 0 0 = 2 ^ 512 - 1 ∧ lastOf 511 512 0 = 0 := by decide +kernel
theorem all2047 : bitsOf 2047 2048 0 0 = 2 ^ 2048 - 1 ∧ lastOf 2047 2048 0 = 0 := by decide +kernel
theorem Big.all {m : Nat} (h : Big m) : bitsOf m (m + 1) 0 0 = 2 ^ (m + 1) - 1 ∧ lastOf m (m + 1) 0 = 0 := by
  rcases h with e | e | e | e | e <;> subst e
  · exact all7
  · exact all31
  · exact all127
  · exact all511
  · exact all2047
theorem Big.odd {m : Nat} (h : Big m) : m % 2 = 1 := by
  rcases h with e | e | e | e | e <;> subst e <;> rfl
theorem Big.le {m : Nat} (h : Big m) : m ≤ 2047 := by
  rcases h with e | e | e | e | e <;> omega
/-- from 0 on, each slot within a round -/
theorem Big.from0 {m : Nat} (hm : Big m) {j : Nat} (hj : j ≤ m) : ∃ k, k ≤ m ∧ lcgI m 0 k = j := by
  have h : (bitsOf m (m + 1) 0 0).testBit j = true := by
    rw [hm.all.1, Nat.testBit_two_pow_sub_one]
    exact decide_eq_true (Nat.lt_succ_of_le hj)
  rcases bit_met m j _ _ _ h with z | ⟨k, hk, e⟩
  · rw [Nat.zero_testBit] at z
    cases z
  · exact ⟨k, Nat.le_of_lt_succ hk, e⟩
theorem lcgI_add (m x a : Nat) : ∀ k, lcgI m (lcgI m x a) k = lcgI m x (a + k)
  | 0 => rfl
  | k + 1 => by
    show (lcgI m (lcgI m x a) k * 5 + 1) % (m + 1) = (lcgI m x (a + k) * 5 + 1) % (m + 1)
    rw [lcgI_add m x a k]
theorem Big.from {m : Nat} (hm : Big m) {i j : Nat} (hi : i ≤ m) (hj : j ≤ m) : ∃ k, k ≤ m ∧ lcgI m i k = j := by
  obtain ⟨a, ha, ea⟩ := hm.from0 hi
  obtain ⟨b, hb, eb⟩ := hm.from0 hj
  have round : lcgI m 0 (m + 1) = 0 := by rw [← lastOf_eq]; exact hm.all.2
  subst ea
  by_cases c : a ≤ b
  · exact ⟨b - a, by omega, by rw [lcgI_add, Nat.add_sub_cancel' c]; exact eb⟩
  · refine ⟨m + 1 - a + b, by omega, ?_⟩
    have e : a + (m + 1 - a + b) = m + 1 + b := by omega
    rw [lcgI_add, e, ← lcgI_add, round]
    exact eb
/-- each slot begins a run -/
theorem Big.runs {m : Nat} (hm : Big m) (h : Int) {j : Nat} (hj : j ≤ m) : ∃ n, n ≤ m + 12 ∧ runI m (SetTable.bits h) n = j := by
  obtain ⟨k, hk, e⟩ := hm.from (runI_le m (SetTable.bits h) 12) hj
  exact ⟨12 + k, by omega, (runI_tail (bits_lt h) k).trans e⟩
theorem Big.meets {m : Nat} (hm : Big m) (h : Int) {j : Nat} (hj : j ≤ m) : ∃ k, k < 10 * SetTable.turns m ∧ way m h k = j := by
  obtain ⟨n, hn, e⟩ := hm.runs h hj
  obtain ⟨k, hk, e2⟩ := run_nth m (SetTable.bits h) n
  have t : SetTable.turns m = m + 15 := rfl
  exact ⟨k, by omega, (congrArg SetTable.Probe.j e2).trans e⟩
/-- no slot beyond the table -/
theorem inside (m : Nat) (h : Int) (k : Nat) : way m h k ≤ m := by
  have hi : SetTable.bits h % (m + 1) ≤ m := Nat.le_of_lt_succ (Nat.mod_lt _ (Nat.succ_pos _))
  have z := nth_in (m := m) k (runAt m (SetTable.bits h % (m + 1)) (SetTable.bits h)) (by
    have r := runEnd_bd hi
    show SetTable.bits h % (m + 1) + (SetTable.runEnd m (SetTable.bits h % (m + 1)) - SetTable.bits h % (m + 1)) ≤ m
    omega)
  exact Nat.le_trans (Nat.le_add_right _ _) z
/-- the slot j is met by h after taken slots alone -/
def Lies (m : Nat) (S : Nat → Prop) (h : Int) (j : Nat) : Prop := ∃ K, way m h K = j ∧ ∀ k, k < K → S (way m h k)
theorem Lies.mono {m : Nat} {S S' : Nat → Prop} {h : Int} {j : Nat} (l : Lies m S h j) (up : ∀ x, S x → S' x) : Lies m S' h j := by
  obtain ⟨K, e, b⟩ := l
  exact ⟨K, e, fun k hk => up _ (b k hk)⟩
/-- where a slot is free, the way of h comes to a free one in time -/
theorem Big.first {m : Nat} (hm : Big m) (S : Nat → Prop) (h : Int) {N k0 : Nat} (h0 : k0 ≤ N) (free : ¬ S (way m h k0)) : ∃ K, K ≤ N ∧ ¬ S (way m h K) ∧ ∀ k, k < K → S (way m h k) := by
  obtain ⟨K, h1, h2, h3⟩ := st_least (p := fun k => ¬ S (way m h k)) k0 free
  exact ⟨K, Nat.le_trans h1 h0, h2, fun k hk => Classical.byContradiction (h3 k hk)⟩
theorem short {m n : Nat} {f : Nat → Nat} {S : Nat → Prop} (hS : ∀ j, j ≤ m → S j → f j < n) (inj : ∀ i j, i ≤ m → j ≤ m → S i → S j → f i = f j → i = j) (hn : n ≤ m) : ∃ j, j ≤ m ∧ ¬ S j := by
  refine Classical.byContradiction fun no => ?_
  have all : ∀ j, j ≤ m → S j := fun j hj => Classical.byContradiction fun c => no ⟨j, hj, c⟩
  have nd : ((List.range (m + 1)).map f).Nodup := by
    refine List.pairwise_map.mpr (List.Pairwise.imp_of_mem (fun {a b} ha hb hne e => hne ?_) (List.nodup_range (n := m + 1)))
    have ha := Nat.le_of_lt_succ (List.mem_range.mp ha)
    have hb := Nat.le_of_lt_succ (List.mem_range.mp hb)
    exact inj a b ha hb (all a ha) (all b hb) e
  have z := nat_nodup_len _ (List.range n) nd fun x hx => by
    obtain ⟨j, hj, rfl⟩ := List.mem_map.mp hx
    have hj := Nat.le_of_lt_succ (List.mem_range.mp hj)
    exact List.mem_range.mpr (hS j hj (all j hj))
  rw [List.length_map, List.length_range, List.length_range] at z
  omega
end BT

end
section
set_option Elab.async false
set_option linter.all false
set_option maxRecDepth 100000
/-! a table in which each hash is found again on its way -/
namespace BT
open PySem PySem.Spec PyProof.Rows L2
structure Tab (t : SetTable) (hs : List Int) : Prop where
  ris : Ris t.place.toList
  dm : t.dummies = #[]
  num : t.place.size = hs.length
  big : Big t.mask
  le : ∀ x ∈ t.place.toList, x ≤ t.mask
  lies : ∀ q ∈ hs.zip t.place.toList, Lies t.mask (· ∈ t.place.toList) q.1 q.2
theorem Tab.len {t : SetTable} {hs : List Int} (T : Tab t hs) : t.place.toList.length = hs.length := T.num
theorem Tab.empty {t : SetTable} (h1 : t.mask = 7) (h2 : t.place = #[]) (h3 : t.dummies = #[]) : Tab t [] where
  ris := by rw [h2]; exact List.Pairwise.nil
  dm := h3
  num := by rw [h2] <;> rfl
  big := .inl h1
  le := fun x hx => by rw [h2] at hx; cases hx
  lies := fun q hq => by rw [List.zip_nil_left] at hq; cases hq
/-- a free slot on the way of any hash -/
theorem Tab.free {t : SetTable} {hs : List Int} (T : Tab t hs) (room : hs.length ≤ t.mask) (h : Int) :
    ∃ K, K < 10 * SetTable.turns t.mask ∧ way t.mask h K ∉ t.place.toList ∧ ∀ k, k < K → way t.mask h k ∈ t.place.toList := by
  obtain ⟨j, hj, no⟩ := st_missing t.place.toList (t.mask + 1) (by rw [T.len]; omega)
  obtain ⟨k0, hk0, e⟩ := T.big.meets h (Nat.le_of_lt_succ hj)
  obtain ⟨K, a, b, c⟩ := T.big.first (· ∈ t.place.toList) h (Nat.le_refl k0) (by show ¬ way t.mask h k0 ∈ _; rw [e]; exact no)
  exact ⟨K, Nat.lt_of_le_of_lt a hk0, b, c⟩
/-- what has the hash lies before the free slot -/
theorem Tab.before {t : SetTable} {hs : List Int} (T : Tab t hs) {h : Int} {K i : Nat} (no : way t.mask h K ∉ t.place.toList) (hi : hs[i]? = some h) : ∃ k, k < K ∧ t.place.toList[i]? = some (way t.mask h k) := by
  have lt : i < t.place.toList.length := by rw [T.len]; exact (List.getElem?_eq_some_iff.mp hi).1
  have hj := List.getElem?_eq_getElem lt
  obtain ⟨k, e, b⟩ := T.lies (h, t.place.toList[i]) (List.mem_of_getElem? (i := i) (List.getElem?_zip_eq_some.mpr ⟨hi, hj⟩))
  refine ⟨k, Nat.lt_of_not_le fun c => ?_, by rw [hj, e]⟩
  rcases Nat.lt_or_eq_of_le c with c | c
  · exact no (b K c)
  · rw [c, e] at no
    exact no (List.getElem_mem lt)
theorem zip_put {α β : Type} {l : List α} {m : List β} (e : l.length = m.length) (p : Nat) (x : α) (y : β) :
    (l.take p ++ x :: l.drop p).zip (m.take p ++ y :: m.drop p) = (l.zip m).take p ++ (x, y) :: (l.zip m).drop p := by
  rw [List.zip_append (by rw [List.length_take, List.length_take, e]), List.zip_cons_cons]
  show List.zipWith Prod.mk _ _ ++ (x, y) :: List.zipWith Prod.mk _ _ = (List.zipWith Prod.mk l m).take p ++ (x, y) :: (List.zipWith Prod.mk l m).drop p
  rw [List.take_zipWith, List.drop_zipWith]
/-- one more in its slot -/
theorem Tab.put {t : SetTable} {hs : List Int} (T : Tab t hs) {h : Int} {K p : Nat} (no : way t.mask h K ∉ t.place.toList) (occ : ∀ k, k < K → way t.mask h k ∈ t.place.toList) (hp : SetTable.below t.place (way t.mask h K) = p) :
    p ≤ hs.length ∧ Tab (t.put (way t.mask h K)).1 (hs.take p ++ h :: hs.drop p) := by
  have cut := (below_cut T.ris (way t.mask h K)).1
  have hl := put_place t (way t.mask h K)
  rw [hp] at cut hl
  have pl : p ≤ hs.length := by rw [← T.num]; exact cut
  have pl2 : p ≤ t.place.toList.length := cut
  have up : ∀ x, x ∈ t.place.toList → x ∈ (t.put (way t.mask h K)).1.place.toList := fun x hx => by
    rw [hl]; exact mem_ins.2 (.inr hx)
  refine ⟨pl, ris_insert T.ris (fun e => no (List.mem_of_getElem? (by rw [Array.getElem?_toList]; exact e))), put_dm T.dm _, ?_, T.big, fun x hx => ?_, fun q hq => ?_⟩
  · have z := congrArg List.length hl
    rw [len_ins _ pl2, T.len] at z
    rw [len_ins _ pl]
    exact z
  · rw [hl] at hx
    rcases mem_ins.1 hx with e | hx
    · rw [e]; exact inside _ _ _
    · exact T.le x hx
  · rw [hl, zip_put T.len.symm] at hq
    rcases mem_ins.1 hq with e | hq
    · subst e
      exact ⟨K, rfl, fun k hk => up _ (occ k hk)⟩
    · exact (T.lies q hq).mono up
theorem put_fill {t : SetTable} {hs : List Int} (T : Tab t hs) (j : Nat) : (t.put j).1.fill = (t.put j).1.place.size := by
  show (t.put j).1.place.size + (t.put j).1.dummies.size = _
  rw [put_dm T.dm]
  exact Nat.add_zero _

/-! ### laid anew -/
abbrev Taken (owner : Array (Option Nat)) (x : Nat) : Prop := oAt owner x ≠ none
/-- the seats of the hashes that are laid -/
structure Seats (m : Nat) (done : List Int) (owner : Array (Option Nat)) : Prop where
  size : owner.size = m + 1
  who : ∀ j k, j ≤ m → oAt owner j = some k → ∃ h, done[k]? = some h ∧ Lies m (Taken owner) h j
  one : ∀ i j k, i ≤ m → j ≤ m → oAt owner i = some k → oAt owner j = some k → i = j
  all : ∀ k, k < done.length → ∃ j, j ≤ m ∧ oAt owner j = some k
theorem Seats.start (m : Nat) : Seats m [] (Array.replicate (m + 1) none) where
  size := Array.size_replicate
  who := fun j k hj e => absurd (oAt_init hj) (by rw [e]; exact fun z => nomatch z)
  one := fun i j k hi _ e _ => absurd (oAt_init hi) (by rw [e]; exact fun z => nomatch z)
  all := fun k hk => absurd hk (Nat.not_lt_zero k)
theorem Seats.room {m : Nat} {done : List Int} {owner : Array (Option Nat)} (W : Seats m done owner) (hn : done.length ≤ m) : ∃ j, j ≤ m ∧ oAt owner j = none := by
  refine (short (f := fun j => (oAt owner j).getD 0) (S := Taken owner) (n := done.length) (fun j hj t => ?_) (fun i j hi hj a b e => ?_) hn).elim fun j z => ⟨j, z.1, Classical.byContradiction z.2⟩
  · cases z : oAt owner j with
    | none => exact absurd z t
    | some k =>
      obtain ⟨h, e, _⟩ := W.who j k hj z
      exact (List.getElem?_eq_some_iff.mp e).1
  · cases y : oAt owner i with
    | none => exact absurd y a
    | some k =>
      cases z : oAt owner j with
      | none => exact absurd z b
      | some l =>
        rw [y, z] at e
        have e : k = l := e
        subst e
        exact W.one i j k hi hj y z
theorem isNone_of {owner : Array (Option Nat)} {x : Nat} (h : oAt owner x = none) : (oAt owner x).isNone = true := by rw [h] <;> rfl
theorem isNone_no {owner : Array (Option Nat)} {x : Nat} (h : Taken owner x) : (oAt owner x).isNone = false := by
  cases z : oAt owner x with
  | none => exact absurd z h
  | some _ => rfl
/-- the program's own search for a seat -/
theorem Big.seat {m : Nat} (hm : Big m) (owner : Array (Option Nat)) (h : Int) {j : Nat} (hj : j ≤ m) (free : oAt owner j = none) :
    ∃ K, SetTable.layClean.free m owner (SetTable.turns m) (SetTable.bits h % (m + 1)) (SetTable.bits h) = some (way m h K) ∧ oAt owner (way m h K) = none ∧ ∀ k, k < K → Taken owner (way m h k) := by
  obtain ⟨n, hn, e⟩ := hm.runs h hj
  have at0 : way m h (off m (SetTable.bits h % (m + 1)) (SetTable.bits h) n) = j := by
    refine (congrArg SetTable.Probe.j (nth_off m n _ _)).trans ?_
    rw [itL_run]
    exact e
  obtain ⟨K, a, b, c⟩ := hm.first (Taken owner) h (Nat.le_refl (off m (SetTable.bits h % (m + 1)) (SetTable.bits h) n)) (by rw [at0]; exact fun z => z free)
  have b := Classical.byContradiction b
  have t : SetTable.turns m = m + 15 := rfl
  exact ⟨K, free_spec m owner (SetTable.turns m) n _ _ K (by omega) a (fun k hk => isNone_no (c k hk)) (isNone_of b), b, c⟩
theorem Seats.next {m : Nat} (hm : Big m) {done : List Int} {owner : Array (Option Nat)} (W : Seats m done owner) (hn : done.length ≤ m) (h : Int) :
    ∃ j, SetTable.layClean.free m owner (SetTable.turns m) (SetTable.bits h % (m + 1)) (SetTable.bits h) = some j ∧ Seats m (done ++ [h]) (owner.setIfInBounds j (some done.length)) := by
  obtain ⟨j0, hj0, free⟩ := W.room hn
  obtain ⟨K, e, no, occ⟩ := hm.seat owner h hj0 free
  have hb : way m h K < owner.size := by rw [W.size]; exact Nat.lt_succ_of_le (inside m h K)
  refine ⟨way m h K, e, ?_⟩
  generalize ej : way m h K = j at no hb e ⊢
  have me := oAt_set_self (some done.length) hb
  have other : ∀ {i : Nat}, i ≠ j → oAt (owner.setIfInBounds j (some done.length)) i = oAt owner i := fun c => oAt_set_ne _ c
  have up : ∀ x, Taken owner x → Taken (owner.setIfInBounds j (some done.length)) x := fun x hx => by
    by_cases c : x = j
    · show oAt _ x ≠ none
      rw [c, me]
      exact fun z => nomatch z
    · show oAt _ x ≠ none
      rw [other c]
      exact hx
  have old : ∀ {i k : Nat}, i ≤ m → oAt owner i = some k → k < done.length := fun hi z => by
    obtain ⟨_, y, _⟩ := W.who _ _ hi z
    exact (List.getElem?_eq_some_iff.mp y).1
  refine ⟨by rw [Array.size_setIfInBounds]; exact W.size, fun i k hi z => ?_, fun i l k hi hl y z => ?_, fun k hk => ?_⟩
  · by_cases c : i = j
    · rw [c, me] at z
      obtain rfl := Option.some.inj z
      exact ⟨h, by rw [List.getElem?_append_right (Nat.le_refl _), Nat.sub_self] <;> rfl, K, ej.trans c.symm, fun k hk => up _ (occ k hk)⟩
    · rw [other c] at z
      obtain ⟨g, y, l⟩ := W.who i k hi z
      exact ⟨g, by rw [List.getElem?_append_left (old hi z)]; exact y, l.mono up⟩
  · by_cases c : i = j
    · by_cases d : l = j
      · rw [c, d]
      · rw [c, me] at y
        rw [other d] at z
        obtain rfl := Option.some.inj y
        exact absurd (old hl z) (Nat.lt_irrefl _)
    · rw [other c] at y
      by_cases d : l = j
      · rw [d, me] at z
        obtain rfl := Option.some.inj z
        exact absurd (old hi y) (Nat.lt_irrefl _)
      · rw [other d] at z
        exact W.one i l k hi hl y z
  · rw [List.length_append, List.length_singleton] at hk
    by_cases c : k = done.length
    · rw [c]
      exact ⟨j, by rw [← ej]; exact inside m h K, me⟩
    · obtain ⟨i, hi, y⟩ := W.all k (by omega)
      refine ⟨i, hi, ?_⟩
      rw [other fun d => ?_]
      · exact y
      · rw [d, no] at y
        cases y
theorem Seats.rest {m : Nat} (hm : Big m) : ∀ (more done : List Int) (owner : Array (Option Nat)), Seats m done owner → done.length + more.length ≤ m →
    ∃ o, more.foldl (stepF m) (some (owner, done.length)) = some (o, done.length + more.length) ∧ Seats m (done ++ more) o
  | [], done, owner, W, _ => ⟨owner, rfl, by rw [List.append_nil]; exact W⟩
  | h :: more, done, owner, W, hl => by
    rw [List.length_cons] at hl
    obtain ⟨j, e, W1⟩ := W.next hm (by omega) h
    have l1 : (done ++ [h]).length = done.length + 1 := List.length_append
    obtain ⟨o, f, W2⟩ := Seats.rest hm more (done ++ [h]) _ W1 (by omega)
    rw [List.append_assoc] at W2
    rw [l1] at f
    refine ⟨o, ?_, W2⟩
    rw [List.foldl_cons, stepF_some e, f, List.length_cons]
    congr 2
    omega
theorem Big.clean {m : Nat} (hm : Big m) {hs : Array Int} (hn : hs.size ≤ m) : ∃ o, SetTable.layClean m hs = some o ∧ Seats m hs.toList o := by
  obtain ⟨o, f, W⟩ := Seats.rest hm hs.toList [] _ (Seats.start m) (by rw [List.length_nil, Nat.zero_add]; exact hn)
  refine ⟨o, ?_, W⟩
  rw [layClean_eq]
  exact congrArg (Option.map Prod.fst) f
/-- the table laid anew -/
theorem Big.again {M : Nat} (hM : Big M) (t : SetTable) {hs : Array Int} {wanted : Nat} (hw : SetTable.sizeAbove wanted - 1 = M) (hn : hs.size ≤ M) :
    ∃ t' order, t.relaid hs wanted = some (t', order) ∧ order.toList.Perm (List.range hs.size) ∧ Tab t' (order.toList.map fun i => hs.getD i 0) ∧ t'.mask = M ∧ t'.led = t.led ∧ t'.plain = t.plain := by
  obtain ⟨o, e, W⟩ := hM.clean hn
  have rs := ris_live (fun j => o.getD j none) (List.range (M + 1)) List.pairwise_lt_range
  have ml : ∀ {j k : Nat}, (j, k) ∈ liveOf M o ↔ j ≤ M ∧ oAt o j = some k := mem_live W.size
  have ndl : (liveOf M o).Nodup := List.Pairwise.of_map Prod.fst (fun a b (hne : a.1 < b.1) q => by rw [q] at hne; exact Nat.lt_irrefl _ hne) rs.1
  refine ⟨tabOf t M o, ((liveOf M o).map (·.2)).toArray, ?_, ?_, ⟨rs.1, rfl, ?_, hM, fun x hx => Nat.le_of_lt_succ (List.mem_range.mp (rs.2 x hx)), fun q hq => ?_⟩, rfl, rfl, rfl⟩
  · rw [relaid_eq, hw, e] <;> rfl
  · refine (List.perm_ext_iff_of_nodup ?_ List.nodup_range).mpr fun k => ?_
    · refine List.pairwise_map.mpr (ndl.imp_of_mem fun {a b} ha hb hne q => hne ?_)
      obtain ⟨a1, a2⟩ := ml.1 ha
      obtain ⟨b1, b2⟩ := ml.1 hb
      exact Prod.ext (W.one _ _ _ a1 b1 a2 (by rw [b2, q])) q
    · rw [List.mem_range]
      constructor
      · intro hk
        obtain ⟨⟨j, l⟩, hq, rfl⟩ := List.mem_map.mp hk
        obtain ⟨a, b⟩ := ml.1 hq
        obtain ⟨_, y, _⟩ := W.who _ _ a b
        exact (List.getElem?_eq_some_iff.mp y).1
      · intro hk
        obtain ⟨j, a, b⟩ := W.all k hk
        exact List.mem_map.mpr ⟨(j, k), ml.2 ⟨a, b⟩, rfl⟩
  · show ((liveOf M o).map (·.1)).toArray.size = (((liveOf M o).map (·.2)).map fun i => hs.getD i 0).length
    rw [List.size_toArray, List.length_map, List.length_map, List.length_map]
  · have hq : q ∈ (((liveOf M o).map (·.2)).map fun i => hs.getD i 0).zip ((liveOf M o).map (·.1)) := hq
    rw [List.map_map, List.zip_map', List.mem_map] at hq
    obtain ⟨⟨j, k⟩, hm, rfl⟩ := hq
    obtain ⟨a, b⟩ := ml.1 hm
    obtain ⟨h, y, l⟩ := W.who j k a b
    have eh : hs.getD k 0 = h := by
      rw [Array.getD_eq_getD_getElem?, ← Array.getElem?_toList, y] <;> rfl
    show Lies M (· ∈ (liveOf M o).map (·.1)) (hs.getD k 0) j
    rw [eh]
    obtain ⟨K, e1, occ⟩ := l
    refine ⟨K, e1, fun k' hk => ?_⟩
    cases z : oAt o (way M h k') with
    | none => exact absurd z (occ k' hk)
    | some l => exact List.mem_map.mpr ⟨(_, l), ml.2 ⟨inside M h k', z⟩, rfl⟩
end BT

end
section
set_option Elab.async false
set_option linter.all false
set_option maxRecDepth 100000
/-! sets of tuples, of up to 1199 of them: search, add, lay anew -/
namespace BT
open PySem PySem.Spec PyProof.Rows L2
abbrev hashes (P : Program) (w : World) (L : List (Addr × List Int)) : List Int := L.map fun p => thash P w p.2
/-- a set of tuples of ints, as it stands in the heap -/
structure Holds (P : Program) (w : World) (h : Heap) (a : Addr) (L : List (Addr × List Int)) (es : Array (Int × Value)) (ep : Nat) (t : SetTable) : Prop where
  obj : ∃ o, h.get? a = some o ∧ o.ExactSet ∧ o.data = .set es ep t
  rows : es.toList = rowsOf P w L
  tab : Tab t (hashes P w L)
  nd : (L.map (·.2)).Nodup
  tup : ∀ p ∈ L, IsT P w h p.2 p.1
  plain : t.plain = true
  led : w.params.followText "set-order" = true ∨ t.led = true
  room : L.length * 5 < t.mask * 3
section
variable {P : Program} {w : World} {A : Around} {E : Value → Shared → Prop} {s : Shared} {a : Addr} {L : List (Addr × List Int)} {es : Array (Int × Value)} {ep : Nat} {t : SetTable}
theorem rows_size (h : es.toList = rowsOf P w L) : es.size = L.length := by
  have z := congrArg List.length h
  rw [show (rowsOf P w L).length = L.length from List.length_map ..] at z
  exact z
theorem fits_of {n : Nat} {hs : List Int} (T : Tab t hs) (e : n = hs.length) (r : n ≤ t.mask) : t.fits n = true := by
  have f : t.fill = t.place.size := by
    show t.place.size + t.dummies.size = _
    rw [T.dm]
    exact Nat.add_zero _
  have z := T.num
  unfold SetTable.fits
  rw [f, Bool.and_eq_true]
  exact ⟨beq_iff_eq.mpr (by omega), decide_eq_true (by omega)⟩
theorem Holds.fit (R : Holds P w s.heap a L es ep t) : t.fits es.size = true := by
  have z := rows_size R.rows
  have r := R.room
  exact fits_of R.tab (by rw [z, List.length_map]) (by omega)
theorem Holds.entry (R : Holds P w s.heap a L es ep t) {i : Nat} {p : Addr × List Int} (h : L[i]? = some p) : es[i]? = some (thash P w p.2, Value.ref p.1) := by
  rw [← Array.getElem?_toList, R.rows]
  exact (List.getElem?_map ..).trans (by rw [h] <;> rfl)
theorem Holds.odd (R : Holds P w s.heap a L es ep t) : ¬ t.gaveWay = true := by
  unfold SetTable.gaveWay
  rw [R.tab.big.odd]
  decide
/-- the first probe of a hash -/
abbrev base (t : SetTable) (h : Int) : SetTable.Probe := runAt t.mask (SetTable.bits h % (t.mask + 1)) (SetTable.bits h)
theorem no_dummy (m : Nat) : ∀ (n : Nat) (p : SetTable.Probe), p.dummy = none → (nth m p n).dummy = none
  | 0, _, h => h
  | n + 1, p, h => no_dummy m n _ (by unfold adv; split <;> exact h)
/-- the search of k, from step c of its way: what stands ahead of c has another key -/
theorem search_on (R : Holds P w s.heap a L es ep t) {x : Addr} {k : List Int} (hx : IsT P w s.heap k x) (hu : A.units < cLine) {K : Nat} (bound : K < 10 * SetTable.turns t.mask)
    (no : way t.mask (thash P w k) K ∉ t.place.toList) (occ : ∀ c, c < K → way t.mask (thash P w k) c ∈ t.place.toList) {Q : SetFound → Shared → Prop}
    (found : k ∈ L.map (·.2) → Q (.there none) s) (free : k ∉ L.map (·.2) → Q (.free (way t.mask (thash P w k) K) false) s) :
    ∀ (f c : Nat) (stand : Option SetTable.Probe), stand.getD (t.probeStart (thash P w k)) = nth t.mask (base t (thash P w k)) c → c ≤ K → K < f + c →
      (∀ (i : Nat) p c', L[i]? = some p → p.2 = k → c' < c → t.place.toList[i]? ≠ some (way t.mask (thash P w k) c')) →
      wpAny (model P w) A (setSearchFrom a (.ref x) (thash P w k) true f stand) Q E s := by
  intro f
  induction f with
  | zero => intro c stand _ h1 h2; exact absurd h2 (by omega)
  | succ f ih =>
    intro c stand here hc hf past
    obtain ⟨o, ho, ex, hd⟩ := R.obj
    have size := rows_size R.rows
    have steps : ∀ q, nth t.mask (nth t.mask (base t (thash P w k)) c) q = nth t.mask (base t (thash P w k)) (c + q) := fun q => (nth_add t.mask c _ q).symm
    have hashOf : ∀ {i : Nat} {p : Addr × List Int}, L[i]? = some p → (es[i]?.map (·.1)).getD 0 = thash P w p.2 := fun hp => by rw [R.entry hp] <;> rfl
    have spec := go_spec t R.tab.ris R.tab.dm (fun i => (es[i]?.map (·.1)).getD 0) (thash P w k) (10 * SetTable.turns t.mask) (K - c) (nth t.mask (base t (thash P w k)) c) (no_dummy _ c _ rfl) (by omega)
      (fun q hq => by rw [steps]; exact occ (c + q) (by omega)) (by rw [steps, Nat.add_sub_cancel' hc]; exact no)
    rw [setSearchFrom_succ]
    refine wpAny_bind (wpAny_setState_of ho hd R.fit ?_)
    dsimp only
    refine wp_if_neg R.odd ?_
    try refine wpAny_bind (wpAny_pure ?_)
    rw [here]
    rcases spec with ⟨q, i, hq, hi, hh, skipped, met⟩ | ⟨skipped, met⟩
    · rw [steps] at hi met
      rw [steps] at met
      have met : t.probe (fun i => (es[i]?.map (·.1)).getD 0) (thash P w k) (nth t.mask (base t (thash P w k)) c) = some (.candidate (way t.mask (thash P w k) (c + q)) i (nth t.mask (base t (thash P w k)) (c + (q + 1)))) := met
      rw [met]
      dsimp only
      have lt : i < L.length := by
        have z := (List.getElem?_eq_some_iff.mp hi).1
        rw [R.tab.len, List.length_map] at z
        exact z
      have hp := List.getElem?_eq_getElem lt
      generalize L[i] = p at hp
      have hm := List.mem_of_getElem? hp
      have live : t.slot (way t.mask (thash P w k) (c + q)) = .live i := slot_live R.tab.ris hi
      have rest : wpAny (model P w) A (searchRest a (.ref x) (thash P w k) true f es t (way t.mask (thash P w k) (c + q)) i (nth t.mask (base t (thash P w k)) (c + (q + 1)))) Q E s := by
        unfold searchRest
        rw [R.entry hp]
        dsimp only
        refine wpAny_bind (wpAny_holding (wpAny_eqBool_tuple hu (R.tup p hm) hx ?_))
        refine wpAny_bind (wpAny_setState_of ho hd R.fit ?_)
        dsimp only
        by_cases same : p.2 = k
        · refine wp_if_pos (by rw [same]; simp) ?_
          exact wpAny_pure (found (List.mem_map.mpr ⟨p, hm, same⟩))
        · refine wp_if_neg (by simp [same]) ?_
          try refine wpAny_bind (wpAny_pure ?_)
          rw [L2.sameMem]
          dsimp only
          simp only [if_true, live, R.entry hp]
          refine wpAny_bind (wpAny_isSame_ref_self (wpAny_bind (wpAny_pure ?_)))
          simp only [if_true]
          refine wp_if_neg (by simp [same]) ?_
          refine ih (c + (q + 1)) _ rfl (by omega) (by omega) fun i0 p0 c' h0 hk lt' at' => ?_
          rcases Nat.lt_or_ge c' c with z | z
          · exact past i0 p0 c' h0 hk z at'
          · rcases Nat.lt_or_ge c' (c + q) with y | y
            · refine skipped (c' - c) i0 (by omega) (by rw [steps, Nat.add_sub_cancel' z]; exact at') ?_
              exact (hashOf h0).trans (congrArg (thash P w) hk)
            · have e : c' = c + q := by omega
              rw [e] at at'
              have l0 := slot_live R.tab.ris at'
              rw [live] at l0
              injection l0 with l0
              rw [← l0, hp] at h0
              exact same ((congrArg Prod.snd (Option.some.inj h0)).trans hk)
      by_cases hl : t.led = true
      · refine wp_if_neg (by simp [hl]) ?_
        try refine wpAny_bind (wpAny_pure ?_)
        exact rest
      · refine wp_if_pos (by simp [hl]) ?_
        refine wpAny_bind (seen_tup hx (fun y hy => ?_) ?_)
        · obtain ⟨e, he, rfl⟩ := List.mem_map.mp hy
          have he : e ∈ es.toList := by
            have z : e ∈ es ∧ e.1 = thash P w k := by simpa using he
            simpa using z.1
          rw [R.rows] at he
          obtain ⟨p2, hp2, rfl⟩ := List.mem_map.mp he
          exact ⟨p2.2, p2.1, rfl, R.tup p2 hp2⟩
        · refine wp_if_neg (by decide) ?_
          try refine wpAny_bind (wpAny_pure ?_)
          exact rest
    · rw [steps, Nat.add_sub_cancel' hc] at met
      have met : t.probe (fun i => (es[i]?.map (·.1)).getD 0) (thash P w k) (nth t.mask (base t (thash P w k)) c) = some (.empty (way t.mask (thash P w k) K) none) := met
      rw [met]
      dsimp only
      refine wpAny_pure (free fun hm => ?_)
      obtain ⟨p0, h0, hk⟩ := List.mem_map.mp hm
      obtain ⟨i0, h0⟩ := List.getElem?_of_mem h0
      obtain ⟨c', lt', at'⟩ := R.tab.before (h := thash P w k) (i := i0) no (by rw [List.getElem?_map, h0, ← hk] <;> rfl)
      rcases Nat.lt_or_ge c' c with z | z
      · exact past i0 p0 c' h0 hk z at'
      · refine skipped (c' - c) i0 (by omega) (by rw [steps, Nat.add_sub_cancel' z]; exact at') ?_
        exact (hashOf h0).trans (congrArg (thash P w) hk)
/-- the search that adding asks for -/
theorem search_all (R : Holds P w s.heap a L es ep t) {x : Addr} {k : List Int} (hx : IsT P w s.heap k x) (hu : A.units < cLine) {Q : SetFound → Shared → Prop}
    (found : k ∈ L.map (·.2) → Q (.there none) s)
    (free : ∀ K, k ∉ L.map (·.2) → way t.mask (thash P w k) K ∉ t.place.toList → (∀ c, c < K → way t.mask (thash P w k) c ∈ t.place.toList) → Q (.free (way t.mask (thash P w k) K) false) s) :
    wpAny (model P w) A (setSearch a (.ref x) (thash P w k) true) Q E s := by
  have room := R.room
  obtain ⟨K, bound, no, occ⟩ := R.tab.free (by rw [List.length_map]; omega) (thash P w k)
  have most := R.tab.big.le
  have turns : SetTable.turns t.mask = t.mask + 15 := rfl
  unfold setSearch
  exact search_on R hx hu bound no occ found (fun n => free K n no occ) 100000 0 none rfl (Nat.zero_le _) (by omega) fun i p c' _ _ z => absurd z (Nat.not_lt_zero _)

theorem up5 : SetTable.sizeAbove (SetTable.grown 5) = 31 + 1 := by decide +kernel
theorem up19 : SetTable.sizeAbove (SetTable.grown 19) = 127 + 1 := by decide +kernel
theorem up77 : SetTable.sizeAbove (SetTable.grown 77) = 511 + 1 := by decide +kernel
theorem up307 : SetTable.sizeAbove (SetTable.grown 307) = 2047 + 1 := by decide +kernel
/-- the size that comes when a table is too full -/
theorem Big.grows {m n : Nat} (hm : Big m) (room : n * 5 < m * 3) (full : (n + 1) * 5 ≥ m * 3) (few : n + 1 < 1200) :
    n + 1 ≤ m ∧ ∃ M, Big M ∧ SetTable.sizeAbove (SetTable.grown (n + 1)) = M + 1 ∧ (n + 1) * 5 < M * 3 := by
  rcases hm with e | e | e | e | e
  · have z : n = 4 := by omega
    subst z
    exact ⟨by omega, 31, .inr (.inl rfl), up5, by omega⟩
  · have z : n = 18 := by omega
    subst z
    exact ⟨by omega, 127, .inr (.inr (.inl rfl)), up19, by omega⟩
  · have z : n = 76 := by omega
    subst z
    exact ⟨by omega, 511, .inr (.inr (.inr (.inl rfl))), up77, by omega⟩
  · have z : n = 306 := by omega
    subst z
    exact ⟨by omega, 2047, .inr (.inr (.inr (.inr rfl))), up307, by omega⟩
  · omega
/-- laid anew, in a table with room -/
theorem relay_big {o : Obj} (ho : s.heap.get? a = some o) (ex : o.ExactSet) (hd : o.data = .set es ep t) (rows : es.toList = rowsOf P w L) (T : Tab t (hashes P w L)) (full : L.length ≤ t.mask)
    (nd : (L.map (·.2)).Nodup) (tup : ∀ p ∈ L, IsT P w s.heap p.2 p.1) (pl : t.plain = true) (ld : w.params.followText "set-order" = true ∨ t.led = true) {wanted M : Nat}
    (hM : Big M) (hw : SetTable.sizeAbove wanted = M + 1) (room : L.length * 5 < M * 3) {Q : Unit → Shared → Prop}
    (q : ∀ h' L' es' ep' t', Heap.SameBut a s.heap h' → Holds P w h' a L' es' ep' t' → L'.Perm L → Q () { s with heap := h' }) : wpAny (model P w) A (setRelay a wanted) Q E s := by
  have size := rows_size rows
  have most := hM.le
  obtain ⟨t', order, e, pm, T', em, el, ep'⟩ := hM.again t (hs := es.map (·.1)) (wanted := wanted) (by omega) (by rw [Array.size_map]; omega)
  rw [Array.size_map, size] at pm
  obtain ⟨L', r1, r2, r3⟩ := order_rows L es order rows pm
  rw [← r3] at T'
  have size' : (order.filterMap (es[·]?)).size = es.size := by rw [rows_size r1, r2.length_eq, size]
  rw [setRelay_eq]
  refine wpAny_bind (wpAny_setState_of ho hd (fits_of T (by rw [size, List.length_map]) (by omega)) ?_)
  dsimp only
  refine wp_if_neg (by rw [sizeLine_eq]; omega) ?_
  try refine wpAny_bind (wpAny_pure ?_)
  rw [e]
  dsimp only
  refine wpAny_bind ?_
  refine wp_if_neg (by rw [size']; simp) ?_
  try refine wpAny_bind (wpAny_pure ?_)
  refine wpAny_pure ?_
  dsimp only
  refine wpAny_storeSet_of ho hd ?_ (by rw [size', size, sizeLine_eq]; omega)
  have but : Heap.SameBut a s.heap (s.heap.update a (Obj.putSet (order.filterMap (es[·]?)) t')) := Heap.SameBut.update ..
  refine q _ L' _ (ep + 1) t' but ⟨⟨_, store_at ho hd, ⟨ex.1, ex.2.1, ex.2.2⟩, rfl⟩, r1, T', (r2.map (·.2)).nodup_iff.mpr nd, fun p hp => isT_same (tup p (r2.mem_iff.mp hp)) ho hd but, by rw [ep']; exact pl, by rw [el]; exact ld, ?_⟩ r2
  rw [r2.length_eq, em]
  exact room
/-- one is added, or stands there -/
theorem add_big (R : Holds P w s.heap a L es ep t) {x : Addr} {k : List Int} (hx : IsT P w s.heap k x) (hu : A.units < cLine) (few : L.length + 1 < 1200) {Q : Bool → Shared → Prop}
    (q : ∀ b h' L' es' ep' t', Heap.SameBut a s.heap h' → Holds P w h' a L' es' ep' t' → (k ∈ L.map (·.2) → L' = L) → (k ∉ L.map (·.2) → L'.Perm ((x, k) :: L)) → Q b { s with heap := h' }) :
    wpAny (model P w) A (setAddHashed a (.ref x) (thash P w k)) Q E s := by
  obtain ⟨o, ho, ex, hd⟩ := R.obj
  have size := rows_size R.rows
  have room := R.room
  unfold setAddHashed
  refine wpAny_holding ?_
  rw [show (100000 : Nat) = 99999 + 1 from rfl, setAddHashedIn_succ]
  refine wpAny_bind (wpAny_setState_of ho hd R.fit ?_)
  dsimp only
  refine wp_if_neg (by simp [byScan, Value.scannable]) ?_
  try refine wpAny_bind (wpAny_pure ?_)
  refine wpAny_bind (search_all R hx hu (fun hm => wpAny_pure (q false s.heap L es ep t (Heap.SameBut.refl a s.heap) R (fun _ => rfl) fun z => absurd hm z)) fun K hm no occ => ?_)
  dsimp only
  refine wpAny_bind (wpAny_setState_of ho hd R.fit ?_)
  dsimp only
  obtain ⟨p, hp⟩ : ∃ p, SetTable.below t.place (way t.mask (thash P w k) K) = p := ⟨_, rfl⟩
  obtain ⟨le, T⟩ := R.tab.put no occ hp
  have fill : (t.put (way t.mask (thash P w k) K)).1.fill = L.length + 1 := by
    have z := T.num
    rw [put_fill R.tab, z, len_ins _ le, List.length_map]
  have pos : (t.put (way t.mask (thash P w k) K)).2 = p := hp
  have pl : (t.put (way t.mask (thash P w k) K)).1.plain = true := R.plain
  have ld : w.params.followText "set-order" = true ∨ (t.put (way t.mask (thash P w k) K)).1.led = true := R.led
  have mk : (t.put (way t.mask (thash P w k) K)).1.mask = t.mask := rfl
  generalize t.put (way t.mask (thash P w k) K) = pt at T fill pos pl ld mk ⊢
  obtain ⟨t1, p1⟩ := pt
  dsimp only at T fill pos pl ld mk ⊢
  subst pos
  first
    | (refine wpAny_bind ?_; refine wp_if_pos pl ?_; refine hashBy_tup hx ?_)
    | refine wp_if_pos pl (wpAny_bind (hashBy_tup hx ?_))
  simp only [if_true]
  have rows1 : (SetTable.insertAt es p1 (thash P w k, Value.ref x)).toList = rowsOf P w (L.take p1 ++ (x, k) :: L.drop p1) := by
    rw [SetTable.toList_insertAt, rows_put, R.rows]
  have pm := put_perm L p1 (x, k)
  have T1 : Tab t1 (hashes P w (L.take p1 ++ (x, k) :: L.drop p1)) := by
    rw [show hashes P w (L.take p1 ++ (x, k) :: L.drop p1) = (hashes P w L).take p1 ++ thash P w k :: (hashes P w L).drop p1 by
      unfold hashes
      rw [List.map_append, List.map_cons, List.map_take, List.map_drop]]
    exact T
  generalize SetTable.insertAt es p1 (thash P w k, Value.ref x) = es1 at rows1 ⊢
  generalize L.take p1 ++ (x, k) :: L.drop p1 = L1 at pm rows1 T1
  have n1 : L1.length = L.length + 1 := pm.length_eq
  have size1 := rows_size rows1
  have nd1 : (L1.map (·.2)).Nodup := (pm.map (·.2)).nodup_iff.mpr (List.nodup_cons.mpr ⟨hm, R.nd⟩)
  refine wpAny_bind (wpAny_storeSet_of ho hd ?_ (by rw [size1, n1, sizeLine_eq]; omega))
  have but : Heap.SameBut a s.heap (s.heap.update a (Obj.putSet es1 t1)) := Heap.SameBut.update ..
  have ho1 := store_at (es' := es1) (t' := t1) ho hd
  generalize s.heap.update a (Obj.putSet es1 t1) = h1 at but ho1 ⊢
  have tup1 : ∀ p ∈ L1, IsT P w h1 p.2 p.1 := fun p hp => by
    rcases List.mem_cons.mp (pm.mem_iff.mp hp) with e | hp
    · rw [e]; exact isT_same hx ho hd but
    · exact isT_same (R.tup p hp) ho hd but
  have too : t1.tooFull = decide ((L.length + 1) * 5 ≥ t.mask * 3) := by
    show decide (t1.fill * 5 ≥ t1.mask * 3) = _
    rw [fill, mk]
  by_cases full : (L.length + 1) * 5 ≥ t.mask * 3
  · have hf : t1.tooFull = true := by rw [too]; exact decide_eq_true full
    obtain ⟨g1, M, g2, g3, g4⟩ := R.tab.big.grows room full few
    first
      | (refine wpAny_bind ?_; refine wp_if_pos (by simp [hf]) ?_)
      | (refine wp_if_pos (by simp [hf]) ?_; refine wpAny_bind ?_)
    rw [size]
    refine relay_big (s := { s with heap := h1 }) ho1 ⟨ex.1, ex.2.1, ex.2.2⟩ rfl rows1 T1 (by rw [n1, mk]; exact g1) nd1 tup1 pl ld g2 g3 (by rw [n1]; exact g4) fun h2 L2 es2 ep2 t2 but2 R2 pm2 => ?_
    exact wpAny_pure (q true h2 L2 es2 ep2 t2 (but.trans but2) R2 (fun z => absurd z hm) fun _ => pm2.trans pm)
  · have hf : t1.tooFull = false := by rw [too]; exact decide_eq_false full
    first
      | refine wp_if_neg (by simp [hf]) ?_
      | (refine wpAny_bind ?_; refine wp_if_neg (by simp [hf]) ?_; refine wpAny_pure ?_)
    refine wpAny_pure (q true h1 L1 es1 (ep + 1) t1 but ⟨⟨_, ho1, ⟨ex.1, ex.2.1, ex.2.2⟩, rfl⟩, rows1, T1, nd1, tup1, pl, ld, ?_⟩ (fun z => absurd z hm) fun _ => pm)
    rw [n1, mk]
    omega
end
end BT

end
section
set_option Elab.async false
set_option linter.all false
set_option maxRecDepth 100000
/-! set(list of tuples) and sorted(set of pairs), of up to 1199 -/
namespace BT
open PySem PySem.Spec PyProof.Rows L2
section
variable {P : Program} {w : World} {A : Around} {E : Value → Shared → Prop} {s : Shared}
theorem Holds.moved {h h' : Heap} {a : Addr} {L : List (Addr × List Int)} {es : Array (Int × Value)} {ep : Nat} {t : SetTable} (R : Holds P w h a L es ep t) (ha : ∀ o, h.get? a = some o → h'.get? a = some o) (ht : ∀ p ∈ L, IsT P w h' p.2 p.1) : Holds P w h' a L es ep t := by
  obtain ⟨o, ho, r⟩ := R.obj
  exact { R with obj := ⟨o, ha o ho, r⟩, tup := ht }
/-- the set S has got the first i tuples -/
def Fed (P : Program) (w : World) (ks : List (Addr × List Int)) (S : Addr) (i : Nat) (h : Heap) : Prop := ∃ L es ep t, Holds P w h S L es ep t ∧ Got ks i L
abbrev setObj (w : World) : Obj := { cls := .type "set", dict := none, data := .set #[] 0 (.fresh 0 0 (!w.params.followText "set-order")) }
theorem Fed.start (ks : List (Addr × List Int)) {h : Heap} {S : Addr} (ho : h.get? S = some (setObj w)) : Fed P w ks S 0 h := by
  refine ⟨[], #[], 0, .fresh 0 0 (!w.params.followText "set-order"), ⟨⟨_, ho, ⟨rfl, rfl, rfl⟩, rfl⟩, rfl, Tab.empty rfl rfl rfl, List.nodup_nil, (fun p hp => (nomatch hp)), rfl, ?_, (by show 0 * 5 < 7 * 3; decide)⟩, Got.zero ks⟩
  show w.params.followText "set-order" = true ∨ (!w.params.followText "set-order") = true
  cases w.params.followText "set-order" <;> simp
theorem Got.mem {ks L : List (Addr × List Int)} {i : Nat} (g : Got ks i L) : ∀ p ∈ L, p ∈ ks := fun p hp => List.mem_of_mem_take (g.sub p hp)
theorem Fed.kept {ks : List (Addr × List Int)} {S : Addr} {i : Nat} {h h' : Heap} (f : Fed P w ks S i h) (ha : ∀ o, h.get? S = some o → h'.get? S = some o) (ht : ∀ p ∈ ks, IsT P w h' p.2 p.1) : Fed P w ks S i h' := by
  obtain ⟨L, es, ep, t, R, g⟩ := f
  exact ⟨L, es, ep, t, R.moved ha fun p hp => ht p (Got.mem g p hp), g⟩
/-- one step: the tuple at place i is added -/
theorem Fed.add {ks : List (Addr × List Int)} {S : Addr} {i : Nat} {p : Addr × List Int} (f : Fed P w ks S i s.heap) (hp : ks[i]? = some p) (hx : IsT P w s.heap p.2 p.1) (hu : A.units < cLine) (few : ks.length < 1200) {Q : Bool → Shared → Prop}
    (q : ∀ b h', Heap.SameBut S s.heap h' → Fed P w ks S (i + 1) h' → Q b { s with heap := h' }) : wpAny (model P w) A (setAddHashed S (.ref p.1) (thash P w p.2)) Q E s := by
  obtain ⟨L, es, ep, t, R, g⟩ := f
  have lt := (List.getElem?_eq_some_iff.mp hp).1
  have len := g.len
  refine add_big R hx hu (by omega) fun b h' L' es' ep' t' but R' old new => q b h' but ⟨L', es', ep', t', R', ?_⟩
  by_cases c : p.2 ∈ L.map (·.2)
  · rw [old c]; exact g.same hp c
  · exact g.more hp (new c)
/-- the update's loop, from place i on -/
theorem fed_loop {I : Addr} {fp wr : List Addr} {G : Array GenState → Array GenState → Prop} {n : Nat} {Pv : Nat → Value → Prop} {St : Nat → Shared → Prop} {R : Result → Shared → Prop}
    (W : WalksS P w A.in1 I fp wr G n Pv St) (S : Addr) (out : S ∉ fp) (ks : List (Addr × List Int)) (hn : n = ks.length) (few : ks.length < 1200) (val : ∀ i v, Pv i v → ∃ p, ks[i]? = some p ∧ v = .ref p.1)
    (h0 : Heap) (tups : ∀ p ∈ ks, IsT P w h0 p.2 p.1) (newS : h0.get? S = none) (newW : ∀ b ∈ wr, h0.get? b = none) (hu : A.in1.units < cLine) :
    ∀ (left i : Nat) (s : Shared), i + left = n → St i s → (∀ b o, h0.get? b = some o → s.heap.get? b = some o) → Fed P w ks S i s.heap →
      (∀ s', Moved (S :: wr) G s s' → Fed P w ks S n s'.heap → (∀ b o, h0.get? b = some o → s'.heap.get? b = some o) → R (.ok (.ret .none)) s') →
      codeAny (model P w) A (.builtin "set.update.loop" ⟨[.ref S, .ref I], []⟩) R s := by
  have outW : S ∉ wr := fun h => out (W.sub _ h)
  have wider : ∀ b ∈ wr, b ∈ S :: wr := fun b hb => List.mem_cons_of_mem _ hb
  have keepM : ∀ {s s' : Shared}, Moved wr G s s' → (∀ b o, h0.get? b = some o → s.heap.get? b = some o) → ∀ b o, h0.get? b = some o → s'.heap.get? b = some o :=
    fun mv k b o e => mv.heap b o (fun hb => by have z := newW b hb; rw [e] at z; cases z) (k b o e)
  have tupK : ∀ {h' : Heap}, (∀ b o, h0.get? b = some o → h'.get? b = some o) → ∀ p ∈ ks, IsT P w h' p.2 p.1 := fun k p hp => isT_keep (tups p hp) k
  intro left
  induction left with
  | zero =>
    intro i s e st k f R'
    have e : i = n := e
    subst e
    refine codeAny_builtin F.entry_set_update_loop ?_
    rw [Around.under_plainId F.plain_set_update_loop _]
    show wpAny _ A.in1 (pyNext (.ref I) >>= _) _ _ s
    refine wpAny_bind (W.done s _ _ st fun s' mv => ?_)
    show wpAny _ A.in1 (ret Value.none) _ _ s'
    exact wpAny_pure (R' s' (mv.mono wider) (f.kept (fun o e => mv.heap S o outW e) (tupK (keepM mv k))) (keepM mv k))
  | succ left ih =>
    intro i s e st k f R'
    refine codeAny_builtin F.entry_set_update_loop ?_
    rw [Around.under_plainId F.plain_set_update_loop _]
    show wpAny _ A.in1 (pyNext (.ref I) >>= _) _ _ s
    refine wpAny_bind (W.item i s _ _ (by omega) st fun v s' pv st' mv => ?_)
    obtain ⟨p, hp, rfl⟩ := val i v pv
    have k' := keepM mv k
    have hx : IsT P w s'.heap p.2 p.1 := tupK k' p (List.mem_of_getElem? hp)
    have f' := f.kept (fun o e => mv.heap S o outW e) (tupK k')
    show wpAny _ A.in1 (holding [Value.ref p.1] (setAdd S (.ref p.1)) >>= _) _ _ s'
    refine wpAny_bind (wpAny_holding ?_)
    unfold setAdd
    refine wpAny_holding (wpAny_bind (wpAny_pyHash_tuple hu hx ?_))
    refine Fed.add (s := { s' with toks := s'.toks + (p.2.length + 1) }) f' hp hx hu few fun b h' but f2 => ?_
    have k2 : ∀ b o, h0.get? b = some o → h'.get? b = some o := fun b o e => (but.2 b fun z => by rw [z, newS] at e; cases e).trans (k' b o e)
    refine wpAny_pure ⟨plainId_quiet F.plain_set_update_loop _, ih (i + 1) _ (by omega) (W.frame _ s' _ _ st' (Nat.le_add_right _ _) fun b hb o e => ?_) k2 f2 fun s'' mv2 f3 k3 => R' s'' (Moved.trans W.gtrans ((mv.mono wider).then_heap (Nat.le_add_right _ _) fun b o hb e => ?_) mv2) f3 k3⟩
    · exact (but.2 b fun z : b = S => out (z ▸ hb)).trans e
    · exact (but.2 b fun z : b = S => hb (z ▸ List.mem_cons_self)).trans e
set_option maxHeartbeats 3200000 in
/-- set(xs) of a list of tuples of ints -/
theorem set_of_tups {l : Addr} {items : Array Value} (ks : List (Addr × List Int)) {Q : Value → Shared → Prop} (hh : A.handled = none) (hl : s.heap.IsList l items) (hit : items.toList = ks.map fun p => Value.ref p.1)
    (tups : ∀ p ∈ ks, IsT P w s.heap p.2 p.1) (few : ks.length < 1200) (hu : A.units + 3 < cLine)
    (q : ∀ (h' : Heap) (tk : Nat), Fed P w ks s.heap.objs.size ks.length h' → (∀ b o, s.heap.get? b = some o → h'.get? b = some o) → Q (.ref s.heap.objs.size) { s with heap := h', toks := tk }) :
    wpAny (model P w) A (call (.type "set") [.ref l]) Q E s := by
  have num : items.size = ks.length := by
    have z := congrArg List.length hit
    rw [List.length_map] at z
    exact z
  obtain ⟨c, tl, hmro⟩ := F.called_set.mro
  have hmade := F.called_set.made
  have hsub := F.called_set.sub
  refine wpAny_call (codeAny_of_tree ?_)
  show wpAny _ _ (callAny (.type "set") _) _ _ _
  refine wpAny_pure ⟨Code.quiet_builtin _ (by decide +kernel), codeAny_builtin F.entry_type_call ?_⟩
  rw [Around.under_plain (weight_type_call_type "set" [.ref l] []) rfl]
  have h1 := F.called_set.notType
  have h2 := F.called_set.canCreate
  have hct := F.typeCall_set_1 (.ref l)
  repeat (any_goals (first | assumption | wp_step))
  refine codeAny_mono (code_set_led1 (.ref l) (E := E) (Q₁ := fun obj s₁ => obj = .ref s.heap.objs.size ∧ s₁ = { s with heap := s.heap.push (setObj w) }) ⟨rfl, rfl⟩) fun r s₁ hr => ?_
  match r, hr with
  | .error e, hr => exact hr
  | .ok (.ret obj), hr =>
    obtain ⟨rfl, rfl⟩ := hr
    have hS : (s.heap.push (setObj w)).get? s.heap.objs.size = some (setObj w) := Heap.get?_push_size _ rfl
    have hT : Shared.TypeIs { s with heap := s.heap.push (setObj w) } (.ref s.heap.objs.size) "set" := ⟨_, hS, rfl⟩
    have hli := F.called_set.init.lookup
    have hbi := F.called_set.init.bind (.ref s.heap.objs.size)
    repeat (any_goals (first | assumption | wp_step))
    refine codeAny_mono (codeAny_call_builtin (R := wants (fun r s₂ => r = .none ∧ ∃ h' tk, s₂ = { s with heap := h', toks := tk } ∧ Fed P w ks s.heap.objs.size ks.length h' ∧ ∀ b o, s.heap.get? b = some o → h'.get? b = some o) E) F.called_set.init.plain F.entry_set_init (check_set_init_1 hT ?_)) fun r₂ s₂ hr₂ => ?_
    · obtain ⟨ol, hol, hcl, nl, hdl⟩ := hl
      obtain ⟨ocls, odict, odata, oslots⟩ := ol
      simp only at hcl hdl
      subst hcl; subst hdl
      have hol' : (s.heap.push (setObj w)).get? l = some { cls := .type "list", dict := odict, data := .seq items nl, slots := oslots } := Heap.get?_push_of_some _ hol
      have hsls := F.sub_list_set
      have hslf := F.sub_list_frozenset
      have hne : (Value.type "list" == Value.type "dict") = false := by decide
      have hl1 : (s.heap.push (setObj w)).IsList l items := ⟨_, hol', rfl, nl, rfl⟩
      unfold Builtin.«set.__init__» noKeywords Builtin.Frozenset.updateFrom
      generalize hPI : pyIter = PI
      wp_walk
      subst hPI
      refine wpAny_pyIter_list hl1 ?_
      refine wpAny_bind (wpAny_runValue ?_)
      have lS : l < s.heap.objs.size := Heap.lt_size hol
      have hh3 : A.in1.in1.in1.handled = none := by simp [hh]
      have lI : l ≠ (s.heap.push (setObj w)).objs.size := by
        rw [Heap.size_push]; exact Nat.ne_of_lt (Nat.lt_succ_of_lt lS)
      have out : s.heap.objs.size ∉ [(s.heap.push (setObj w)).objs.size, l] := by
        rw [Heap.size_push]; simp only [List.mem_cons, List.not_mem_nil, or_false, not_or]
        exact ⟨Nat.ne_of_lt (Nat.lt_succ_self _), Nat.ne_of_gt lS⟩
      have val : ∀ (i : Nat) (v : Value), items[i]? = some v → ∃ p, ks[i]? = some p ∧ v = .ref p.1 := fun i v hv => by
        rw [← Array.getElem?_toList, hit, List.getElem?_map] at hv
        obtain ⟨p, h, e⟩ := Option.map_eq_some_iff.mp hv
        exact ⟨p, h, e.symm⟩
      have fresh : ∀ b, s.heap.objs.size ≤ b → s.heap.get? b = none := fun b hb => by
        cases z : s.heap.get? b with
        | none => rfl
        | some o => exact absurd (Heap.lt_size z) (Nat.not_lt.mpr hb)
      refine fed_loop ((Walks.list hh3 _ l lI items).toS) s.heap.objs.size out ks num few val s.heap tups (fresh _ (Nat.le_refl _)) (fun b hb => fresh b ?_) hu items.size 0 _ (Nat.zero_add _)
        ⟨⟨_, Heap.get?_push_size _ rfl, rfl, rfl⟩, (hl1.push _)⟩ (fun b o e => Heap.get?_push_of_some _ (Heap.get?_push_of_some _ e)) (Fed.start ks (Heap.get?_push_of_some _ hS)) fun s' mv f k => ?_
      · rw [List.mem_singleton.mp hb, Heap.size_push]
        exact Nat.le_succ _
      · obtain ⟨h', g', d', tk', os'⟩ := s'
        obtain rfl : g' = s.gens := mv.gens
        obtain rfl : d' = s.drawn := mv.drawn
        obtain rfl : os' = s.os := mv.os
        show wpAny _ _ _ _ _ _
        refine wpAny_pure ?_
        show wpAny _ _ (ret Value.none) _ _ _
        rw [num] at f
        exact wpAny_pure ⟨rfl, h', tk', rfl, f, k⟩
    · match r₂, hr₂ with
      | .error e, hr₂ => exact hr₂
      | .ok (.ret r), hr₂ =>
        obtain ⟨rfl, h', tk, rfl, f, k⟩ := hr₂
        repeat (any_goals (first | assumption | wp_step))
        exact q _ _ f k
end
end BT

end
section
set_option Elab.async false
set_option linter.all false
set_option maxRecDepth 100000
/-! sorted(set of pairs), of up to 1199 -/
namespace BT
open PySem PySem.Spec PyProof.Rows L2
def prOf (k : List Int) : Int × Int := (k.getD 0 0, k.getD 1 0)
/-- a tuple's address, its ints -/
def rowOf (h : Heap) (v : Value) : Addr × List Int := match v with
  | .ref b => (b, TS.intsOf h v)
  | _ => (0, [])
section
variable {P : Program} {w : World} {A : Around} {E : Value → Shared → Prop} {s : Shared}
theorem two_ints {h : Heap} {b : Addr} {x y : Int} (i : IsT P w h [x, y] b) : Srt.IsPair h (.ref b) x y := by
  obtain ⟨o, items, n, ho, hc, hd, hi⟩ := i
  obtain ⟨vs⟩ := items
  have hi : ItemsAre (intKind P w) [x, y] vs := hi
  match vs, hi with
  | [_, _], .cons h1 (.cons h2 .nil) =>
    obtain ⟨t, rfl⟩ := Value.isInt_shape h1
    obtain ⟨u, rfl⟩ := Value.isInt_shape h2
    exact ⟨b, o, t, u, n, rfl, ho, hc, hd⟩
theorem sorted_big {a : Addr} {L : List (Addr × List Int)} {es : Array (Int × Value)} {ep : Nat} {t : SetTable} {Q : Value → Shared → Prop} (R : Holds P w s.heap a L es ep t) (hh : A.handled = none) (few : L.length < 1200)
    (two : ∀ p ∈ L, ∃ x y, p.2 = [x, y])
    (q : ∀ (s' : Shared) (d : Addr) (c : Nat) (M : List (Addr × List Int)), (∀ b o, s.heap.get? b = some o → s'.heap.get? b = some o) → s'.gens = s.gens → s'.os = s.os → s.heap.objs.size ≤ d →
      s'.heap.get? d = some (seqObj "list" (M.map fun p => Value.ref p.1).toArray c) → M.Perm L → M.Pairwise (fun p r => SrtO.lexB (prOf r.2) (prOf p.2) = false) → Q (.ref d) s') :
    wpAny (model P w) A (call (.builtin "sorted") [.ref a]) Q E s := by
  obtain ⟨o, ho, ex, hd⟩ := R.obj
  have size := rows_size R.rows
  refine Calls.call_function_entry kind_sorted plain_sorted entry_sorted (args_sorted1 _) ?_
  unfold Builtin.«sorted»
  refine wpAny_bind (m := checkCount "sorted" 1 1 _) (wpAny_pure ?_)
  refine wpAny_bind (collect_set (A := A.in1) hh ⟨o, ho, ex.1, hd⟩ R.fit (by unfold scanBound; omega) R.tab.ris R.led fun s1 vs k1 hz g1 o1 pm => ?_)
  rw [R.rows, show (rowsOf P w L).map (·.2) = L.map fun p => Value.ref p.1 from List.map_map ..] at pm
  have num : vs.length = L.length := by rw [pm.length_eq, List.length_map]
  have line : vs.length ≤ sizeLine := by rw [num, sizeLine_eq]; omega
  refine wpAny_bind (wpAny_newList ?_ line)
  have hoL : (s1.heap.push (seqObj "list" vs.toArray 0)).get? s1.heap.objs.size = some (seqObj "list" vs.toArray 0) := Heap.get?_push_size _ rfl
  have keep : ∀ b u, s.heap.get? b = some u → (s1.heap.push (seqObj "list" vs.toArray 0)).get? b = some u := fun b u e => Heap.get?_push_of_some _ (k1 b u e)
  have row : ∀ p ∈ L, rowOf (s1.heap.push (seqObj "list" vs.toArray 0)) (.ref p.1) = p := fun p hp =>
    Prod.ext rfl (tupInts_of (P := P) (w := w) (isT_keep (R.tup p hp) keep)).ints
  have isRow : ∀ v ∈ vs, ∃ p ∈ L, v = Value.ref p.1 := fun v hv => by
    obtain ⟨p, hp, e⟩ := List.mem_map.mp (pm.mem_iff.mp hv)
    exact ⟨p, hp, e.symm⟩
  generalize hk : (fun v => prOf (rowOf (s1.heap.push (seqObj "list" vs.toArray 0)) v).2) = k
  have kOf : ∀ p ∈ L, k (.ref p.1) = prOf p.2 := fun p hp => by rw [← hk]; exact congrArg (fun r => prOf r.2) (row p hp)
  have pairs : ∀ v ∈ vs, Srt.IsPair (s1.heap.push (seqObj "list" vs.toArray 0)) v (k v).1 (k v).2 := fun v hv => by
    obtain ⟨p, hp, rfl⟩ := isRow v hv
    obtain ⟨x, y, e⟩ := two p hp
    have z := isT_keep (R.tup p hp) keep
    rw [kOf p hp, e]
    rw [e] at z
    exact two_ints z
  refine wpAny_bind (wpAny_holding (wpAny_call_entry slot_list_sort ⟨_, hoL, rfl⟩ entry_list_sort (SrtO.list_sort_ord (s := { s1 with heap := s1.heap.push (seqObj "list" vs.toArray 0) }) (SrtO.swo_lex k) hoL line (fun h2 => SrtO.pairs_sortableO (by omega) pairs fun o e c => ?_) fun out hs hb => ⟨_, rfl, ?_⟩) (args_list_sort _)))
  · have e : some o = some (seqObj "list" vs.toArray 0) := e.symm.trans hoL
    cases e
    exact absurd (Value.type.inj c) (by decide)
  obtain ⟨c, hc⟩ := sortedHeap_at (vs := vs) (out := out.toArray) hoL
  have outRow : ∀ v ∈ out, ∃ p ∈ L, v = Value.ref p.1 := fun v hv => isRow v (hb.perm.mem_iff.mp hv)
  have back : (out.map (rowOf (s1.heap.push (seqObj "list" vs.toArray 0)))).map (fun p => Value.ref p.1) = out := by
    rw [List.map_map]
    refine (List.map_congr_left fun v hv => ?_).trans (List.map_id _)
    obtain ⟨p, hp, rfl⟩ := outRow v hv
    rfl
  refine wpAny_pure ⟨_, rfl, q _ s1.heap.objs.size c (out.map (rowOf (s1.heap.push (seqObj "list" vs.toArray 0)))) (fun b u e => ?_) g1 o1 hz (by rw [back]; exact hc) ?_ ?_⟩
  · show (sortedHeap (s1.heap.push (seqObj "list" vs.toArray 0)) s1.heap.objs.size vs out.toArray).get? b = some u
    have lt := Heap.lt_size (k1 b u e)
    rw [sortedHeap_old (Nat.ne_of_lt lt) (by rw [size_push']; exact Nat.lt_succ_of_lt lt)]
    exact keep b u e
  · have z := (hb.perm.trans pm).map (rowOf (s1.heap.push (seqObj "list" vs.toArray 0)))
    rw [List.map_map] at z
    rw [show L.map ((rowOf (s1.heap.push (seqObj "list" vs.toArray 0))) ∘ fun p => Value.ref p.1) = L from (List.map_congr_left fun p hp => row p hp).trans (List.map_id _)] at z
    exact z
  · refine List.pairwise_map.mpr (hs.imp fun {u v} h => ?_)
    rw [← hk] at h
    exact h
end
end BT

end
section
set_option Elab.async false
set_option linter.all false
set_option maxRecDepth 100000
set_option maxHeartbeats 1000000
/-! sorted(set(a)), a a list of fewer than 1200 pairs of small numbers -/
namespace KX
open PySem PySem.Spec PyProof.Rows L2 Kit
def num (p : Int × Int) : Int := p.1 * 64 + p.2
def ltP (p q : Int × Int) : Prop := num p < num q
theorem sorted_eq : ∀ {l m : List (Int × Int)}, l.Pairwise ltP → m.Pairwise ltP → (∀ p, p ∈ l ↔ p ∈ m) → l = m
  | [], [], _, _, _ => rfl
  | [], b :: m, _, _, h => absurd ((h b).mpr List.mem_cons_self) List.not_mem_nil
  | a :: l, [], _, _, h => absurd ((h a).mp List.mem_cons_self) List.not_mem_nil
  | a :: l, b :: m, hl, hm, h => by
    obtain ⟨al, hl2⟩ := List.pairwise_cons.mp hl
    obtain ⟨bm, hm2⟩ := List.pairwise_cons.mp hm
    have ab : a = b := by
      rcases List.mem_cons.mp ((h a).mp List.mem_cons_self) with e | e
      · exact e
      · rcases List.mem_cons.mp ((h b).mpr List.mem_cons_self) with e2 | e2
        · exact e2.symm
        · have q1 : num b < num a := bm a e
          have q2 : num a < num b := al b e2
          omega
    subst ab
    have tl : ∀ p, p ∈ l ↔ p ∈ m := by
      intro p
      constructor
      · intro hp
        rcases List.mem_cons.mp ((h p).mp (List.mem_cons_of_mem _ hp)) with e | e
        · subst e
          exact absurd (al _ hp) (Int.lt_irrefl _)
        · exact e
      · intro hp
        rcases List.mem_cons.mp ((h p).mpr (List.mem_cons_of_mem _ hp)) with e | e
        · subst e
          exact absurd (bm _ hp) (Int.lt_irrefl _)
        · exact e
    rw [sorted_eq hl2 hm2 tl]
theorem rowT_mem {R : Rel} {x : Nat} {j : Nat} {p : Int × Int} (h : p ∈ rowT R x j) : ∃ y : Nat, y < j ∧ p = ((x : Int), (y : Int)) := by
  unfold rowT at h
  obtain ⟨y, hy, e⟩ := List.mem_map.mp h
  exact ⟨y, List.mem_range.mp (List.mem_filter.mp hy).1, e.symm⟩
theorem rowT_up (R : Rel) (x : Nat) : ∀ j, (rowT R x j).Pairwise ltP
  | 0 => List.Pairwise.nil
  | j + 1 => by
    cases e : R x j with
    | false => rw [rowT_no e]; exact rowT_up R x j
    | true =>
      rw [rowT_yes e]
      refine List.pairwise_append.mpr ⟨rowT_up R x j, List.pairwise_singleton _ _, fun p hp q hq => ?_⟩
      obtain ⟨y, hy, rfl⟩ := rowT_mem hp
      rw [List.mem_singleton] at hq
      subst hq
      show (x : Int) * 64 + (y : Int) < (x : Int) * 64 + (j : Int)
      omega
theorem tiesTo_up {n : Nat} (hn : n ≤ 24) (R : Rel) : ∀ i, (tiesTo n R i).Pairwise ltP
  | 0 => List.Pairwise.nil
  | i + 1 => by
    rw [tiesTo_succ]
    refine List.pairwise_append.mpr ⟨tiesTo_up hn R i, rowT_up R i n, fun p hp q hq => ?_⟩
    unfold tiesTo at hp
    obtain ⟨x, hx, hp⟩ := List.mem_flatMap.mp hp
    have hx2 := List.mem_range.mp hx
    obtain ⟨y, hy, rfl⟩ := rowT_mem hp
    obtain ⟨z, hz, rfl⟩ := rowT_mem hq
    show (x : Int) * 64 + (y : Int) < (i : Int) * 64 + (z : Int)
    omega
def keyOf (p : Int × Int) : List Int := [p.1, p.2]
theorem zip_refs : ∀ {as : List Addr} {ps : List (Int × Int)}, as.length = ps.length → ((as.zip (ps.map keyOf)).map fun p => V.ref p.1) = as.map V.ref
  | [], [], _ => rfl
  | a :: as, p :: ps, h => by
    show V.ref a :: ((as.zip (ps.map keyOf)).map fun p => V.ref p.1) = V.ref a :: _
    rw [zip_refs (as := as) (ps := ps) (by simpa using h)]
  | [], _ :: _, h => by simp at h
  | _ :: _, [], h => by simp at h
/-- sorted(set(a)) -/
def tSortSet (ta : TE) : TE := fun σ H Q => ta σ H fun x H1 => ∃ (l : Addr) (as : List Addr) (ps : List (Int × Int)) (n : Nat), x = .ref l ∧ H1 l = some (.lst (as.map V.ref)) ∧ PrT H1 as ps ∧ as.length < 1200 ∧ n ≤ 24 ∧ (∀ p ∈ ps, Good n p) ∧
  ∀ (p : Addr) (bs : List Addr) (H2 : Hp), Same H1 H2 → H1 p = none → H2 p = some (.lst (bs.map V.ref)) → PrT H2 bs (ties n (relP ps false)) → Q (.ref p) H2
theorem prOf_key (p : Int × Int) : BT.prOf (keyOf p) = p := rfl
theorem in_zip {as : List Addr} {ps : List (Int × Int)} {H : Hp} (pa : PrT H as ps) {e : Addr × List Int} (he : e ∈ as.zip (ps.map keyOf)) : ∃ z ∈ ps, e.2 = keyOf z ∧ H e.1 = some (.tup [.int z.1, .int z.2]) := by
  obtain ⟨i, hi⟩ := List.getElem?_of_mem he
  obtain ⟨e1, e2⟩ := List.getElem?_zip_eq_some.mp hi
  rw [List.getElem?_map] at e2
  obtain ⟨z, hz, e3⟩ := Option.map_eq_some_iff.mp e2
  exact ⟨z, List.mem_of_getElem? hz, e3.symm, pa.2 i e.1 z e1 hz⟩
theorem to_zip {as : List Addr} {ps : List (Int × Int)} (len : as.length = ps.length) {z : Int × Int} (hz : z ∈ ps) : ∃ e ∈ as.zip (ps.map keyOf), e.2 = keyOf z := by
  obtain ⟨i, hi⟩ := List.getElem?_of_mem hz
  have lt : i < as.length := by rw [len]; exact (List.getElem?_eq_some_iff.mp hi).1
  exact ⟨(as[i], keyOf z), List.mem_of_getElem? (i := i) (List.getElem?_zip_eq_some.mpr ⟨List.getElem?_eq_getElem lt, by rw [List.getElem?_map, hi] <;> rfl⟩), rfl⟩
/-- the sorted keys are the links, in order -/
theorem keys_ties {n : Nat} (hn : n ≤ 24) {ps : List (Int × Int)} (gd : ∀ p ∈ ps, Good n p) {M : List (Addr × List Int)} (from_ : ∀ e ∈ M, ∃ z ∈ ps, e.2 = keyOf z) (all : ∀ z ∈ ps, ∃ e ∈ M, e.2 = keyOf z)
    (nd : (M.map (·.2)).Nodup) (pw : M.Pairwise fun p r => SrtO.lexB (BT.prOf r.2) (BT.prOf p.2) = false) : M.map (fun e => BT.prOf e.2) = ties n (relP ps false) := by
  refine sorted_eq ?_ (tiesTo_up hn _ n) fun z => ⟨fun hz => ?_, fun hz => ?_⟩
  · refine List.pairwise_map.mpr ((pw.and (List.pairwise_map.mp nd)).imp_of_mem fun {e f} he hf hef => ?_)
    obtain ⟨z, hz, e1⟩ := from_ e he
    obtain ⟨y, hy, f1⟩ := from_ f hf
    obtain ⟨c1, c2⟩ := hef
    rw [e1, f1] at c1 c2
    rw [e1, f1, prOf_key, prOf_key]
    rw [prOf_key, prOf_key] at c1
    have c1 := SrtO.lexB_no.mp c1
    have ne : ¬ (z.1 = y.1 ∧ z.2 = y.2) := fun c => c2 (by rw [(Prod.ext c.1 c.2 : z = y)])
    obtain ⟨g1, g2, g3, g4, _⟩ := gd z hz
    obtain ⟨k1, k2, k3, k4, _⟩ := gd y hy
    show z.1 * 64 + z.2 < y.1 * 64 + y.2
    omega
  · obtain ⟨e, he, rfl⟩ := List.mem_map.mp hz
    obtain ⟨z, hz, e1⟩ := from_ e he
    rw [e1, prOf_key]
    obtain ⟨g1, g2, g3, g4, _⟩ := gd z hz
    have q : (((z.1.toNat : Nat) : Int), ((z.2.toNat : Nat) : Int)) = z := Prod.ext (by show ((z.1.toNat : Nat) : Int) = z.1; omega) (by show ((z.2.toNat : Nat) : Int) = z.2; omega)
    exact mem_ties.mpr ⟨z.1.toNat, z.2.toNat, by omega, by omega, relP_iff.mpr (.inl (by rw [q]; exact hz)), q.symm⟩
  · obtain ⟨x, y, hx, hy, rr, rfl⟩ := mem_ties.mp hz
    have hm : ((x : Int), (y : Int)) ∈ ps := by
      rcases relP_iff.mp rr with q | q
      · exact q
      · exact absurd q.1 Bool.false_ne_true
    obtain ⟨e, he, e1⟩ := all _ hm
    exact List.mem_map.mpr ⟨e, he, by rw [e1, prOf_key]⟩
theorem pe_sortSet {X : Cx} {a : Expr} {ta : TE} {p p2 q pos : Pos} (hc : X.calm = true) (hu : X.A.units + 64 < cLine) (hg : Gl X "sorted") (hm : X.mg "sorted" = none) (hg2 : Gl X "set") (hm2 : X.mg "set" = none) (ha : PE X a ta)
    (h1 : starEach [.Call (.Name "set" p2) [a] [] q] X.env = (false, eval (.Call (.Name "set" p2) [a] [] q) X.env) :: starEach [] X.env := by rfl) (h2 : starEach [a] X.env = (false, eval a X.env) :: starEach [] X.env := by rfl) :
    PE X (.Call (.Name "sorted" p) [.Call (.Name "set" p2) [a] [] q] [] pos) (tSortSet ta) := by
  refine ⟨fun pins s σ H Q I need => ?_⟩
  refine Call_ (ld_blt I hg hm PyProof.Rows.boot_sorted ?_)
  refine PyProof.Rows.callWith_builtin1 (PyProof.Rows.args_cons ?_ h1) h1 rfl
  refine Call_ (ld_blt I hg2 hm2 PyProof.Rows.boot_set ?_)
  refine PyProof.Rows.callWith_type1 (PyProof.Rows.args_cons (thn (ha.run pins s σ H _ I need) fun v s1 z => PyProof.Rows.args_nil ?_) h2) h2 rfl
  obtain ⟨x, H1, I1, r1, l, as, ps, n, rfl, hl, pa, few, hn, gd, k⟩ := z
  cases r1
  have sq : SqL X.K H1 l (as.map V.ref) := SqL.of hl
  obtain ⟨its, rv, pl, _⟩ := I1.list sq
  have lenz : (as.zip (ps.map keyOf)).length = as.length := by rw [List.length_zip, List.length_map, ← pa.1, Nat.min_self]
  rw [← zip_refs pa.1] at rv
  refine BT.set_of_tups (P := X.prog) (w := X.w) (as.zip (ps.map keyOf)) (I1.ok.hd hc) pl.isList (by simpa using refs_of_vals rv) (fun e he => ?_) (by rw [lenz]; exact few) (by omega) fun h' tk fed keep => ?_
  · obtain ⟨z, _, e1, e2⟩ := in_zip pa he
    refine I1.isT ?_
    rw [e1]
    exact SqT.of e2
  refine PyProof.Rows.args_nil ?_
  obtain ⟨L, es, ep, t, R, g⟩ := fed
  have I2 : Inv X pins σ H1 { s1 with heap := h', toks := tk } := I1.kept keep
  have inL : ∀ e ∈ L, e ∈ as.zip (ps.map keyOf) := BT.Got.mem g
  have len := g.len
  refine BT.sorted_big (s := { s1 with heap := h', toks := tk }) R (I2.ok.hd hc) (by omega) (fun e he => ?_) fun s' d c M kp gs os hd hM pm pw => ?_
  · obtain ⟨z, _, e1, _⟩ := in_zip pa (inL e he)
    exact ⟨z.1, z.2, e1⟩
  have nd : H1 d = none := I2.hok.fresh hd
  have vals : Vals ((M.map (·.1)).map V.ref) (M.map fun e => Value.ref e.1) := by
    rw [List.map_map]
    exact vals_of_refs M
  have line : ((M.map (·.1)).map V.ref).length ≤ sizeLine := by rw [List.length_map, List.length_map, pm.length_eq, sizeLine_eq]; omega
  have J : Inv X pins σ (upd H1 d (.lst ((M.map (·.1)).map V.ref))) s' := I2.call' (ch := []) os (Un.laid kp hd nd) (I2.hok.laid kp hd ⟨line, _, c, vals, hM⟩) (by rw [gs]; exact I2.bare) (fun _ z => nomatch z)
  refine ⟨.ref d, _, J, rfl, k d (M.map (·.1)) _ (Same.new (Same.refl _) nd) nd upd_same ?_⟩
  have inM : ∀ e ∈ M, e ∈ as.zip (ps.map keyOf) := fun e he => inL e (pm.mem_iff.mp he)
  rw [← keys_ties hn gd (M := M) (fun e he => by obtain ⟨z, hz, e1, _⟩ := in_zip pa (inM e he); exact ⟨z, hz, e1⟩) (fun z hz => ?_) ((pm.map (·.2)).nodup_iff.mpr R.nd) pw]
  · refine ⟨by rw [List.length_map, List.length_map], fun i b z e1 e2 => ?_⟩
    rw [List.getElem?_map] at e1 e2
    obtain ⟨e, he, rfl⟩ := Option.map_eq_some_iff.mp e1
    rw [he] at e2
    obtain rfl := Option.some.inj e2
    obtain ⟨z, hz, e3, e4⟩ := in_zip pa (inM e (List.mem_of_getElem? he))
    show _ = some (HO.tup [V.int (BT.prOf e.2).1, V.int (BT.prOf e.2).2])
    rw [e3, prOf_key]
    exact Same.new (Same.refl _) nd _ _ e4
  · obtain ⟨e, he, e1⟩ := to_zip pa.1 hz
    have q := g.all e (by rw [List.take_length]; exact he)
    obtain ⟨f, hf, f1⟩ := List.mem_map.mp q
    exact ⟨f, pm.mem_iff.mpr hf, f1.trans e1⟩
end KX

end
section
set_option Elab.async false
set_option linter.all false
set_option maxRecDepth 100000
set_option maxHeartbeats 1000000
namespace KX
open PySem PySem.Spec PyProof.Rows L2 Kit
/-- a property, by its getter's promise -/
structure PropC (P : Program) (w : World) (K : PySem.W.Frag) (mg : Str → Option Value) (base : Heap) (k : Nat) (C : Addr) (f : Str) (sp : Sp) : Prop where
  ex : ∃ (p g : Addr) (fd : FuncData) (ps : List Str), Cls K C ∧ PropOf K C f p g ∧ FnOk P w K mg base CX0 k g fd ps sp ∧ L2.Binds K fd ps []
/-- a method that may raise -/
structure MetX (P : Program) (w : World) (K : PySem.W.Frag) (mg : Str → Option Value) (base : Heap) (k : Nat) (C : Addr) (m : Str) (sp : Sp) : Prop where
  ex : ∃ (f : Addr) (fd : FuncData) (ps : List Str), Cls K C ∧ Meth K C m f ∧ FnOk P w K mg base (L2N.CX P w) k f fd ps sp ∧ L2.Binds K fd ps []
/-- a class that is made, its __init__ may raise -/
structure MakX (P : Program) (w : World) (K : PySem.W.Frag) (mg : Str → Option Value) (base : Heap) (k : Nat) (x : Str) (C : Addr) (sp : Sp) : Prop where
  ex : ∃ (f : Addr) (fd : FuncData) (ps : List Str), Mk K C f ∧ FnOk P w K mg base (L2N.CX P w) k f fd ps sp ∧ mg x = some (.ref C) ∧ L2.Binds K fd ps []
/-- a classmethod that may raise -/
structure ClmX (P : Program) (w : World) (K : PySem.W.Frag) (mg : Str → Option Value) (base : Heap) (k : Nat) (C : Addr) (m : Str) (sp : Sp) : Prop where
  ex : ∃ (p g : Addr) (fd : FuncData) (ps : List Str) (mc : Value), ClX.CRead K C mc ∧ ClX.CMet K C mc m p g ∧ FnOk P w K mg base (L2N.CX P w) k g fd ps sp ∧ L2.Binds K fd ps []
section
variable {X : Cx} {x f m : Str} {C : Addr} {k j : Nat} {sp : Sp} {E : XK} {e o : Expr} {es : List Expr} {te ta : TE} {t : TA} {p pos apos : Pos}
theorem pe_pr (c : PropC X.prog X.w X.K X.mg X.base k C f sp) (hr : Room j X.A) (hk : k + 1 ≤ j) (he : PE X e te) (hab : attributeBase e f X.env (eval e X.env) = eval e X.env := by rfl) : PE X (.Attribute e f pos) (tProp C sp [] E0 te) := by
  obtain ⟨q, g, fd, ps, cl, hp, F, hb⟩ := c.ex
  exact pe_prop he cl hp F (hr.mono hk) hb .nil (fun _ _ _ _ _ _ _ h => h.elim) hab
theorem pe_mx {pl : Sem Bool} (c : MetX X.prog X.w X.K X.mg X.base k C m sp) (hr : Room j X.A) (hk : k ≤ j) (hx : Passes (L2N.CX X.prog X.w) X E) (he : PE X o ta) (ha : PA X (e :: es) t)
    (hst : starEach (e :: es) X.env = (false, eval e X.env) :: starEach es X.env := by rfl) (hpl : (backTo pos (starEach es X.env)).any (·.1) = false := by rfl)
    (ht : eval (.Call (.Attribute o m apos) (e :: es) [] pos) X.env = (do
      let ov ← eval o X.env
      standAt apos.atName
      let (f, first) ← holding [ov] (getMethod ov m pl)
      callWith pos f first (backTo pos (starEach (e :: es) X.env)) (backToKw pos (keywordEach [] X.env))) := by rfl) : PE X (.Call (.Attribute o m apos) (e :: es) [] pos) (tMeth C m sp [] E ta t) := by
  obtain ⟨g, fd, ps, hc, hm, F, b⟩ := c.ex
  exact pe_meth (pl := pl) he hc hm F (hr.mono hk) b .nil hx ha hst hpl ht
theorem pe_mkX (c : MakX X.prog X.w X.K X.mg X.base k x C sp) (hr : Room j X.A) (hk : k + 1 ≤ j) (hg : Gl X x) (hx : Passes (L2N.CX X.prog X.w) X E) (ha : PA X (e :: es) t)
    (hdb : (x == ("__debug__" : Str)) = false := by decide) (he : starEach (e :: es) X.env = (false, eval e X.env) :: starEach es X.env := by rfl) (hpl : (backTo pos (starEach es X.env)).any (·.1) = false := by rfl) :
    PE X (.Call (.Name x p) (e :: es) [] pos) (tMake C sp [] E t) := by
  obtain ⟨g, fd, ps, M, F, hm, b⟩ := c.ex
  exact pe_make M F (hr.mono hk) hg hm b .nil hx ha hdb he hpl
/-- cls(..): the local name i holds the class -/
def tMakeL (C : Addr) (i : Nat) (sp : Sp) (E : XK) (t : TA) : TE := fun σ H Q => σ[i]? = some (some (.ref C)) ∧ tMake C sp [] E t σ H Q
theorem pe_mkL {i : Nat} {nm : Str} (c : MakX X.prog X.w X.K X.mg X.base k nm C sp) (hr : Room j X.A) (hk : k + 1 ≤ j) (hx : Passes (L2N.CX X.prog X.w) X E) (hN : X.N[i]? = some x) (hv : Vis X.env.scope x) (ha : PA X (e :: es) t)
    (hd : (x == ("__debug__" : Str)) = false := by decide) (hcd : (x == ("__classdict__" : Str)) = false := by decide)
    (he : starEach (e :: es) X.env = (false, eval e X.env) :: starEach es X.env := by rfl) (hpl : (backTo pos (starEach es X.env)).any (·.1) = false := by rfl) :
    PE X (.Call (.Name x p) (e :: es) [] pos) (tMakeL C i sp E t) := by
  obtain ⟨g, fd, ps, M, F, hm, b⟩ := c.ex
  refine ⟨fun pins s σ H Q I h => ?_⟩
  obtain ⟨hi, h⟩ := h
  refine wpAny_Call_Name_kw (thn ((pe_var (pos := p) hN hv hd hcd).run pins s σ H (fun v H1 => v = .ref C ∧ H1 = H) I ⟨.ref C, hi, rfl, rfl⟩) fun u s1 z => ?_)
  obtain ⟨v, H1, I1, r1, rfl, rfl⟩ := z
  cases r1
  refine PySem.W.callWith_K (h₀ := X.base) I.ok.mod.kin M.kp (thn (ha.run pos pins s1 σ _ _ I1 h) fun us s2 z => ?_) he hpl
  obtain ⟨vs, H2, I2, r2, q⟩ := z
  exact ⟨I2.kIn, run_make M F (hr.mono hk) b .nil hx I2 r2 q⟩
/-- C.m(..), o.m(..): o evaluates to the class -/
theorem pe_clm {pl : Sem Bool} (c : ClmX X.prog X.w X.K X.mg X.base k C m sp) (hr : Room j X.A) (hk : k ≤ j) (hx : Passes (L2N.CX X.prog X.w) X E) (he : PE X o ta) (ha : PA X (e :: es) t)
    (hst : starEach (e :: es) X.env = (false, eval e X.env) :: starEach es X.env := by rfl) (hpl : (backTo pos (starEach es X.env)).any (·.1) = false := by rfl)
    (ht : eval (.Call (.Attribute o m apos) (e :: es) [] pos) X.env = (do
      let ov ← eval o X.env
      standAt apos.atName
      let (f, first) ← holding [ov] (getMethod ov m pl)
      callWith pos f first (backTo pos (starEach (e :: es) X.env)) (backToKw pos (keywordEach [] X.env))) := by rfl) : PE X (.Call (.Attribute o m apos) (e :: es) [] pos) (ClX.tCMeth C sp E ta t) := by
  obtain ⟨q, g, fd, ps, mc, r, cm, F, b⟩ := c.ex
  have F' : FnR X.prog X.w X.K X.mg X.base (L2N.CX X.prog X.w) k g sp := (FnOk.raw F b .nil).imp fun vs H Q E h => by rw [List.append_nil]; exact h
  exact ClX.pe_cmeth (pl := pl) he r cm F' (hr.mono hk) hx ha hst hpl ht
end
end KX

end
section
set_option Elab.async false
set_option linter.all false
set_option maxRecDepth 100000
set_option maxHeartbeats 800000
namespace K02
open PySem L2 Kit KR KX
local macro_rules | `(tactic| fail "om") => `(tactic| first | omega | (simp only [List.length_map, List.length_append, List.length_cons, List.length_nil]; omega) | (simp only [List.length_map, List.length_append, List.length_cons, List.length_nil] at *; omega) | assumption | decide | fail "no om")
local macro_rules | `(tactic| fail "nz") => `(tactic| first | decide | omega | fail "no nz")
local macro_rules | `(tactic| fail "dv") => `(tactic| exact ⟨by first | decide | omega, by first | decide | omega⟩)
local macro_rules | `(tactic| fail "mul") => `(tactic| first | exact .inr ⟨by decide, by decide⟩ | exact .inl ⟨by decide, by decide⟩ | exact mulF (by decide) (by decide) | exact .inl ⟨by omega, by omega⟩ | exact .inr ⟨by omega, by omega⟩ | fail "no mul")
local macro_rules | `(tactic| fail "sz") => `(tactic| first | assumption | exact Nat.zero_le _ | (show 1 ≤ sizeLine; decide) | (show 2 ≤ sizeLine; decide) | (show 3 ≤ sizeLine; decide) | (show 4 ≤ sizeLine; decide) | (show 5 ≤ sizeLine; decide) | exact Evl.sz_of (by omega) | (refine Evl.sz_of ?_; simp only [List.length_append, List.length_map, List.length_cons, List.length_nil]; omega) | fail "no sz")
local macro_rules | `(tactic| fail "szl") => `(tactic| first | exact Evl.sz_lt (by omega) | (refine Evl.sz_lt ?_; simp only [List.length_append, List.length_map, List.length_cons, List.length_nil]; omega) | fail "no szl")
local macro_rules | `(tactic| fail "ix") => `(tactic| first | assumption | exact ix0 | exact ix1 | exact ix2 | exact at_ref (by assumption) (by omega) | exact at_int (by assumption) (by omega) | exact at_drawn (by assumption) (by assumption) | rfl | fail "no ix")
local macro_rules | `(tactic| fail "ixn") => `(tactic| first | rfl | assumption | fail "no ixn")
local macro_rules | `(tactic| fail "nb") => `(tactic| first | assumption | exact nb_tup | exact nb_nil | exact nb_ints | exact nb_refs | exact nb_ins | exact nb_dT | exact nb_frz | fail "no nb")
local macro_rules | `(tactic| fail "ne") => `(tactic| first | assumption | exact Ne.symm (by assumption) | exact ne_of_none (by assumption) (by assumption) | exact (ne_of_none (by assumption) (by assumption)).symm | exact ne_of (by assumption) (by assumption) (by intro q; cases q) | exact ne_of (by assumption) (by assumption) (by simp) | fail "no ne")
local macro_rules | `(tactic| fail "hp") => `(tactic| first | assumption | exact upd_same | (refine' Tk.get (by assumption) ?k1; (case k1 => fail "tk")) | (with_reducible refine' upd_new ?h1 ?n1; (case n1 => assumption); (case h1 => fail "hp")) | (refine' Same.get (by assumption) ?h1; (case h1 => fail "hp")) | (refine' Kp.get (by assumption) (by fail "bx") ?h1 ?d1; (case h1 => fail "hp"); (case d1 => fail "nb")) | (with_reducible refine' upd_oth ?h1 ?n1; (case n1 => fail "ne"); (case h1 => fail "hp")) | (with_reducible refine' upd_oth ?h1 ?n1; (case h1 => fail "hp"); (case n1 => fail "ne")) | fail "no hp")
local macro_rules | `(tactic| fail "bx") => `(tactic| first | assumption | (with_reducible refine' BoxOk.new ?h1 ?n1; (case n1 => assumption); (case h1 => fail "bx")) | (refine' BoxOk.same (by assumption) ?h1; (case h1 => fail "bx")) | (with_reducible refine' BoxOk.mut ?h1 ?h2 ?n1; (case n1 => assumption); (case h2 => assumption); (case h1 => fail "bx")) | fail "no bx")
local macro_rules | `(tactic| fail "kp") => `(tactic| first | assumption | exact Kp.refl | (with_reducible refine' Kp.at ?h1; (case h1 => fail "kp")) | (with_reducible refine' Kp.new ?h1 ?n1; (case n1 => assumption); (case h1 => fail "kp")) | (with_reducible refine' Kp.mut ?h1 ?n1; (case n1 => assumption); (case h1 => fail "kp")) | (refine' Kp.tr (by assumption) ?h1; (case h1 => fail "kp")) | (refine' Kp.tr (Kp.of (by assumption)) ?h1; (case h1 => fail "kp")) | fail "no kp")
local macro_rules | `(tactic| fail "ite") => `(tactic| first | refine iteT ?_ | refine iteF ?_)
local macro_rules | `(tactic| fail "tt") => `(tactic| first | rfl | exact decide_eq_true (by first | rfl | omega | assumption) | exact decide_eq_true (congrArg V.int (by first | rfl | omega)) | fail "no tt")
local macro_rules | `(tactic| fail "cv") => `(tactic| first | exact .ty _ | exact .own _)
local macro_rules | `(tactic| fail "tx") => `(tactic| first | exact .base (.int _) | exact .base (.bl _) | exact .base .non | exact .base (.lst (by fail "hp")) | exact .base (.tup (by fail "hp")) | fail "no tx")
local macro_rules | `(tactic| fail "dead") => `(tactic| (exfalso; first | omega | contradiction | simp_all))
local macro_rules | `(tactic| fail "dp") => `(tactic| first | exact .tup (SqT.of (by fail "hp")) (.cons (.int _) (.cons (.int _) .nil)) | exact .lst (SqL.of (by fail "hp")) (dpPrs (by fail "pr")) | exact .lst (SqL.of (by fail "hp")) (dpInts _) | exact .lst (SqL.of (by fail "hp")) .nil | fail "no dp")
local macro_rules | `(tactic| fail "shp") => `(tactic| first | assumption | exact prD_shaped _ | exact PySem.W.ke_shaped_ints _ | rfl | fail "no shp")
local macro_rules | `(tactic| fail "pr") => `(tactic| first | assumption | exact PrT.mono (by assumption) (by fail "tk") | fail "no pr")
local macro_rules | `(tactic| fail "tk") => `(tactic| first | assumption | exact Tk.refl | (with_reducible refine' Tk.new ?h1 ?n1; (case n1 => assumption); (case h1 => fail "tk")) | (refine' Tk.tr (Kp.tk (by assumption) (by fail "bx")) ?h1; (case h1 => fail "tk")) | (refine' Tk.tr (Same.tk (by assumption)) ?h1; (case h1 => fail "tk")) | (with_reducible refine' Tk.lst ?h1 ?n1; (case n1 => fail "hp"); (case h1 => fail "tk")) | fail "no tk")
local macro_rules | `(tactic| fail "lk") => `(tactic| first | exact netF_count _ _ | exact netF_links _ _ | exact netF_no _ _ (by decide +kernel) (by decide +kernel) | fail "no lk")
local macro_rules | `(tactic| fail "kt") => `(tactic| first | exact upd_same | assumption | fail "hp")
local macro_rules | `(tactic| fail "na") => `(tactic| first | assumption | (with_reducible refine' NetAt.new ?h1 ?n1; (case n1 => assumption); (case h1 => fail "na")) | (refine' NetAt.same (by assumption) ?h1; (case h1 => fail "na")) | (refine' NetAt.kp (by assumption) (by fail "bx") ?h1; (case h1 => fail "na")) | (with_reducible refine' NetAt.lst ?h1 ?n1; (case n1 => fail "hp"); (case h1 => fail "na")) | fail "no na")
local macro_rules | `(tactic| fail "mono") => `(tactic| first | exact fun _ _ _ _ h q => h _ _ q | exact fun _ _ _ _ h q => (let ⟨v, e, z⟩ := q; ⟨v, e, h _ _ z⟩) | exact fun _ _ _ _ h q => (let ⟨v, e, u, f, z⟩ := q; ⟨v, e, u, f, h _ _ z⟩) | fail "no mono")
local macro_rules | `(tactic| fail "sm") => `(tactic| first | assumption | exact Same.refl _ | (with_reducible refine' Same.new ?h1 ?n1; (case n1 => assumption); (case h1 => fail "sm")) | (refine' Same.tr (by assumption) ?h1; (case h1 => fail "sm")) | fail "no sm")
local macro_rules | `(tactic| fail "fld") => `(tactic| first | (show 0 < 1000; decide) | (show 1 < 1000; decide) | fail "no fld")

section
variable {P : Program} {w : World} {K : PySem.W.Frag} {mg : Str → Option Value} {base : Heap} {CN CI CU CL CS : Addr} {mc mu : Value}

structure NTx (K : PySem.W.Frag) (mg : Str → Option Value) (CN : Addr) (mc mu : Value) : Prop extends Txt K mg where
  cl : Cls K CN
  rd : ClX.CRead K CN mc
  most : ClX.CVal K CN mc "MOST" (.int 24) mu
  n_count : NoAttr K CN "count"
  n__links : NoAttr K CN "_links"
  mgNet : mg "Net" = some (.ref CN)
/-- the __init__ of the three errors -/
abbrev sEI : Stmt := inClass (top 3) 0
abbrev sEU : Stmt := inClass (top 4) 0
abbrev sEL : Stmt := inClass (top 5) 0
theorem scEI : FnScope ["self", "link"] ["self", "link"] (defScope sEI) := ⟨rfl, rfl, rfl, by decide +kernel, rfl, by decide +kernel, by decide +kernel⟩
theorem scEU : FnScope ["self", "replica"] ["self", "replica"] (defScope sEU) := ⟨rfl, rfl, rfl, by decide +kernel, rfl, by decide +kernel, by decide +kernel⟩
theorem scEL : FnScope ["self", "source", "reader"] ["self", "source", "reader"] (defScope sEL) := ⟨rfl, rfl, rfl, by decide +kernel, rfl, by decide +kernel, by decide +kernel⟩
theorem ok_EI {C f : Addr} {fd : FuncData} (F : L2.Fun K "__init__" "InvalidNet.__init__" sEI f fd) (ox : OexC K C) (no : PySem.W.findIn K (.ref C) "link" = some none) : FnOk P w K mg base CX0 1 f fd ["self", "link"] (spErr1 C "link") := by
  refine F.ok scEI (fun vs H Q E h => ?_) (fun cdv A outer s H vs Q E hr h => ?_)
  · obtain ⟨a, v, rfl, _⟩ := h
    rfl
  · obtain ⟨a, v, rfl, ha, k⟩ := h
    refine ⟨_, pss_one (ps_ost (pv 0) (pv 1)), ?_⟩
    exact ⟨_, rfl, _, rfl, a, C, rfl, ox, no, .inl ⟨ha, fun dx n ne => k dx n ne⟩⟩
theorem ok_EU {C f : Addr} {fd : FuncData} (F : L2.Fun K "__init__" "UnknownReplica.__init__" sEU f fd) (ox : OexC K C) (no : PySem.W.findIn K (.ref C) "replica" = some none) : FnOk P w K mg base CX0 1 f fd ["self", "replica"] (spErr1 C "replica") := by
  refine F.ok scEU (fun vs H Q E h => ?_) (fun cdv A outer s H vs Q E hr h => ?_)
  · obtain ⟨a, v, rfl, _⟩ := h
    rfl
  · obtain ⟨a, v, rfl, ha, k⟩ := h
    refine ⟨_, pss_one (ps_ost (pv 0) (pv 1)), ?_⟩
    exact ⟨_, rfl, _, rfl, a, C, rfl, ox, no, .inl ⟨ha, fun dx n ne => k dx n ne⟩⟩
theorem ok_EL {C f : Addr} {fd : FuncData} (F : L2.Fun K "__init__" "NotLinked.__init__" sEL f fd) (ox : OexC K C) (no1 : PySem.W.findIn K (.ref C) "source" = some none) (no2 : PySem.W.findIn K (.ref C) "reader" = some none) : FnOk P w K mg base CX0 1 f fd ["self", "source", "reader"] (spErr2 C "source" "reader") := by
  refine F.ok scEL (fun vs H Q E h => ?_) (fun cdv A outer s H vs Q E hr h => ?_)
  · obtain ⟨a, v, u, rfl, _⟩ := h
    rfl
  · obtain ⟨a, v, u, rfl, ha, k⟩ := h
    refine ⟨_, pss_cons (ps_ost (pv 0) (pv 1)) (pss_one (ps_ost (pv 0) (pv 2))), ?_⟩
    refine ⟨_, rfl, _, rfl, a, C, rfl, ox, no1, .inl ⟨ha, fun dx n ne => ?_⟩⟩
    exact ⟨_, rfl, _, rfl, a, C, rfl, ox, no2, .inr ⟨dx, _, upd_same, by rw [upd_ne ne]; exact upd_same, (by simp), k dx n ne⟩⟩
abbrev sCheckCount : Stmt := top 9
theorem scCheckCount : FnScope ["count"] ["count"] (defScope sCheckCount) := ⟨rfl, rfl, rfl, by decide +kernel, rfl, by decide +kernel, by decide +kernel⟩
/-- an InvalidNet leaves, of this link -/
def RaisesI (CI : Addr) (v : V) (H : Hp) (E : XK) : Prop := ∀ (d : Addr) (H' : Hp), H d = none → Same H H' → H' d = some (.xd [("link", v)]) → E (.ref CI) (some d) H'
def spCheckCount (CI : Addr) : Sp := fun vs H Q E => ∃ (n : Int), vs = [.int n] ∧ ((1 ≤ n ∧ n ≤ 24) → ∀ H', Same H H' → Q .non H') ∧ (¬ (1 ≤ n ∧ n ≤ 24) → RaisesI CI .non H E)
theorem ok_CheckCount (D : Df K mg "check_count" sCheckCount ["count"]) (T : NTx K mg CN mc mu) (MInvalidNet : Mke P w K mg base 1 "InvalidNet" CI (spErr1 CI "link")) : CalX P w K mg base 3 "check_count" (spCheckCount CI) := by
  obtain ⟨f, fd, F, hm, hb⟩ := D
  refine ⟨f, fd, ["count"], F.okN scCheckCount (fun vs H Q E h => ?_) (fun cdv A outer s H vs Q E hr h => ?_), hm, F.kp, hb⟩
  · obtain ⟨n, rfl, kG, kB⟩ := h
    rfl
  · obtain ⟨n, rfl, kG, kB⟩ := h
    refine ⟨_, (pss_one (ps_if (pt_cmpR opNotInRng (pv 0) (pe_callTy cr_range2 (by rfl) T.range (by decide +kernel) (pa_cons pe_int (pa_cons (pe_op op_add (ClX.pe_cval (pe_glob (v := .ref CN) rfl T.mgNet rfl)) pe_int) pa_nil))) (by rfl))
        (pss_one (L2N.ps_raise rfl (L2N.takes_of rfl rfl rfl rfl) (pmk1 MInvalidNet hr (by decide) (by rfl) (pa_cons pe_non pa_nil) (by fail "mono"))))
        pss_nil)), ?_⟩
    -- if count not in range(1, Net.MOST + 1):
    refine ⟨_, rfl, _, _, _, _, rfl, T.rd, T.most, _, _, rfl, rfl, _, _, rfl, fun p1 np1 => ⟨_, _, _, _, rfl, rfl, upd_same, _, rfl, ?_⟩⟩
    refine nifD (fun g2 => ?_) (fun g2 => ?_)
    · -- raise InvalidNet(None)
      refine ⟨_, rfl, fun d3 nd3 => ?_⟩
      have d2 : d3 ≠ p1 := fun z => by rw [z, upd_same] at nd3; cases nd3
      exact kB (by omega) d3 _ (by rw [upd_ne d2] at nd3; exact nd3) (by fail "sm") upd_same
    · exact kG (by omega) _ (by fail "sm")
abbrev sCheckPair : Stmt := top 10
theorem scCheckPair : FnScope ["count", "link", "source", "reader"] ["count", "link"] (defScope sCheckPair) := ⟨rfl, rfl, rfl, by decide +kernel, rfl, by decide +kernel, by decide +kernel⟩
def spCheckPair (CI : Addr) : Sp := fun vs H Q E => ∃ (n : Nat) (t : Addr) (x y : Int), vs = [.int (n : Int), .ref t] ∧ H t = some (.tup [.int x, .int y]) ∧ (Good n (x, y) → ∀ H', Same H H' → Q .non H') ∧ (¬ Good n (x, y) → RaisesI CI (.ref t) H E)
theorem fresh2 {H : Hp} {p d : Addr} {o : HO} (h : upd H p o d = none) : H d = none ∧ d ≠ p := by
  have e : d ≠ p := fun z => by rw [z, upd_same] at h; cases h
  rw [upd_ne e] at h
  exact ⟨h, e⟩
theorem ok_CheckPair (D : Df K mg "check_pair" sCheckPair ["count", "link"]) (T : NTx K mg CN mc mu) (MInvalidNet : Mke P w K mg base 1 "InvalidNet" CI (spErr1 CI "link")) : CalX P w K mg base 3 "check_pair" (spCheckPair CI) := by
  obtain ⟨f, fd, F, hm, hb⟩ := D
  refine ⟨f, fd, ["count", "link"], F.okN scCheckPair (fun vs H Q E h => ?_) (fun cdv A outer s H vs Q E hr h => ?_), hm, F.kp, hb⟩
  · obtain ⟨n, t, x, y, rfl, ht, kG, kB⟩ := h
    rfl
  · obtain ⟨n, t, x, y, rfl, ht, kG, kB⟩ := h
    refine ⟨_, (pss_cons (ps_asg (pv 1) (pg_tup rfl (pgs_cons (pg_name (i := 2) scCheckPair.nd rfl (Or.inl rfl)) (pgs_cons (pg_name (i := 3) scCheckPair.nd rfl (Or.inl rfl)) pgs_nil))))
      (pss_one (ps_if (PW.pt (pw_or (pt_cmpR op_eq (pv 2) (pv 3) (nomark _)) (pw_or (pt_cmpR opNotInRng (pv 2) (pe_callTy crRange1 (by rfl) T.range (by decide +kernel) (pa_cons (pv 0) pa_nil)) (by rfl)) (pw_or1 (pt_cmpR opNotInRng (pv 3) (pe_callTy crRange1 (by rfl) T.range (by decide +kernel) (pa_cons (pv 0) pa_nil)) (by rfl))))))
        (pss_one (L2N.ps_raise rfl (L2N.takes_of rfl rfl rfl rfl) (pmk1 MInvalidNet hr (by decide) (by rfl) (pa_cons (pv 1) pa_nil) (by fail "mono"))))
        pss_nil))), ?_⟩
    -- source, reader = link
    refine ⟨_, rfl, _, _, rfl, SqT.of (by fail "hp"), rfl, _, _, rfl, _, _, rfl, rfl, ?_⟩
    -- if source == reader or source not in range(count) or reader not in range(count):
    refine ⟨_, rfl, _, rfl, rfl, _, rfl, ?_⟩
    refine ifEqI (fun g1 => ?_) (fun g1 => ?_)
    · fail "ite"
      -- raise InvalidNet(link)
      refine ⟨_, rfl, _, rfl, fun d2 nd2 => ?_⟩
      exact kB (fun z => z.2.2.2.2 g1) _ _ nd2 (by fail "sm") upd_same
    · refine ⟨_, rfl, _, rfl, _, rfl, fun p3 np3 => ⟨_, _, _, _, rfl, rfl, upd_same, _, rfl, ?_⟩⟩
      refine nifD (fun g4 => ?_) (fun g4 => ?_)
      · fail "ite"
        -- raise InvalidNet(link)
        refine ⟨_, rfl, _, rfl, fun d5 nd5 => ?_⟩
        obtain ⟨f1, f2⟩ := fresh2 nd5
        exact kB (fun z => by obtain ⟨z1, z2, _⟩ := z; dsimp only at *; omega) _ _ f1 (by fail "sm") upd_same
      · refine ⟨_, rfl, _, rfl, _, rfl, fun p6 np6 => ⟨_, _, _, _, rfl, rfl, upd_same, _, rfl, ?_⟩⟩
        refine nifD (fun g7 => ?_) (fun g7 => ?_)
        · -- raise InvalidNet(link)
          refine ⟨_, rfl, _, rfl, fun d8 nd8 => ?_⟩
          obtain ⟨f1, f2⟩ := fresh2 nd8
          obtain ⟨f3, f4⟩ := fresh2 f1
          exact kB (fun z => by obtain ⟨z1, z2, z3, z4, _⟩ := z; dsimp only at *; omega) _ _ f3 (by fail "sm") upd_same
        · exact kG ⟨by dsimp only; omega, by dsimp only; omega, by dsimp only; omega, by dsimp only; omega, g1⟩ _ (by fail "sm")
abbrev sCheckReplica : Stmt := top 11
theorem scCheckReplica : FnScope ["net", "replica"] ["net", "replica"] (defScope sCheckReplica) := ⟨rfl, rfl, rfl, by decide +kernel, rfl, by decide +kernel, by decide +kernel⟩
def RaisesU (CU : Addr) (r : Int) (H : Hp) (E : XK) : Prop := ∀ (d : Addr) (H' : Hp), H d = none → Same H H' → H' d = some (.xd [("replica", .int r)]) → E (.ref CU) (some d) H'
def spCheckReplica (CN CU : Addr) : Sp := fun vs H Q E => ∃ (a : Addr) (n : Nat) (R : Rel) (r : Int), vs = [.ref a, .int r] ∧ NetAt CN H a n R ∧ ((0 ≤ r ∧ r < n) → ∀ H', Same H H' → Q .non H') ∧ (¬ (0 ≤ r ∧ r < n) → RaisesU CU r H E)
theorem ok_CheckReplica (D : Df K mg "check_replica" sCheckReplica ["net", "replica"]) (T : NTx K mg CN mc mu) (MUnknownReplica : Mke P w K mg base 1 "UnknownReplica" CU (spErr1 CU "replica")) : CalX P w K mg base 3 "check_replica" (spCheckReplica CN CU) := by
  obtain ⟨f, fd, F, hm, hb⟩ := D
  refine ⟨f, fd, ["net", "replica"], F.okN scCheckReplica (fun vs H Q E h => ?_) (fun cdv A outer s H vs Q E hr h => ?_), hm, F.kp, hb⟩
  · obtain ⟨a, n, R, r, rfl, na, kG, kB⟩ := h
    rfl
  · obtain ⟨a, n, R, r, rfl, na, kG, kB⟩ := h
    obtain ⟨⟨dx, d, ha, hd⟩, _, _, _⟩ := na
    refine ⟨_, (pss_one (ps_if (pt_cmpR opNotInRng (pv 1) (pe_callTy crRange1 (by rfl) T.range (by decide +kernel) (pa_cons (pe_fld (pv 0) (by rfl)) pa_nil)) (by rfl))
        (pss_one (L2N.ps_raise rfl (L2N.takes_of rfl rfl rfl rfl) (pmk1 MUnknownReplica hr (by decide) (by rfl) (pa_cons (pv 1) pa_nil) (by fail "mono"))))
        pss_nil)), ?_⟩
    -- if replica not in range(net.count):
    refine ⟨_, rfl, _, rfl, _, _, _, _, _, rfl, (by fail "hp"), T.cl, T.n_count, (by fail "lk"), _, rfl, fun p1 np1 => ⟨_, _, _, _, rfl, rfl, upd_same, _, rfl, ?_⟩⟩
    refine nifD (fun g2 => ?_) (fun g2 => ?_)
    · -- raise UnknownReplica(replica)
      refine ⟨_, rfl, _, rfl, fun d3 nd3 => ?_⟩
      obtain ⟨f1, f2⟩ := fresh2 nd3
      exact kB (by omega) _ _ f1 (by fail "sm") upd_same
    · exact kG (by omega) _ (by fail "sm")
end
end K02

end
section
set_option Elab.async false
set_option linter.all false
set_option maxRecDepth 100000
set_option maxHeartbeats 800000
namespace K02
open PySem L2 Kit KR KX
local macro_rules | `(tactic| fail "om") => `(tactic| first | omega | (simp only [List.length_map, List.length_append, List.length_cons, List.length_nil]; omega) | (simp only [List.length_map, List.length_append, List.length_cons, List.length_nil] at *; omega) | assumption | decide | fail "no om")
local macro_rules | `(tactic| fail "nz") => `(tactic| first | decide | omega | fail "no nz")
local macro_rules | `(tactic| fail "dv") => `(tactic| exact ⟨by first | decide | omega, by first | decide | omega⟩)
local macro_rules | `(tactic| fail "mul") => `(tactic| first | exact .inr ⟨by decide, by decide⟩ | exact .inl ⟨by decide, by decide⟩ | exact mulF (by decide) (by decide) | exact .inl ⟨by omega, by omega⟩ | exact .inr ⟨by omega, by omega⟩ | fail "no mul")
local macro_rules | `(tactic| fail "sz") => `(tactic| first | assumption | exact Nat.zero_le _ | (show 1 ≤ sizeLine; decide) | (show 2 ≤ sizeLine; decide) | (show 3 ≤ sizeLine; decide) | (show 4 ≤ sizeLine; decide) | (show 5 ≤ sizeLine; decide) | exact Evl.sz_of (by omega) | (refine Evl.sz_of ?_; simp only [List.length_append, List.length_map, List.length_cons, List.length_nil]; omega) | fail "no sz")
local macro_rules | `(tactic| fail "szl") => `(tactic| first | exact Evl.sz_lt (by omega) | (refine Evl.sz_lt ?_; simp only [List.length_append, List.length_map, List.length_cons, List.length_nil]; omega) | fail "no szl")
local macro_rules | `(tactic| fail "ix") => `(tactic| first | assumption | exact ix0 | exact ix1 | exact ix2 | exact at_ref (by assumption) (by omega) | exact at_int (by assumption) (by omega) | exact at_drawn (by assumption) (by assumption) | rfl | fail "no ix")
local macro_rules | `(tactic| fail "ixn") => `(tactic| first | rfl | assumption | fail "no ixn")
local macro_rules | `(tactic| fail "nb") => `(tactic| first | assumption | exact nb_tup | exact nb_nil | exact nb_ints | exact nb_refs | exact nb_ins | exact nb_dT | exact nb_frz | fail "no nb")
local macro_rules | `(tactic| fail "ne") => `(tactic| first | assumption | exact Ne.symm (by assumption) | exact ne_of_none (by assumption) (by assumption) | exact (ne_of_none (by assumption) (by assumption)).symm | exact ne_of (by assumption) (by assumption) (by intro q; cases q) | exact ne_of (by assumption) (by assumption) (by simp) | fail "no ne")
local macro_rules | `(tactic| fail "hp") => `(tactic| first | assumption | exact upd_same | (refine' Tk.get (by assumption) ?k1; (case k1 => fail "tk")) | (with_reducible refine' upd_new ?h1 ?n1; (case n1 => assumption); (case h1 => fail "hp")) | (refine' Same.get (by assumption) ?h1; (case h1 => fail "hp")) | (refine' Kp.get (by assumption) (by fail "bx") ?h1 ?d1; (case h1 => fail "hp"); (case d1 => fail "nb")) | (with_reducible refine' upd_oth ?h1 ?n1; (case n1 => fail "ne"); (case h1 => fail "hp")) | (with_reducible refine' upd_oth ?h1 ?n1; (case h1 => fail "hp"); (case n1 => fail "ne")) | fail "no hp")
local macro_rules | `(tactic| fail "bx") => `(tactic| first | assumption | (with_reducible refine' BoxOk.new ?h1 ?n1; (case n1 => assumption); (case h1 => fail "bx")) | (refine' BoxOk.same (by assumption) ?h1; (case h1 => fail "bx")) | (with_reducible refine' BoxOk.mut ?h1 ?h2 ?n1; (case n1 => assumption); (case h2 => assumption); (case h1 => fail "bx")) | fail "no bx")
local macro_rules | `(tactic| fail "kp") => `(tactic| first | assumption | exact Kp.refl | (with_reducible refine' Kp.at ?h1; (case h1 => fail "kp")) | (with_reducible refine' Kp.new ?h1 ?n1; (case n1 => assumption); (case h1 => fail "kp")) | (with_reducible refine' Kp.mut ?h1 ?n1; (case n1 => assumption); (case h1 => fail "kp")) | (refine' Kp.tr (by assumption) ?h1; (case h1 => fail "kp")) | (refine' Kp.tr (Kp.of (by assumption)) ?h1; (case h1 => fail "kp")) | fail "no kp")
local macro_rules | `(tactic| fail "ite") => `(tactic| first | refine iteT ?_ | refine iteF ?_)
local macro_rules | `(tactic| fail "tt") => `(tactic| first | rfl | exact decide_eq_true (by first | rfl | omega | assumption) | exact decide_eq_true (congrArg V.int (by first | rfl | omega)) | fail "no tt")
local macro_rules | `(tactic| fail "cv") => `(tactic| first | exact .ty _ | exact .own _)
local macro_rules | `(tactic| fail "tx") => `(tactic| first | exact .base (.int _) | exact .base (.bl _) | exact .base .non | exact .base (.lst (by fail "hp")) | exact .base (.tup (by fail "hp")) | fail "no tx")
local macro_rules | `(tactic| fail "dead") => `(tactic| (exfalso; first | omega | contradiction | simp_all))
local macro_rules | `(tactic| fail "dp") => `(tactic| first | exact .tup (SqT.of (by fail "hp")) (.cons (.int _) (.cons (.int _) .nil)) | exact .lst (SqL.of (by fail "hp")) (dpPrs (by fail "pr")) | exact .lst (SqL.of (by fail "hp")) (dpInts _) | exact .lst (SqL.of (by fail "hp")) .nil | fail "no dp")
local macro_rules | `(tactic| fail "shp") => `(tactic| first | assumption | exact prD_shaped _ | exact PySem.W.ke_shaped_ints _ | rfl | fail "no shp")
local macro_rules | `(tactic| fail "pr") => `(tactic| first | assumption | exact PrT.mono (by assumption) (by fail "tk") | fail "no pr")
local macro_rules | `(tactic| fail "tk") => `(tactic| first | assumption | exact Tk.refl | (with_reducible refine' Tk.new ?h1 ?n1; (case n1 => assumption); (case h1 => fail "tk")) | (refine' Tk.tr (Kp.tk (by assumption) (by fail "bx")) ?h1; (case h1 => fail "tk")) | (refine' Tk.tr (Same.tk (by assumption)) ?h1; (case h1 => fail "tk")) | (with_reducible refine' Tk.lst ?h1 ?n1; (case n1 => fail "hp"); (case h1 => fail "tk")) | fail "no tk")
local macro_rules | `(tactic| fail "lk") => `(tactic| first | exact netF_count _ _ | exact netF_links _ _ | exact netF_no _ _ (by decide +kernel) (by decide +kernel) | fail "no lk")
local macro_rules | `(tactic| fail "kt") => `(tactic| first | exact upd_same | assumption | fail "hp")
local macro_rules | `(tactic| fail "na") => `(tactic| first | assumption | (with_reducible refine' NetAt.new ?h1 ?n1; (case n1 => assumption); (case h1 => fail "na")) | (refine' NetAt.same (by assumption) ?h1; (case h1 => fail "na")) | (refine' NetAt.kp (by assumption) (by fail "bx") ?h1; (case h1 => fail "na")) | (with_reducible refine' NetAt.lst ?h1 ?n1; (case n1 => fail "hp"); (case h1 => fail "na")) | fail "no na")
local macro_rules | `(tactic| fail "mono") => `(tactic| first | exact fun _ _ _ _ h q => h _ _ q | exact fun _ _ _ _ h q => (let ⟨v, e, z⟩ := q; ⟨v, e, h _ _ z⟩) | exact fun _ _ _ _ h q => (let ⟨v, e, u, f, z⟩ := q; ⟨v, e, u, f, h _ _ z⟩) | fail "no mono")
local macro_rules | `(tactic| fail "sm") => `(tactic| first | assumption | exact Same.refl _ | (with_reducible refine' Same.new ?h1 ?n1; (case n1 => assumption); (case h1 => fail "sm")) | (refine' Same.tr (by assumption) ?h1; (case h1 => fail "sm")) | fail "no sm")
local macro_rules | `(tactic| fail "fld") => `(tactic| first | (show 0 < 1000; decide) | (show 1 < 1000; decide) | fail "no fld")

section
variable {P : Program} {w : World} {K : PySem.W.Frag} {mg : Str → Option Value} {base : Heap} {CN CI CU CL CS : Addr} {mc mu : Value}

theorem hu1 {k : Nat} {A : Around} (r : Room k A) : A.units + 1 < cLine := by
  have := r.units
  omega
theorem pe_fldB {X : Cx} {K : PySem.W.Frag} {e : Expr} {f : Str} {pos : Pos} {ta : TE} (he : PE X e ta) (hb : attributeBase e f X.env (eval e X.env) = eval e X.env) (hK : X.K = K) : PE X (.Attribute e f pos) (tFld K ta f) := by
  subst hK
  exact pe_fld he hb
theorem free_back {H H1 : Hp} {d : Addr} (h : H1 d = none) (s : Same H H1) : H d = none := by
  cases e : H d with
  | none => rfl
  | some o => rw [s d o e] at h; cases h
theorem RaisesI.back {CI : Addr} {v : V} {H H1 : Hp} {E : XK} (k : RaisesI CI v H E) (s : Same H H1) : RaisesI CI v H1 E := fun d H' nd sm xd => k d H' (free_back nd s) (s.trans sm) xd
theorem RaisesU.back {CU : Addr} {r : Int} {H H1 : Hp} {E : XK} (k : RaisesU CU r H E) (s : Same H H1) : RaisesU CU r H1 E := fun d H' nd sm xd => k d H' (free_back nd s) (s.trans sm) xd
def RaisesL (CL : Addr) (s r : Int) (H : Hp) (E : XK) : Prop := ∀ (d : Addr) (H' : Hp), H d = none → Same H H' → H' d = some (.xd [("reader", .int r), ("source", .int s)]) → E (.ref CL) (some d) H'
theorem RaisesL.back {CL : Addr} {x y : Int} {H H1 : Hp} {E : XK} (k : RaisesL CL x y H E) (s : Same H H1) : RaisesL CL x y H1 E := fun d H' nd sm xd => k d H' (free_back nd s) (s.trans sm) xd
theorem has_key (n : Nat) (R : Rel) (s r : Int) : (valV (linkKV n R) [.inl s, .inl r]).isSome = decide ((s, r) ∈ ties n R) := find_key _ _ _
theorem has_nat {n : Nat} {R : Rel} {x y : Nat} (hx : x < n) (hy : y < n) : ((((x : Nat) : Int), ((y : Nat) : Int)) ∈ ties n R) ↔ R x y = true := by
  rw [mem_ties]
  constructor
  · rintro ⟨a, b, _, _, r, e⟩
    have e1 : (x : Int) = (a : Int) := congrArg Prod.fst e
    have e2 : (y : Int) = (b : Int) := congrArg Prod.snd e
    obtain rfl : x = a := by omega
    obtain rfl : y = b := by omega
    exact r
  · intro r
    exact ⟨x, y, hx, hy, r, rfl⟩
theorem has_natB (n : Nat) (R : Rel) {x y : Nat} (hx : x < n) (hy : y < n) : decide ((((x : Nat) : Int), ((y : Nat) : Int)) ∈ ties n R) = R x y := by
  cases e : R x y with
  | true => exact decide_eq_true ((has_nat hx hy).mpr e)
  | false => exact decide_eq_false fun z => by rw [(has_nat hx hy).mp z] at e; cases e
/-- the sources of y below j; the readers of x below j -/
def colI (R : Rel) (y j : Nat) : List Int := ((List.range j).filter fun x => R x y).map fun (x : Nat) => (x : Int)
def rowI (R : Rel) (x j : Nat) : List Int := ((List.range j).filter fun y => R x y).map fun (y : Nat) => (y : Int)
theorem colI_len (R : Rel) (y j : Nat) : (colI R y j).length ≤ j := by
  unfold colI
  rw [List.length_map]
  have h := List.length_filter_le (fun x => R x y) (List.range j)
  rw [List.length_range] at h
  exact h
theorem colI_yes {R : Rel} {y j : Nat} (h : R j y = true) : colI R y (j + 1) = colI R y j ++ [(j : Int)] := by
  unfold colI
  rw [List.range_succ, List.filter_append, List.map_append]
  simp [List.filter, h]
theorem colI_no {R : Rel} {y j : Nat} (h : R j y = false) : colI R y (j + 1) = colI R y j := by
  unfold colI
  rw [List.range_succ, List.filter_append, List.map_append]
  simp [List.filter, h]
theorem rowI_col (R : Rel) (x j : Nat) : rowI R x j = colI (fun a b => R b a) x j := rfl
local macro_rules | `(tactic| fail "bad") => `(tactic| first | exact fun z => RaisesI.back (kB z) (by fail "sm") | exact fun z => RaisesU.back (kB z) (by fail "sm") | exact fun z => RaisesL.back (kB z) (by fail "sm") | exact fun z => RaisesI.back (kC z) (by fail "sm") | fail "no bad")

abbrev sNetHasLink : Stmt := inClass (top 8) 10
theorem scNetHasLink : FnScope ["self", "source", "reader"] ["self", "source", "reader"] (defScope sNetHasLink) := ⟨rfl, rfl, rfl, by decide +kernel, rfl, by decide +kernel, by decide +kernel⟩
def spHas (CN : Addr) : Sp := fun vs H Q _ => ∃ (a : Addr) (n : Nat) (R : Rel) (s r : Int), vs = [.ref a, .int s, .int r] ∧ NetAt CN H a n R ∧ ∀ H', Same H H' → Q (.bl (decide ((s, r) ∈ ties n R))) H'
theorem ok_NetHasLink {f : Addr} {fd : FuncData} (F : L2.Fun K "has_link" "Net.has_link" sNetHasLink f fd) (T : NTx K mg CN mc mu) : FnOk P w K mg base CX0 1 f fd ["self", "source", "reader"] (spHas CN) := by
  refine F.ok scNetHasLink (fun vs H Q E h => ?_) (fun cdv A outer s H vs Q E hr h => ?_)
  · obtain ⟨a, n, R, s, r, rfl, na, kQ⟩ := h
    rfl
  · obtain ⟨a, n, R, s, r, rfl, na, kQ⟩ := h
    have na2 := na
    obtain ⟨⟨dx, d, ha, hd⟩, b1, b2, ir⟩ := na2
    refine ⟨_, (pss_one (ps_ret (pe_cmp (pc_din (hu1 hr) (pe_tup (pa_cons (pv 1) (pa_cons (pv 2) pa_nil))) (pe_fld (pv 0) (by rfl))) rfl))), ?_⟩
    -- return (source, reader) in self._links
    refine ⟨_, rfl, _, rfl, (by fail "sz"), fun p1 np1 => ⟨_, rfl, _, _, _, _, _, rfl, (by fail "hp"), T.cl, T.n__links, (by fail "lk"), _, _, rfl, DGet.t (k := [.inl _, .inl _]) (by fail "hp") (by fail "kt"), ?_⟩⟩
    rw [has_key]
    exact kQ _ (by fail "sm")
abbrev sCheckLink : Stmt := top 12
theorem scCheckLink : FnScope ["net", "source", "reader"] ["net", "source", "reader"] (defScope sCheckLink) := ⟨rfl, rfl, rfl, by decide +kernel, rfl, by decide +kernel, by decide +kernel⟩
def spCheckLink (CN CL : Addr) : Sp := fun vs H Q E => ∃ (a : Addr) (n : Nat) (R : Rel) (s r : Int), vs = [.ref a, .int s, .int r] ∧ NetAt CN H a n R ∧ ((s, r) ∈ ties n R → ∀ H', Same H H' → Q .non H') ∧ (¬ (s, r) ∈ ties n R → RaisesL CL s r H E)
theorem ok_CheckLink (D : Df K mg "check_link" sCheckLink ["net", "source", "reader"]) (T : NTx K mg CN mc mu) (MNotLinked : Mke P w K mg base 1 "NotLinked" CL (spErr2 CL "source" "reader")) (Nhas_link : C8.Met P w K mg base 1 CN "has_link" (spHas CN) []) : CalX P w K mg base 3 "check_link" (spCheckLink CN CL) := by
  obtain ⟨f, fd, F, hm, hb⟩ := D
  refine ⟨f, fd, ["net", "source", "reader"], F.okN scCheckLink (fun vs H Q E h => ?_) (fun cdv A outer s H vs Q E hr h => ?_), hm, F.kp, hb⟩
  · obtain ⟨a, n, R, s, r, rfl, na, kG, kB⟩ := h
    rfl
  · obtain ⟨a, n, R, s, r, rfl, na, kG, kB⟩ := h
    have na2 := na
    obtain ⟨⟨dx, d, ha, hd⟩, b1, b2, ir⟩ := na2
    refine ⟨_, (pss_one (ps_if (pt_not (pt_val (C8.pe_mt Nhas_link hr (by decide) (pv 0) (pa_cons (pv 1) (pa_cons (pv 2) pa_nil)))))
        (pss_one (L2N.ps_raise rfl (L2N.takes_of rfl rfl rfl rfl) (pmk2 MNotLinked hr (by decide) (by rfl) (pa_cons (pv 1) (pa_cons (pv 2) pa_nil)) (by fail "mono"))))
        pss_nil)), ?_⟩
    -- if not net.has_link(source, reader):
    refine ⟨_, rfl, _, _, _, rfl, (by fail "hp"), (by fail "lk"), _, rfl, _, rfl, _, _, _, _, _, rfl, (by fail "na"), fun H1 sm1 => ⟨_, rfl, ?_⟩⟩
    refine nifB (fun g2 => ?_) (fun g2 => ?_)
    · -- raise NotLinked(source, reader)
      refine ⟨_, rfl, _, rfl, _, _, rfl, fun d3 nd3 => ?_⟩
      exact kB (of_decide_eq_false g2) _ _ (free_back nd3 sm1) (by fail "sm") upd_same
    · exact kG (of_decide_eq_true g2) _ (by fail "sm")
abbrev sNetLinks : Stmt := inClass (top 8) 7
theorem scNetLinks : FnScope ["self"] ["self"] (defScope sNetLinks) := ⟨rfl, rfl, rfl, by decide +kernel, rfl, by decide +kernel, by decide +kernel⟩
def spLinks (CN : Addr) : Sp := fun vs H Q _ => ∃ (a : Addr) (n : Nat) (R : Rel), vs = [.ref a] ∧ NetAt CN H a n R ∧ ∀ (p : Addr) (as : List Addr) (H' : Hp), H p = none → Same H H' → H' p = some (.lst (as.map V.ref)) → PrT H' as (ties n R) → Q (.ref p) H'
theorem ok_NetLinks {f : Addr} {fd : FuncData} (F : L2.Fun K "links" "Net.links" sNetLinks f fd) (T : NTx K mg CN mc mu) : FnOk P w K mg base CX0 1 f fd ["self"] (spLinks CN) := by
  refine F.ok scNetLinks (fun vs H Q E h => ?_) (fun cdv A outer s H vs Q E hr h => ?_)
  · obtain ⟨a, n, R, rfl, na, kQ⟩ := h
    rfl
  · obtain ⟨a, n, R, rfl, na, kQ⟩ := h
    have na2 := na
    obtain ⟨⟨dx, d, ha, hd⟩, b1, b2, ir⟩ := na2
    refine ⟨_, (pss_one (ps_ret (pe_callTy (call_list_dT rfl) (by rfl) T.list (by decide +kernel) (pa_cons (pe_fld (pv 0) (by rfl)) pa_nil)))), ?_⟩
    -- return list(self._links)
    refine ⟨_, rfl, _, _, _, _, _, rfl, (by fail "hp"), T.cl, T.n__links, (by fail "lk"), _, _, rfl, .inl (by fail "hp"), fun p1 ks1 np1 ik1 => ?_⟩
    exact kQ _ ks1 _ np1 (by fail "sm") upd_same (PrT.mono (prT_keys ik1) (by fail "tk"))
def spSources (CN CU : Addr) : Sp := fun vs H Q E => ∃ (a : Addr) (n : Nat) (R : Rel) (r : Int), vs = [.ref a, .int r] ∧ NetAt CN H a n R ∧ ((0 ≤ r ∧ r < n) → ∀ (p : Addr) (H' : Hp), H p = none → Same H H' → H' p = some (.lst ((colI R r.toNat n).map V.int)) → Q (.ref p) H') ∧ (¬ (0 ≤ r ∧ r < n) → RaisesU CU r H E)
abbrev sNetReaders : Stmt := inClass (top 8) 9
theorem scNetReaders : FnScope ["self", "source", "reader"] ["self", "source"] (defScope sNetReaders) := ⟨rfl, rfl, rfl, by decide +kernel, rfl, by decide +kernel, by decide +kernel⟩
def spReaders (CN CU : Addr) : Sp := fun vs H Q E => ∃ (a : Addr) (n : Nat) (R : Rel) (r : Int), vs = [.ref a, .int r] ∧ NetAt CN H a n R ∧ ((0 ≤ r ∧ r < n) → ∀ (p : Addr) (H' : Hp), H p = none → Same H H' → H' p = some (.lst ((rowI R r.toNat n).map V.int)) → Q (.ref p) H') ∧ (¬ (0 ≤ r ∧ r < n) → RaisesU CU r H E)
theorem ok_NetReaders {f : Addr} {fd : FuncData} (F : L2.Fun K "readers" "Net.readers" sNetReaders f fd) (T : NTx K mg CN mc mu) (GCheckReplica : CalX P w K mg base 3 "check_replica" (spCheckReplica CN CU)) : FnOk P w K mg base (L2N.CX P w) 5 f fd ["self", "source"] (spReaders CN CU) := by
  refine F.okN scNetReaders (fun vs H Q E h => ?_) (fun cdv A outer s H vs Q E hr h => ?_)
  · obtain ⟨a, n, R, r, rfl, na, kG, kB⟩ := h
    rfl
  · obtain ⟨a, n, R, r, rfl, na, kG, kB⟩ := h
    have na2 := na
    obtain ⟨⟨dx, d, ha, hd⟩, b1, b2, ir⟩ := na2
    refine ⟨_, (pss_cons (ps_expr (pe_cX GCheckReplica hr (by decide) (by rfl) (L2N.passes_call (L2N.takes_of rfl rfl rfl rfl) fun _ _ _ _ h => h) (pa_cons (pv 0) (pa_cons (pv 1) pa_nil))))
      (pss_one (ps_ret (pe_lc (own := [("reader", 2)]) (g := gName 2) rfl scNetReaders.nd (pi_range1 rfl T.range (pa_cons (pe_fld (pv 0) (by rfl)) pa_nil)) (blkOk_by (N := ["self", "source", "reader"]) (sc := defScope sNetReaders) (by decide +kernel)) (fun _ _ _ _ _ => (pg_name (i := 2) scNetReaders.nd rfl (Or.inl rfl))) (fun _ _ _ _ _ => (pts_one (pt_cmp (pc_din (hu1 hr) (pe_tup (pa_cons (pv 1) (pa_cons (pv 2) pa_nil))) (pe_fldB (K := K) (pv 0) (by rfl) (by rfl))) rfl))) (fun _ _ _ _ _ => (pv 2)))))), ?_⟩
    -- check_replica(self, source)
    refine ⟨_, rfl, _, rfl, _, _, _, _, rfl, (by fail "na"), fun gd1 H1 sm1 => ?_, fun z => RaisesU.back (kB z) (by fail "sm")⟩
    obtain ⟨y, rfl, hy⟩ := toN gd1.1 gd1.2
    rw [Int.toNat_natCast] at kG
    -- return [reader for reader in range(self.count) if (source, reader) in self._links]
    refine ⟨_, rfl, _, _, _, _, _, rfl, (by fail "hp"), T.cl, T.n_count, (by fail "lk"), _, rfl, (by fail "om"), (by fail "om"), fun D1 nD1 => lc_range (lo := 0) (n := ((n : Int)).toNat) (fun i H' => Same H1 H' ∧ H' D1 = some (.lst ((rowI R y i).map V.int))) ⟨by fail "sm", upd_same⟩ (fun i H' hi z => by
      obtain ⟨sm, hl⟩ := z
      have hi2 : i < n := by omega
      have hd1 := sm _ _ (sm1 _ _ hd)
      have ha1 := sm _ _ (sm1 _ _ ha)
      have lb : (rowI R y i).length ≤ i := colI_len (fun a b => R b a) y i
      refine ⟨rfl, _, rfl, _, rfl, (by fail "sz"), fun p1 np1 => ⟨_, rfl, _, _, _, _, _, rfl, (by fail "hp"), T.cl, T.n__links, (by fail "lk"), _, _, rfl, DGet.t (k := [.inl _, .inl _]) (by fail "hp") (by fail "kt"), _, rfl, ?_⟩⟩
      rw [has_key, Int.zero_add, has_natB n R hy hi2]
      refine ifB (fun g => ?_) fun g => ?_
      · refine ⟨_, rfl, _, (by fail "hp"), (by fail "szl"), Same.mut (by fail "sm") nD1, ?_⟩
        rw [upd_same, rowI_col, rowI_col, colI_yes (R := fun a b => R b a) g, List.map_append]
        rfl
      · refine ⟨by fail "sm", ?_⟩
        rw [rowI_col, colI_no (R := fun a b => R b a) g, ← rowI_col]
        fail "hp") fun H' z => by
      obtain ⟨sm, hl⟩ := z
      rw [Int.toNat_natCast] at hl
      exact kG gd1 _ _ (free_back nD1 sm1) (sm1.trans sm) hl⟩
    skip
end
end K02

end
section
set_option Elab.async false
set_option linter.all false
set_option maxRecDepth 100000
set_option maxHeartbeats 800000
namespace K02
open PySem L2 Kit KR KX
local macro_rules | `(tactic| fail "om") => `(tactic| first | omega | (simp only [List.length_map, List.length_append, List.length_cons, List.length_nil]; omega) | (simp only [List.length_map, List.length_append, List.length_cons, List.length_nil] at *; omega) | assumption | decide | fail "no om")
local macro_rules | `(tactic| fail "nz") => `(tactic| first | decide | omega | fail "no nz")
local macro_rules | `(tactic| fail "dv") => `(tactic| exact ⟨by first | decide | omega, by first | decide | omega⟩)
local macro_rules | `(tactic| fail "mul") => `(tactic| first | exact .inr ⟨by decide, by decide⟩ | exact .inl ⟨by decide, by decide⟩ | exact mulF (by decide) (by decide) | exact .inl ⟨by omega, by omega⟩ | exact .inr ⟨by omega, by omega⟩ | fail "no mul")
local macro_rules | `(tactic| fail "sz") => `(tactic| first | assumption | exact Nat.zero_le _ | (show 1 ≤ sizeLine; decide) | (show 2 ≤ sizeLine; decide) | (show 3 ≤ sizeLine; decide) | (show 4 ≤ sizeLine; decide) | (show 5 ≤ sizeLine; decide) | exact Evl.sz_of (by omega) | (refine Evl.sz_of ?_; simp only [List.length_append, List.length_map, List.length_cons, List.length_nil]; omega) | fail "no sz")
local macro_rules | `(tactic| fail "szl") => `(tactic| first | exact Evl.sz_lt (by omega) | (refine Evl.sz_lt ?_; simp only [List.length_append, List.length_map, List.length_cons, List.length_nil]; omega) | fail "no szl")
local macro_rules | `(tactic| fail "ix") => `(tactic| first | assumption | exact ix0 | exact ix1 | exact ix2 | exact at_ref (by assumption) (by omega) | exact at_int (by assumption) (by omega) | exact at_drawn (by assumption) (by assumption) | rfl | fail "no ix")
local macro_rules | `(tactic| fail "ixn") => `(tactic| first | rfl | assumption | fail "no ixn")
local macro_rules | `(tactic| fail "nb") => `(tactic| first | assumption | exact nb_tup | exact nb_nil | exact nb_ints | exact nb_refs | exact nb_ins | exact nb_dT | exact nb_frz | fail "no nb")
local macro_rules | `(tactic| fail "ne") => `(tactic| first | assumption | exact Ne.symm (by assumption) | exact ne_of_none (by assumption) (by assumption) | exact (ne_of_none (by assumption) (by assumption)).symm | exact ne_of (by assumption) (by assumption) (by intro q; cases q) | exact ne_of (by assumption) (by assumption) (by simp) | fail "no ne")
local macro_rules | `(tactic| fail "hp") => `(tactic| first | assumption | exact upd_same | (refine' Tk.get (by assumption) ?k1; (case k1 => fail "tk")) | (with_reducible refine' upd_new ?h1 ?n1; (case n1 => assumption); (case h1 => fail "hp")) | (refine' Same.get (by assumption) ?h1; (case h1 => fail "hp")) | (refine' Kp.get (by assumption) (by fail "bx") ?h1 ?d1; (case h1 => fail "hp"); (case d1 => fail "nb")) | (with_reducible refine' upd_oth ?h1 ?n1; (case n1 => fail "ne"); (case h1 => fail "hp")) | (with_reducible refine' upd_oth ?h1 ?n1; (case h1 => fail "hp"); (case n1 => fail "ne")) | fail "no hp")
local macro_rules | `(tactic| fail "bx") => `(tactic| first | assumption | (with_reducible refine' BoxOk.new ?h1 ?n1; (case n1 => assumption); (case h1 => fail "bx")) | (refine' BoxOk.same (by assumption) ?h1; (case h1 => fail "bx")) | (with_reducible refine' BoxOk.mut ?h1 ?h2 ?n1; (case n1 => assumption); (case h2 => assumption); (case h1 => fail "bx")) | fail "no bx")
local macro_rules | `(tactic| fail "kp") => `(tactic| first | assumption | exact Kp.refl | (with_reducible refine' Kp.at ?h1; (case h1 => fail "kp")) | (with_reducible refine' Kp.new ?h1 ?n1; (case n1 => assumption); (case h1 => fail "kp")) | (with_reducible refine' Kp.mut ?h1 ?n1; (case n1 => assumption); (case h1 => fail "kp")) | (refine' Kp.tr (by assumption) ?h1; (case h1 => fail "kp")) | (refine' Kp.tr (Kp.of (by assumption)) ?h1; (case h1 => fail "kp")) | fail "no kp")
local macro_rules | `(tactic| fail "ite") => `(tactic| first | refine iteT ?_ | refine iteF ?_)
local macro_rules | `(tactic| fail "tt") => `(tactic| first | rfl | exact decide_eq_true (by first | rfl | omega | assumption) | exact decide_eq_true (congrArg V.int (by first | rfl | omega)) | fail "no tt")
local macro_rules | `(tactic| fail "cv") => `(tactic| first | exact .ty _ | exact .own _)
local macro_rules | `(tactic| fail "tx") => `(tactic| first | exact .base (.int _) | exact .base (.bl _) | exact .base .non | exact .base (.lst (by fail "hp")) | exact .base (.tup (by fail "hp")) | fail "no tx")
local macro_rules | `(tactic| fail "dead") => `(tactic| (exfalso; first | omega | contradiction | simp_all))
local macro_rules | `(tactic| fail "dp") => `(tactic| first | exact .tup (SqT.of (by fail "hp")) (.cons (.int _) (.cons (.int _) .nil)) | exact .lst (SqL.of (by fail "hp")) (dpPrs (by fail "pr")) | exact .lst (SqL.of (by fail "hp")) (dpInts _) | exact .lst (SqL.of (by fail "hp")) .nil | fail "no dp")
local macro_rules | `(tactic| fail "shp") => `(tactic| first | assumption | exact prD_shaped _ | exact PySem.W.ke_shaped_ints _ | rfl | fail "no shp")
local macro_rules | `(tactic| fail "pr") => `(tactic| first | assumption | exact PrT.mono (by assumption) (by fail "tk") | fail "no pr")
local macro_rules | `(tactic| fail "tk") => `(tactic| first | assumption | exact Tk.refl | (with_reducible refine' Tk.new ?h1 ?n1; (case n1 => assumption); (case h1 => fail "tk")) | (refine' Tk.tr (Kp.tk (by assumption) (by fail "bx")) ?h1; (case h1 => fail "tk")) | (refine' Tk.tr (Same.tk (by assumption)) ?h1; (case h1 => fail "tk")) | (with_reducible refine' Tk.lst ?h1 ?n1; (case n1 => fail "hp"); (case h1 => fail "tk")) | fail "no tk")
local macro_rules | `(tactic| fail "lk") => `(tactic| first | exact netF_count _ _ | exact netF_links _ _ | exact netF_no _ _ (by decide +kernel) (by decide +kernel) | fail "no lk")
local macro_rules | `(tactic| fail "kt") => `(tactic| first | exact upd_same | assumption | fail "hp")
local macro_rules | `(tactic| fail "na") => `(tactic| first | assumption | (with_reducible refine' NetAt.new ?h1 ?n1; (case n1 => assumption); (case h1 => fail "na")) | (refine' NetAt.same (by assumption) ?h1; (case h1 => fail "na")) | (refine' NetAt.kp (by assumption) (by fail "bx") ?h1; (case h1 => fail "na")) | (with_reducible refine' NetAt.lst ?h1 ?n1; (case n1 => fail "hp"); (case h1 => fail "na")) | fail "no na")
local macro_rules | `(tactic| fail "mono") => `(tactic| first | exact fun _ _ _ _ h q => h _ _ q | exact fun _ _ _ _ h q => (let ⟨v, e, z⟩ := q; ⟨v, e, h _ _ z⟩) | exact fun _ _ _ _ h q => (let ⟨v, e, u, f, z⟩ := q; ⟨v, e, u, f, h _ _ z⟩) | fail "no mono")
local macro_rules | `(tactic| fail "sm") => `(tactic| first | assumption | exact Same.refl _ | (with_reducible refine' Same.new ?h1 ?n1; (case n1 => assumption); (case h1 => fail "sm")) | (refine' Same.tr (by assumption) ?h1; (case h1 => fail "sm")) | fail "no sm")
local macro_rules | `(tactic| fail "fld") => `(tactic| first | (show 0 < 1000; decide) | (show 1 < 1000; decide) | fail "no fld")

section
variable {P : Program} {w : World} {K : PySem.W.Frag} {mg : Str → Option Value} {base : Heap} {CN CI CU CL CS : Addr} {mc mu : Value}

/-- of these links, held at these addresses, the first one that is not good for n replicas is refused -/
def BadRow (CI : Addr) (n : Nat) (as : List Addr) (ps : List (Int × Int)) (H : Hp) (E : XK) : Prop := ∀ (j : Nat) (t : Addr) (p : Int × Int), as[j]? = some t → ps[j]? = some p → ¬ Good n p → (∀ i q, i < j → ps[i]? = some q → Good n q) → RaisesI CI (.ref t) H E
theorem BadRow.back {CI : Addr} {n : Nat} {as : List Addr} {ps : List (Int × Int)} {H H1 : Hp} {E : XK} (k : BadRow CI n as ps H E) (s : Same H H1) : BadRow CI n as ps H1 E := fun j t p h1 h2 h3 h4 => (k j t p h1 h2 h3 h4).back s
def In24 (c : Int) : Prop := 1 ≤ c ∧ c ≤ 24
def spInit (CN CI : Addr) : Sp := fun vs H Q E => ∃ (a dx : Addr) (c : Int) (l : Addr) (as : List Addr) (ps : List (Int × Int)), vs = [.ref a, .int c, .ref l] ∧ H a = some (.ins CN dx []) ∧ H l = some (.lst (as.map V.ref)) ∧ PrT H as ps ∧ as.length < 1200 ∧
  (∀ n : Nat, c = n → 1 ≤ n → n ≤ 24 → (∀ p ∈ ps, Good n p) → ∀ H', Kp a H H' → NetAt CN H' a n (relP ps false) → Q .non H') ∧ (¬ (1 ≤ c ∧ c ≤ 24) → RaisesI CI .non H E) ∧ (∀ n : Nat, c = n → 1 ≤ n → n ≤ 24 → BadRow CI n as ps H E)
/-- a net is made of a count and a list -/
def spMk (CN CI : Addr) : Sp := fun vs H Q E => ∃ (c : Int) (l : Addr) (as : List Addr) (ps : List (Int × Int)), vs = [.int c, .ref l] ∧ H l = some (.lst (as.map V.ref)) ∧ PrT H as ps ∧ as.length < 1200 ∧
  (∀ n : Nat, c = n → 1 ≤ n → n ≤ 24 → (∀ p ∈ ps, Good n p) → ∀ a H', H a = none → Same H H' → NetAt CN H' a n (relP ps false) → Q (.ref a) H') ∧ (¬ (1 ≤ c ∧ c ≤ 24) → RaisesI CI .non H E) ∧ (∀ n : Nat, c = n → 1 ≤ n → n ≤ 24 → BadRow CI n as ps H E)
theorem mk_init {CN CI : Addr} {vs : List V} {H : Hp} {Q : VK} {E : XK} (h : spMk CN CI vs H Q E) : ∀ x dx, H x = none → H dx = none → dx ≠ x → spInit CN CI (.ref x :: (vs ++ [])) (upd (upd H dx (.own x)) x (.ins CN dx [])) (fun v H2 => v = .non ∧ Q (.ref x) H2) E := by
  obtain ⟨c, l, as, ps, rfl, hl, pa, few, kG, kB, kC⟩ := h
  intro x dx nx ndx ne
  have s1 : Same H (upd H dx (.own x)) := Same.new (Same.refl H) ndx
  have n1 : upd H dx (.own x) x = none := by rw [upd_ne (Ne.symm ne)]; exact nx
  have s2 : Same H (upd (upd H dx (.own x)) x (.ins CN dx [])) := Same.new s1 n1
  refine ⟨x, dx, c, l, as, ps, rfl, upd_same, s2 _ _ hl, pa.mono (Same.tk s2), few, fun n e b1 b2 g H' k na => ⟨rfl, kG n e b1 b2 g x H' nx (fun b o hb => k b o (ne_of_none hb nx) (s2 _ _ hb)) na⟩, fun z => (kB z).back s2, fun n e b1 b2 => (kC n e b1 b2).back s2⟩
theorem mem_rowT {R : Rel} {x : Nat} : ∀ {j : Nat} {p : Int × Int}, p ∈ rowT R x j → ∃ y : Nat, y < j ∧ p = ((x : Int), (y : Int)) := by
  intro j p h
  unfold rowT at h
  obtain ⟨y, hy, e⟩ := List.mem_map.mp h
  exact ⟨y, List.mem_range.mp (List.mem_filter.mp hy).1, e.symm⟩
theorem nd_snoc {α : Type} {l : List α} {a : α} (h : l.Nodup) (n : a ∉ l) : (l ++ [a]).Nodup := by
  refine List.nodup_append.mpr ⟨h, List.nodup_cons.mpr ⟨List.not_mem_nil, List.nodup_nil⟩, fun x hx y hy e => ?_⟩
  rw [List.mem_singleton] at hy
  rw [e, hy] at hx
  exact n hx
theorem rowT_nd (R : Rel) (x : Nat) : ∀ j, (rowT R x j).Nodup
  | 0 => List.nodup_nil
  | j + 1 => by
    cases e : R x j with
    | false => rw [rowT_no e]; exact rowT_nd R x j
    | true =>
      rw [rowT_yes e]
      refine nd_snoc (rowT_nd R x j) fun h => ?_
      obtain ⟨y, hy, e2⟩ := mem_rowT h
      have e3 : (j : Int) = (y : Int) := congrArg Prod.snd e2
      omega
theorem mem_tiesTo {n : Nat} {R : Rel} {i : Nat} {p : Int × Int} (h : p ∈ tiesTo n R i) : ∃ x : Nat, x < i ∧ p.1 = (x : Int) := by
  unfold tiesTo at h
  obtain ⟨x, hx, h2⟩ := List.mem_flatMap.mp h
  obtain ⟨y, _, e⟩ := mem_rowT h2
  exact ⟨x, List.mem_range.mp hx, by rw [e]⟩
theorem tiesTo_nd (n : Nat) (R : Rel) : ∀ i, (tiesTo n R i).Nodup
  | 0 => List.nodup_nil
  | i + 1 => by
    rw [tiesTo_succ]
    refine List.nodup_append.mpr ⟨tiesTo_nd n R i, rowT_nd R i n, fun a ha b hb e => ?_⟩
    obtain ⟨x, hx, e1⟩ := mem_tiesTo ha
    obtain ⟨y, _, e2⟩ := mem_rowT hb
    have e3 : b.1 = (i : Int) := by rw [e2]
    rw [← e, e1] at e3
    omega
theorem nd_take {α : Type} {l : List α} {i : Nat} {a : α} (h : l.Nodup) (e : l[i]? = some a) : a ∉ l.take i := by
  intro m
  rw [← List.take_append_drop i l] at h
  refine (List.nodup_append.mp h).2.2 a m a ?_ rfl
  refine List.mem_of_getElem? (i := 0) ?_
  rw [List.getElem?_drop]
  exact e
abbrev kvP (p : Int × Int) : List Key × V := ([.inl p.1, .inl p.2], V.bl true)
theorem put_tie {n : Nat} {R : Rel} {i : Nat} {x y : Int} (e : (ties n R)[i]? = some (x, y)) : putK (((ties n R).take i).map kvP) [.inl x, .inl y] (V.bl true) = ((ties n R).take (i + 1)).map kvP := by
  have h : (valV (((ties n R).take i).map kvP) [.inl x, .inl y]).isSome = false := by
    rw [find_key]
    exact decide_eq_false (nd_take (tiesTo_nd n R n) e)
  rw [putK_new _ (Option.not_isSome_iff_eq_none.mp (by rw [h]; exact Bool.false_ne_true)), take_more' e, List.map_append]
  rfl
theorem dc_list {K : PySem.W.Frag} {a : Addr} {xs : List V} {g : TG} {tk tv : TE} {vs : List Nat} {σ : L2.St} {H1 : Hp} {D : Addr} {Qd : Hp → Prop} (Pv : Nat → Hp → Prop) (h0 : Pv 0 (upd H1 D (.dT []))) (hl : ∀ i H, i ≤ xs.length → Pv i H → SqL K H a xs)
    (hs : ∀ i x H, xs[i]? = some x → Pv i H → g x (wipe σ vs) H fun σ2 H2 => wipe σ2 vs = wipe σ vs ∧ tk σ2 H2 fun y H4 => tv σ2 H4 fun z H5 =>
      ∃ (kvs : List (List Key × V)) (k : List Key) (t : Addr), y = .ref t ∧ H5 t = some (.tup (k.map kV)) ∧ H5 D = some (.dT kvs) ∧ kvs.length < sizeLine ∧ Pv (i + 1) (upd H5 D (.dT (putK kvs k z)))) (hd : ∀ H, Pv xs.length H → Qd H) :
    ∃ W : Nat → Nat → Hp → Prop, (∃ m, W 0 m (upd H1 D (.dT []))) ∧ ∀ i m H, W i m H →
      ((Itl K a).stop i H ∧ Qd H) ∨ ((Itl K a).go i H ∧ ∃ Nx : Hp → Prop, (∀ H', Nx H' → ∃ m', m' < m ∧ W (i + 1) m' H') ∧ ∀ x H', (Itl K a).yld i H x H' → g x (wipe σ vs) H' fun σ2 H2 => wipe σ2 vs = wipe σ vs ∧ tk σ2 H2 fun y H4 => tv σ2 H4 fun z H5 =>
        ∃ (kvs : List (List Key × V)) (k : List Key) (t : Addr), y = .ref t ∧ H5 t = some (.tup (k.map kV)) ∧ H5 D = some (.dT kvs) ∧ kvs.length < sizeLine ∧ Nx (upd H5 D (.dT (putK kvs k z)))) := by
  refine ⟨fun i m H => (m = xs.length - i ∧ i ≤ xs.length) ∧ Pv i H, ⟨xs.length, ⟨by omega, Nat.zero_le _⟩, h0⟩, ?_⟩
  intro i m H w
  obtain ⟨⟨e, hi⟩, p⟩ := w
  rcases Nat.lt_or_ge i xs.length with hlt | hge
  · right
    have sq := hl i H hi p
    refine ⟨⟨xs, xs[i], sq, List.getElem?_eq_getElem hlt⟩, Pv (i + 1), fun H' p' => ⟨xs.length - (i + 1), by omega, ⟨rfl, hlt⟩, p'⟩, fun x H' y => ?_⟩
    obtain ⟨rfl, y⟩ := y
    exact hs i x _ (y xs sq) p
  · left
    obtain rfl : i = xs.length := by omega
    exact ⟨⟨xs, hl _ H hi p, Nat.le_refl _⟩, hd H p⟩
abbrev sNetInit : Stmt := inClass (top 8) 1
theorem scNetInit : FnScope ["self", "count", "links", "link"] ["self", "count", "links"] (defScope sNetInit) := ⟨rfl, rfl, rfl, by decide +kernel, rfl, by decide +kernel, by decide +kernel⟩
theorem ok_NetInit {f : Addr} {fd : FuncData} (F : L2.Fun K "__init__" "Net.__init__" sNetInit f fd) (T : NTx K mg CN mc mu) (GCheckCount : CalX P w K mg base 3 "check_count" (spCheckCount CI)) (GCheckPair : CalX P w K mg base 3 "check_pair" (spCheckPair CI)) : FnOk P w K mg base (L2N.CX P w) 5 f fd ["self", "count", "links"] (spInit CN CI) := by
  refine F.okN scNetInit (fun vs H Q E h => ?_) (fun cdv A outer s H vs Q E hr h => ?_)
  · obtain ⟨a, dx, c, l, as, ps, rfl, ha, hl, pa, few, kG, kB, kD⟩ := h
    rfl
  · obtain ⟨a, dx, c, l, as, ps, rfl, ha, hl, pa, few, kG, kB, kD⟩ := h
    refine ⟨_, (pss_cons (ps_expr (pe_cX GCheckCount hr (by decide) (by rfl) (L2N.passes_call (L2N.takes_of rfl rfl rfl rfl) fun _ _ _ _ h => h) (pa_cons (pv 1) pa_nil)))
      (pss_cons (ps_for (passes_of rfl) rfl (pi_list (pv 2)) (pg_name (i := 3) scNetInit.nd rfl (Or.inl rfl))
        (pss_one (ps_expr (pe_cX GCheckPair hr (by decide) (by rfl) (L2N.passes_call (L2N.takes_of rfl rfl rfl rfl) fun _ _ _ _ h => h) (pa_cons (pv 1) (pa_cons (pv 3) pa_nil))))))
      (pss_cons (ps_fld (pv 0) (pv 1) rfl)
      (pss_one (ps_fld (pv 0) (pe_dcT (own := [("link", 3)]) (g := gName 3) hr.units0 rfl scNetInit.nd (pi_list (pe_sortSet rfl hr.units (by rfl) T.sorted (by rfl) T.set (pv 2))) (blkOk_by (N := ["self", "count", "links", "link"]) (sc := defScope sNetInit) (by decide +kernel)) (fun _ _ _ _ _ => (pg_name (i := 3) scNetInit.nd rfl (Or.inl rfl))) (fun _ _ _ _ _ => (pv 3)) (fun _ _ _ _ _ => pe_bl)) rfl))))), ?_⟩
    -- check_count(count)
    refine ⟨_, rfl, _, rfl, fun gd1 H1 sm1 => ?_, fun z => RaisesI.back (kB z) (by fail "sm")⟩
    obtain ⟨n, rfl, b1, b2⟩ : ∃ n : Nat, c = n ∧ 1 ≤ n ∧ n ≤ 24 := ⟨c.toNat, by omega, by omega, by omega⟩
    -- for link in links:
    refine ⟨_, rfl, _, rfl, ⟨_, SqL.of (by fail "hp")⟩, for_list (K := K) (a := l) (xs := as.map V.ref) (fun i σ H' => Same H H' ∧ (∀ j q, j < i → ps[j]? = some q → Good n q) ∧ ∃ v, σ = [some (.ref a), some (.int (n : Int)), some (.ref l), v]) ⟨sm1, fun j q h => absurd h (by omega), none, rfl⟩ (fun i σ H' _ z => SqL.of (z.1 _ _ hl)) ?_ ?_⟩
    · rintro i y σ H' hi ⟨sm, hg, v, rfl⟩
      obtain ⟨a0, x0, y0, rfl, e1, e2, e3⟩ := pa.item hi
      have e4 := sm _ _ e3
      have kC : ¬ Good n (x0, y0) → RaisesI CI (.ref a0) H E := fun z => kD n rfl b1 b2 i a0 _ e1 e2 z hg
      -- check_pair(count, link)
      refine ⟨_, rfl, _, rfl, _, _, _, _, rfl, (by fail "hp"), fun gd2 H2 sm2 => ?_, fun z => RaisesI.back (kC z) (by fail "sm")⟩
      refine ⟨sm.trans sm2, fun j q hj hq => ?_, _, rfl⟩
      by_cases hji : j = i
      · subst hji
        rw [e2] at hq
        cases hq
        exact gd2
      · exact hg j q (by omega) hq
    · rintro σ H'0 ⟨sm, hg, v, rfl⟩
      have good : ∀ p ∈ ps, Good n p := fun p hp => by
        obtain ⟨j, hj⟩ := List.getElem?_of_mem hp
        refine hg j p ?_ hj
        rw [List.length_map, pa.1]
        exact (List.getElem?_eq_some_iff.mp hj).1
      have ha1 := sm _ _ ha
      have hl1 := sm _ _ hl
      have pa1 := pa.mono (Same.tk sm)
      -- self.count = count
      refine ⟨_, rfl, _, rfl, _, _, _, _, rfl, (by fail "hp"), T.cl, T.n_count, (by fail "fld"), ?_⟩
      have pa2 : PrT (upd H'0 a (.ins CN dx (putF "count" (.int (n : Int)) []))) as ps := pa1.mono (fun t xs h => by rw [upd_ne (ne_of h ha1 (by intro q; cases q))]; exact h)
      have hl2 : upd H'0 a (.ins CN dx (putF "count" (.int (n : Int)) [])) l = some (.lst (as.map V.ref)) := by rw [upd_ne (ne_of hl1 ha1 (by intro q; cases q))]; exact hl1
      -- self._links = {link: True for link in sorted(set(links))}
      refine ⟨_, rfl, _, _, _, _, rfl, (by fail "hp"), (by fail "pr"), few, (by fail "om"), (by assumption), fun p3 bs3 H3 sm3 np3 hp3 pb3 => ⟨_, rfl, ⟨_, SqL.of (by fail "hp")⟩, fun D1 nD1 => dc_list (K := K) (a := p3) (xs := bs3.map V.ref) (fun i H' => Same H3 H' ∧ H' D1 = some (.dT (((ties n (relP ps false)).take i).map kvP))) ⟨Same.new (Same.refl _) nD1, upd_same⟩ (fun i H' _ z => SqL.of (z.1 _ _ hp3)) (fun i x H' hx z => by
      obtain ⟨sm4, hD⟩ := z
      obtain ⟨t, x, y, rfl, e1, e2, e3⟩ := pb3.item hx
      have e4 := sm4 _ _ e3
      have lt := ties_len (relP ps false) b2
      refine ⟨rfl, _, rfl, _, [.inl x, .inl y], _, rfl, e4, hD, ?_, Same.mut sm4 nD1, ?_⟩
      · refine Evl.sz_lt ?_
        rw [List.length_map, List.length_take]
        omega
      · rw [upd_same, put_tie e2]) fun H' z => by
      obtain ⟨sm4, hD⟩ := z
      have hD2 : H' D1 = some (.dT (linkKV n (relP ps false))) := by
        rw [hD, List.length_map, pb3.1, List.take_length]
        rfl
      have ha3 : H' a = some (.ins CN dx (putF "count" (.int (n : Int)) [])) := sm4 _ _ (sm3 _ _ upd_same)
      have ne : D1 ≠ a := ne_of hD2 ha3 (by intro q; cases q)
      refine ⟨_, rfl, _, _, _, _, rfl, ha3, T.cl, T.n__links, (by fail "fld"), ?_⟩
      refine kG n rfl b1 b2 good _ ?_ ⟨⟨dx, D1, upd_same, by rw [upd_ne ne]; exact hD2⟩, b1, b2, fun x y hx hy r => ?_⟩
      · refine Kp.at fun q o hq h => sm4 _ _ (sm3 _ _ ?_)
        rw [upd_ne hq]
        exact sm _ _ h
      · obtain h | h := relP_iff.mp r
        · have g := (good _ h).2.2.2.2
          intro e
          exact g (by rw [e])
        · exact absurd h.1 Bool.false_ne_true⟩⟩
      skip
end
end K02

end
section
set_option Elab.async false
set_option linter.all false
set_option maxRecDepth 100000
set_option maxHeartbeats 800000
namespace K02
open PySem L2 Kit KR KX
local macro_rules | `(tactic| fail "om") => `(tactic| first | omega | (simp only [List.length_map, List.length_append, List.length_cons, List.length_nil]; omega) | (simp only [List.length_map, List.length_append, List.length_cons, List.length_nil] at *; omega) | assumption | decide | fail "no om")
local macro_rules | `(tactic| fail "nz") => `(tactic| first | decide | omega | fail "no nz")
local macro_rules | `(tactic| fail "dv") => `(tactic| exact ⟨by first | decide | omega, by first | decide | omega⟩)
local macro_rules | `(tactic| fail "mul") => `(tactic| first | exact .inr ⟨by decide, by decide⟩ | exact .inl ⟨by decide, by decide⟩ | exact mulF (by decide) (by decide) | exact .inl ⟨by omega, by omega⟩ | exact .inr ⟨by omega, by omega⟩ | fail "no mul")
local macro_rules | `(tactic| fail "sz") => `(tactic| first | assumption | exact Nat.zero_le _ | (show 1 ≤ sizeLine; decide) | (show 2 ≤ sizeLine; decide) | (show 3 ≤ sizeLine; decide) | (show 4 ≤ sizeLine; decide) | (show 5 ≤ sizeLine; decide) | exact Evl.sz_of (by omega) | (refine Evl.sz_of ?_; simp only [List.length_append, List.length_map, List.length_cons, List.length_nil]; omega) | fail "no sz")
local macro_rules | `(tactic| fail "szl") => `(tactic| first | exact Evl.sz_lt (by omega) | (refine Evl.sz_lt ?_; simp only [List.length_append, List.length_map, List.length_cons, List.length_nil]; omega) | fail "no szl")
local macro_rules | `(tactic| fail "ix") => `(tactic| first | assumption | exact ix0 | exact ix1 | exact ix2 | exact at_ref (by assumption) (by omega) | exact at_int (by assumption) (by omega) | exact at_drawn (by assumption) (by assumption) | rfl | fail "no ix")
local macro_rules | `(tactic| fail "ixn") => `(tactic| first | rfl | assumption | fail "no ixn")
local macro_rules | `(tactic| fail "nb") => `(tactic| first | assumption | exact nb_tup | exact nb_nil | exact nb_ints | exact nb_refs | exact nb_ins | exact nb_dT | exact nb_frz | fail "no nb")
local macro_rules | `(tactic| fail "ne") => `(tactic| first | assumption | exact Ne.symm (by assumption) | exact ne_of_none (by assumption) (by assumption) | exact (ne_of_none (by assumption) (by assumption)).symm | exact ne_of (by assumption) (by assumption) (by intro q; cases q) | exact ne_of (by assumption) (by assumption) (by simp) | fail "no ne")
local macro_rules | `(tactic| fail "hp") => `(tactic| first | assumption | exact upd_same | (refine' Tk.get (by assumption) ?k1; (case k1 => fail "tk")) | (with_reducible refine' upd_new ?h1 ?n1; (case n1 => assumption); (case h1 => fail "hp")) | (refine' Same.get (by assumption) ?h1; (case h1 => fail "hp")) | (refine' Kp.get (by assumption) (by fail "bx") ?h1 ?d1; (case h1 => fail "hp"); (case d1 => fail "nb")) | (with_reducible refine' upd_oth ?h1 ?n1; (case n1 => fail "ne"); (case h1 => fail "hp")) | (with_reducible refine' upd_oth ?h1 ?n1; (case h1 => fail "hp"); (case n1 => fail "ne")) | fail "no hp")
local macro_rules | `(tactic| fail "bx") => `(tactic| first | assumption | (with_reducible refine' BoxOk.new ?h1 ?n1; (case n1 => assumption); (case h1 => fail "bx")) | (refine' BoxOk.same (by assumption) ?h1; (case h1 => fail "bx")) | (with_reducible refine' BoxOk.mut ?h1 ?h2 ?n1; (case n1 => assumption); (case h2 => assumption); (case h1 => fail "bx")) | fail "no bx")
local macro_rules | `(tactic| fail "kp") => `(tactic| first | assumption | exact Kp.refl | (with_reducible refine' Kp.at ?h1; (case h1 => fail "kp")) | (with_reducible refine' Kp.new ?h1 ?n1; (case n1 => assumption); (case h1 => fail "kp")) | (with_reducible refine' Kp.mut ?h1 ?n1; (case n1 => assumption); (case h1 => fail "kp")) | (refine' Kp.tr (by assumption) ?h1; (case h1 => fail "kp")) | (refine' Kp.tr (Kp.of (by assumption)) ?h1; (case h1 => fail "kp")) | fail "no kp")
local macro_rules | `(tactic| fail "ite") => `(tactic| first | refine iteT ?_ | refine iteF ?_)
local macro_rules | `(tactic| fail "tt") => `(tactic| first | rfl | exact decide_eq_true (by first | rfl | omega | assumption) | exact decide_eq_true (congrArg V.int (by first | rfl | omega)) | fail "no tt")
local macro_rules | `(tactic| fail "cv") => `(tactic| first | exact .ty _ | exact .own _)
local macro_rules | `(tactic| fail "tx") => `(tactic| first | exact .base (.int _) | exact .base (.bl _) | exact .base .non | exact .base (.lst (by fail "hp")) | exact .base (.tup (by fail "hp")) | fail "no tx")
local macro_rules | `(tactic| fail "dead") => `(tactic| (exfalso; first | omega | contradiction | simp_all))
local macro_rules | `(tactic| fail "dp") => `(tactic| first | exact .tup (SqT.of (by fail "hp")) (.cons (.int _) (.cons (.int _) .nil)) | exact .lst (SqL.of (by fail "hp")) (dpPrs (by fail "pr")) | exact .lst (SqL.of (by fail "hp")) (dpInts _) | exact .lst (SqL.of (by fail "hp")) .nil | fail "no dp")
local macro_rules | `(tactic| fail "shp") => `(tactic| first | assumption | exact prD_shaped _ | exact PySem.W.ke_shaped_ints _ | rfl | fail "no shp")
local macro_rules | `(tactic| fail "pr") => `(tactic| first | assumption | exact PrT.mono (by assumption) (by fail "tk") | fail "no pr")
local macro_rules | `(tactic| fail "tk") => `(tactic| first | assumption | exact Tk.refl | (with_reducible refine' Tk.new ?h1 ?n1; (case n1 => assumption); (case h1 => fail "tk")) | (refine' Tk.tr (Kp.tk (by assumption) (by fail "bx")) ?h1; (case h1 => fail "tk")) | (refine' Tk.tr (Same.tk (by assumption)) ?h1; (case h1 => fail "tk")) | (with_reducible refine' Tk.lst ?h1 ?n1; (case n1 => fail "hp"); (case h1 => fail "tk")) | fail "no tk")
local macro_rules | `(tactic| fail "lk") => `(tactic| first | exact netF_count _ _ | exact netF_links _ _ | exact netF_no _ _ (by decide +kernel) (by decide +kernel) | fail "no lk")
local macro_rules | `(tactic| fail "kt") => `(tactic| first | exact upd_same | assumption | fail "hp")
local macro_rules | `(tactic| fail "na") => `(tactic| first | assumption | (with_reducible refine' NetAt.new ?h1 ?n1; (case n1 => assumption); (case h1 => fail "na")) | (refine' NetAt.same (by assumption) ?h1; (case h1 => fail "na")) | (refine' NetAt.kp (by assumption) (by fail "bx") ?h1; (case h1 => fail "na")) | (with_reducible refine' NetAt.lst ?h1 ?n1; (case n1 => fail "hp"); (case h1 => fail "na")) | fail "no na")
local macro_rules | `(tactic| fail "mono") => `(tactic| first | exact fun _ _ _ _ h q => h _ _ q | exact fun _ _ _ _ h q => (let ⟨v, e, z⟩ := q; ⟨v, e, h _ _ z⟩) | exact fun _ _ _ _ h q => (let ⟨v, e, u, f, z⟩ := q; ⟨v, e, u, f, h _ _ z⟩) | fail "no mono")
local macro_rules | `(tactic| fail "sm") => `(tactic| first | assumption | exact Same.refl _ | (with_reducible refine' Same.new ?h1 ?n1; (case n1 => assumption); (case h1 => fail "sm")) | (refine' Same.tr (by assumption) ?h1; (case h1 => fail "sm")) | fail "no sm")
local macro_rules | `(tactic| fail "fld") => `(tactic| first | (show 0 < 1000; decide) | (show 1 < 1000; decide) | fail "no fld")

section
variable {P : Program} {w : World} {K : PySem.W.Frag} {mg : Str → Option Value} {base : Heap} {CN CI CU CL CS : Addr} {mc mu : Value}

def RaisesP (CI : Addr) (p : Int × Int) (H : Hp) (E : XK) : Prop := ∀ (d t : Addr) (H' : Hp), H d = none → Same H H' → H' t = some (.tup [.int p.1, .int p.2]) → H' d = some (.xd [("link", .ref t)]) → E (.ref CI) (some d) H'
theorem RaisesP.back {CI : Addr} {p : Int × Int} {H H1 : Hp} {E : XK} (k : RaisesP CI p H E) (s : Same H H1) : RaisesP CI p H1 E := fun d t H' nd sm h xd => k d t H' (free_back nd s) (s.trans sm) h xd
theorem RaisesP.at {CI t : Addr} {x y : Int} {H H1 : Hp} {E : XK} (k : RaisesP CI (x, y) H E) (s : Same H H1) (h : H1 t = some (.tup [.int x, .int y])) : RaisesI CI (.ref t) H1 E := fun d H' nd sm xd => k d t H' (free_back nd s) (s.trans sm) (sm _ _ h) xd
/-- the first of these that is not good is refused -/
def BadP (CI : Addr) (n : Nat) (ps : List (Int × Int)) (H : Hp) (E : XK) : Prop := ∀ (j : Nat) (p : Int × Int), ps[j]? = some p → ¬ Good n p → (∀ i q, i < j → ps[i]? = some q → Good n q) → RaisesP CI p H E
theorem BadP.row {CI : Addr} {n : Nat} {as : List Addr} {ps : List (Int × Int)} {H H1 : Hp} {E : XK} (k : BadP CI n ps H E) (s : Same H H1) (pa : PrT H1 as ps) : BadRow CI n as ps H1 E := fun j t p h1 h2 h3 h4 => RaisesP.at (x := p.1) (y := p.2) (k j p h2 h3 h4) s (pa.2 j t p h1 h2)
theorem BadRow.none {CI : Addr} {n : Nat} {as : List Addr} {ps : List (Int × Int)} {H : Hp} {E : XK} (g : ∀ p ∈ ps, Good n p) : BadRow CI n as ps H E := fun _ _ p _ h2 h3 _ => absurd (g p (List.mem_of_getElem? h2)) h3
theorem BadP.none {CI : Addr} {n : Nat} {ps : List (Int × Int)} {H : Hp} {E : XK} (g : ∀ p ∈ ps, Good n p) : BadP CI n ps H E := fun _ p h2 h3 _ => absurd (g p (List.mem_of_getElem? h2)) h3
theorem NetAt.congr {C : Addr} {H : Hp} {a : Addr} {n : Nat} {R R' : Rel} (h : NetAt C H a n R) (e : ∀ x y, x < n → y < n → R x y = R' x y) : NetAt C H a n R' := by
  obtain ⟨⟨dx, d, h1, h2⟩, b1, b2, ir⟩ := h
  refine ⟨⟨dx, d, h1, ?_⟩, b1, b2, fun x y hx hy r => ir x y hx hy (by rw [e x y hx hy]; exact r)⟩
  rw [h2]
  unfold linkKV
  rw [ties_congr e]
/-- both ways -/
def dbl (ps : List (Int × Int)) : List (Int × Int) := ps.flatMap fun p => [(p.1, p.2), (p.2, p.1)]
theorem dbl_snoc (ps : List (Int × Int)) (x y : Int) : dbl (ps ++ [(x, y)]) = dbl ps ++ [(x, y)] ++ [(y, x)] := by
  unfold dbl
  rw [List.flatMap_append, List.append_assoc]
  rfl
theorem dbl_len (ps : List (Int × Int)) : (dbl ps).length = 2 * ps.length := by
  induction ps with
  | nil => rfl
  | cons p t ih =>
    show (dbl t).length + 1 + 1 = 2 * (t.length + 1)
    omega
theorem dbl_at : ∀ (ps : List (Int × Int)) (i : Nat), (dbl ps)[2 * i]? = ps[i]? ∧ (dbl ps)[2 * i + 1]? = (ps[i]?).map fun p => (p.2, p.1)
  | [], i => ⟨by simp [dbl], by simp [dbl]⟩
  | p :: t, 0 => ⟨rfl, rfl⟩
  | p :: t, i + 1 => by
    have h := dbl_at t i
    refine ⟨?_, ?_⟩
    · have e : 2 * (i + 1) = 2 * i + 1 + 1 := by omega
      rw [e]
      exact h.1
    · have e : 2 * (i + 1) + 1 = 2 * i + 1 + 1 + 1 := by omega
      rw [e]
      exact h.2
theorem good_swap {n : Nat} {x y : Int} (g : Good n (x, y)) : Good n (y, x) := ⟨g.2.2.1, g.2.2.2.1, g.1, g.2.1, fun e => g.2.2.2.2 e.symm⟩
theorem mem_dbl {ps : List (Int × Int)} {x y : Int} : (x, y) ∈ dbl ps ↔ (x, y) ∈ ps ∨ (y, x) ∈ ps := by
  unfold dbl
  rw [List.mem_flatMap]
  constructor
  · rintro ⟨⟨a, b⟩, h, m⟩
    rcases List.mem_cons.mp m with e | m
    · cases e
      exact .inl h
    · cases List.mem_singleton.mp m
      exact .inr h
  · rintro (h | h)
    · exact ⟨_, h, List.mem_cons_self⟩
    · exact ⟨_, h, List.mem_cons_of_mem _ List.mem_cons_self⟩
theorem dbl_good {n : Nat} {ps : List (Int × Int)} (g : ∀ p ∈ dbl ps, Good n p) : ∀ p ∈ ps, Good n p := fun p h => g p (mem_dbl.mpr (.inl h))
theorem good_dbl {n : Nat} {ps : List (Int × Int)} (g : ∀ p ∈ ps, Good n p) : ∀ p ∈ dbl ps, Good n p := fun p h => by
  obtain ⟨x, y⟩ := p
  rcases mem_dbl.mp h with h | h
  · exact g _ h
  · exact good_swap (g _ h)
theorem dbl_rel (ps : List (Int × Int)) : relP (dbl ps) false = relP ps true := by
  funext x y
  rw [Bool.eq_iff_iff, relP_iff, relP_iff, mem_dbl]
  simp
theorem dbl_bad {CI : Addr} {n : Nat} {bs : List Addr} {ps : List (Int × Int)} {H H1 : Hp} {E : XK} (k : BadP CI n ps H E) (s : Same H H1) (pa : PrT H1 bs (dbl ps)) : BadRow CI n bs (dbl ps) H1 E := by
  intro j t p h1 h2 h3 h4
  have ht := pa.2 j t p h1 h2
  obtain ⟨i, e | e⟩ : ∃ i, j = 2 * i ∨ j = 2 * i + 1 := ⟨j / 2, by omega⟩
  · subst e
    rw [(dbl_at ps i).1] at h2
    exact RaisesP.at (x := p.1) (y := p.2) (k i p h2 h3 fun i' q hi hq => h4 (2 * i') q (by omega) (by rw [(dbl_at ps i').1]; exact hq)) s ht
  · subst e
    rw [(dbl_at ps i).2] at h2
    cases q : ps[i]? with
    | none => rw [q] at h2; cases h2
    | some z =>
      rw [q] at h2
      cases h2
      exact absurd (good_swap (h4 (2 * i) z (by omega) (by rw [(dbl_at ps i).1]; exact q))) h3
def spBoth (CN CI : Addr) : Sp := fun vs H Q E => ∃ (c : Int) (l : Addr) (as : List Addr) (ps : List (Int × Int)), vs = [.ref CN, .int c, .ref l] ∧ H l = some (.lst (as.map V.ref)) ∧ PrT H as ps ∧ as.length ≤ 500 ∧
  (∀ n : Nat, c = n → 1 ≤ n → n ≤ 24 → (∀ p ∈ ps, Good n p) → ∀ a H', H a = none → Same H H' → NetAt CN H' a n (relP ps true) → Q (.ref a) H') ∧ (¬ (1 ≤ c ∧ c ≤ 24) → RaisesI CI .non H E) ∧ (∀ n : Nat, c = n → 1 ≤ n → n ≤ 24 → BadP CI n ps H E)
abbrev sNetBothWays : Stmt := inClass (top 8) 2
theorem scNetBothWays : FnScope ["cls", "count", "pairs", "links", "x", "y"] ["cls", "count", "pairs"] (defScope sNetBothWays) := ⟨rfl, rfl, rfl, by decide +kernel, rfl, by decide +kernel, by decide +kernel⟩
theorem ok_NetBothWays {f : Addr} {fd : FuncData} (F : L2.Fun K "both_ways" "Net.both_ways" sNetBothWays f fd) (T : NTx K mg CN mc mu) (KNet : MakX P w K mg base 5 "Net" CN (spInit CN CI)) : FnOk P w K mg base (L2N.CX P w) 7 f fd ["cls", "count", "pairs"] (spBoth CN CI) := by
  refine F.okN scNetBothWays (fun vs H Q E h => ?_) (fun cdv A outer s H vs Q E hr h => ?_)
  · obtain ⟨c, l, as, ps, rfl, hl, pa, la, kG, kB, kC⟩ := h
    rfl
  · obtain ⟨c, l, as, ps, rfl, hl, pa, la, kG, kB, kC⟩ := h
    refine ⟨_, (pss_cons (ps_set (i := 3) scNetBothWays.nd rfl (Or.inl rfl) (pe_lst pa_nil))
      (pss_cons (ps_for (passes_of rfl) rfl (pi_list (pv 2)) (pg_tup rfl (pgs_cons (pg_name (i := 4) scNetBothWays.nd rfl (Or.inl rfl)) (pgs_cons (pg_name (i := 5) scNetBothWays.nd rfl (Or.inl rfl)) pgs_nil)))
        (pss_cons (ps_expr (pe_bm PySem.F.plainAttrs_list PySem.F.slot_list_append PySem.F.type_list_append mt_append (pv 3) (pa_cons (pe_tup (pa_cons (pv 4) (pa_cons (pv 5) pa_nil))) pa_nil)))
        (pss_one (ps_expr (pe_bm PySem.F.plainAttrs_list PySem.F.slot_list_append PySem.F.type_list_append mt_append (pv 3) (pa_cons (pe_tup (pa_cons (pv 5) (pa_cons (pv 4) pa_nil))) pa_nil))))))
      (pss_one (ps_ret (pe_mkL (i := 0) KNet hr (by decide) (L2N.passes_call (L2N.takes_of rfl rfl rfl rfl) fun _ _ _ _ h => h) rfl (Or.inl rfl) (pa_cons (pv 1) (pa_cons (pv 3) pa_nil))))))), ?_⟩
    -- links = []
    refine ⟨(by fail "sz"), fun p1 np1 => ?_⟩
    -- for x, y in pairs:
    refine ⟨_, rfl, _, rfl, ⟨_, SqL.of (by fail "hp")⟩, for_list (K := K) (a := l) (xs := as.map V.ref) (fun i σ H' => ∃ (bs : List Addr) (v w : Option V), σ = [some (.ref CN), some (.int c), some (.ref l), some (.ref p1), v, w] ∧ Same H H' ∧ H' p1 = some (.lst (bs.map V.ref)) ∧ PrT H' bs (dbl (ps.take i))) ⟨[], none, none, rfl, Same.new (Same.refl H) np1, upd_same, PrT.nil⟩ (fun i σ H' _ z => by obtain ⟨bs, v, w, _, sm, _⟩ := z; exact SqL.of (sm _ _ hl)) ?_ ?_⟩
    · rintro i y σ H' hi ⟨bs, v, w, rfl, sm, hp, pb⟩
      obtain ⟨a0, x0, y0, rfl, e1, e2, e3⟩ := pa.item hi
      have e4 := sm _ _ e3
      have lb : bs.length ≤ 2000 := by
        rw [pb.1, dbl_len, List.length_take, ← pa.1]
        omega
      refine ⟨_, _, rfl, SqT.of e4, rfl, _, _, rfl, _, _, rfl, rfl, ?_⟩
      -- links.append((x, y))
      refine ⟨_, rfl, .inl ⟨rfl, _, SqL.of (by fail "hp")⟩, _, rfl, _, rfl, (by fail "sz"), fun p2 np2 => ⟨_, _, _, rfl, rfl, (by fail "hp"), (by fail "szl"), ?_⟩⟩
      -- links.append((y, x))
      refine ⟨_, rfl, .inl ⟨rfl, _, SqL.of (by fail "hp")⟩, _, rfl, _, rfl, (by fail "sz"), fun p3 np3 => ⟨_, _, _, rfl, rfl, (by fail "hp"), (by fail "szl"), ?_⟩⟩
      refine ⟨bs ++ [p2] ++ [p3], _, _, rfl, Same.mut (Same.new (Same.mut (Same.new sm np2) np1) np3) np1, ?_, ?_⟩
      · rw [upd_same, List.map_append, List.map_append]
        rfl
      · rw [take_more' e2, dbl_snoc]
        refine PrT.snoc (PrT.snoc (pb.mono (by fail "tk")) ?_) ?_
        · fail "hp"
        · have q31 : p3 ≠ p1 := fun z => by
            rw [z, upd_same] at np3
            cases np3
          rw [upd_ne q31, upd_same]
    · rintro σ H' ⟨bs, v, w, rfl, sm, hp, pb⟩
      rw [List.length_map, pa.1, List.take_length] at pb
      -- return cls(count, links)
      refine ⟨rfl, _, rfl, _, rfl, mk_init ⟨_, _, _, _, rfl, (by fail "hp"), (by fail "pr"), (by rw [pb.1, dbl_len, ← pa.1]; omega), fun n4 e4 c4 d4 g4 a4 H4 na4 sm4 nt4 => ?_, fun z => RaisesI.back (kB z) (by fail "sm"), fun n e b1 b2 => dbl_bad (kC n e b1 b2) (by fail "sm") pb⟩⟩
      rw [dbl_rel] at nt4
      exact kG n4 e4 c4 d4 (dbl_good g4) a4 H4 (free_back na4 sm) (sm.trans sm4) nt4
theorem ne_of_none' {H : Hp} {p q : Addr} {o : HO} (n : H p = none) (h : H q = some o) : p ≠ q := fun z => by
  rw [z, h] at n
  cases n
/-- a net of one count, always the same -/
def spNamed (CN CI : Addr) (S : Nat → Rel) : Sp := fun vs H Q E => ∃ (c : Int), vs = [.ref CN, .int c] ∧ (∀ n : Nat, c = n → 1 ≤ n → n ≤ 24 → ∀ a H', H a = none → Same H H' → NetAt CN H' a n (S n) → Q (.ref a) H') ∧ (¬ (1 ≤ c ∧ c ≤ 24) → RaisesI CI .non H E)
def lineR (_ : Nat) : Rel := fun x y => decide (y = x + 1 ∨ x = y + 1)
def starR (_ : Nat) : Rel := fun x y => decide (x ≠ y ∧ (x = 0 ∨ y = 0))
def wholeR (_ : Nat) : Rel := fun x y => decide (x ≠ y)
def ringR (n : Nat) : Rel := fun x y => decide (x ≠ y ∧ y = (x + 1) % n)
theorem rel_map {n : Nat} {R : Rel} {both : Bool} {k : Nat} {f : Nat → Int × Int} (h : ∀ x y, x < n → y < n → (R x y = true ↔ ((∃ i, i < k ∧ f i = ((x : Int), (y : Int))) ∨ (both = true ∧ ∃ i, i < k ∧ f i = ((y : Int), (x : Int)))))) : ∀ x y, x < n → y < n → relP ((List.range k).map f) both x y = R x y := by
  intro x y hx hy
  rw [Bool.eq_iff_iff, relP_iff, h x y hx hy]
  simp only [List.mem_map, List.mem_range]
theorem good_map {n k : Nat} {f : Nat → Int × Int} (h : ∀ i, i < k → Good n (f i)) : ∀ p ∈ (List.range k).map f, Good n p := by
  intro p hp
  obtain ⟨i, hi, rfl⟩ := List.mem_map.mp hp
  exact h i (List.mem_range.mp hi)
theorem ring_step {n i : Nat} (h2 : 2 ≤ n) (hi : i < n) : (i + 1) % n < n ∧ (i + 1) % n ≠ i := by
  refine ⟨Nat.mod_lt _ (by omega), ?_⟩
  by_cases h : i + 1 < n
  · rw [Nat.mod_eq_of_lt h]
    omega
  · have e : i + 1 = n := by omega
    rw [e, Nat.mod_self]
    omega
theorem ring_int (n i : Nat) : ((0 : Int) + (i : Int) + 1).fmod (n : Int) = (((i + 1) % n : Nat) : Int) := by
  rw [Int.fmod_eq_emod_of_nonneg _ (by omega), show (0 : Int) + (i : Int) + 1 = ((i + 1 : Nat) : Int) by omega]
  rfl
theorem relP_nil (both : Bool) (x y : Nat) : relP [] both x y = false := rfl
end
end K02

end
section
set_option Elab.async false
set_option linter.all false
set_option maxRecDepth 100000
set_option maxHeartbeats 800000
namespace K02
open PySem L2 Kit KR KX
local macro_rules | `(tactic| fail "om") => `(tactic| first | omega | (simp only [List.length_map, List.length_append, List.length_cons, List.length_nil]; omega) | (simp only [List.length_map, List.length_append, List.length_cons, List.length_nil] at *; omega) | assumption | decide | fail "no om")
local macro_rules | `(tactic| fail "nz") => `(tactic| first | decide | omega | fail "no nz")
local macro_rules | `(tactic| fail "dv") => `(tactic| exact ⟨by first | decide | omega, by first | decide | omega⟩)
local macro_rules | `(tactic| fail "mul") => `(tactic| first | exact .inr ⟨by decide, by decide⟩ | exact .inl ⟨by decide, by decide⟩ | exact mulF (by decide) (by decide) | exact .inl ⟨by omega, by omega⟩ | exact .inr ⟨by omega, by omega⟩ | fail "no mul")
local macro_rules | `(tactic| fail "sz") => `(tactic| first | assumption | exact Nat.zero_le _ | (show 1 ≤ sizeLine; decide) | (show 2 ≤ sizeLine; decide) | (show 3 ≤ sizeLine; decide) | (show 4 ≤ sizeLine; decide) | (show 5 ≤ sizeLine; decide) | exact Evl.sz_of (by omega) | (refine Evl.sz_of ?_; simp only [List.length_append, List.length_map, List.length_cons, List.length_nil]; omega) | fail "no sz")
local macro_rules | `(tactic| fail "szl") => `(tactic| first | exact Evl.sz_lt (by omega) | (refine Evl.sz_lt ?_; simp only [List.length_append, List.length_map, List.length_cons, List.length_nil]; omega) | fail "no szl")
local macro_rules | `(tactic| fail "ix") => `(tactic| first | assumption | exact ix0 | exact ix1 | exact ix2 | exact at_ref (by assumption) (by omega) | exact at_int (by assumption) (by omega) | exact at_drawn (by assumption) (by assumption) | rfl | fail "no ix")
local macro_rules | `(tactic| fail "ixn") => `(tactic| first | rfl | assumption | fail "no ixn")
local macro_rules | `(tactic| fail "nb") => `(tactic| first | assumption | exact nb_tup | exact nb_nil | exact nb_ints | exact nb_refs | exact nb_ins | exact nb_dT | exact nb_frz | fail "no nb")
local macro_rules | `(tactic| fail "ne") => `(tactic| first | assumption | exact Ne.symm (by assumption) | exact ne_of_none (by assumption) (by assumption) | exact (ne_of_none (by assumption) (by assumption)).symm | exact ne_of (by assumption) (by assumption) (by intro q; cases q) | exact ne_of (by assumption) (by assumption) (by simp) | fail "no ne")
local macro_rules | `(tactic| fail "hp") => `(tactic| first | assumption | exact upd_same | (refine' Tk.get (by assumption) ?k1; (case k1 => fail "tk")) | (with_reducible refine' upd_new ?h1 ?n1; (case n1 => assumption); (case h1 => fail "hp")) | (refine' Same.get (by assumption) ?h1; (case h1 => fail "hp")) | (refine' Kp.get (by assumption) (by fail "bx") ?h1 ?d1; (case h1 => fail "hp"); (case d1 => fail "nb")) | (with_reducible refine' upd_oth ?h1 ?n1; (case n1 => fail "ne"); (case h1 => fail "hp")) | (with_reducible refine' upd_oth ?h1 ?n1; (case h1 => fail "hp"); (case n1 => fail "ne")) | fail "no hp")
local macro_rules | `(tactic| fail "bx") => `(tactic| first | assumption | (with_reducible refine' BoxOk.new ?h1 ?n1; (case n1 => assumption); (case h1 => fail "bx")) | (refine' BoxOk.same (by assumption) ?h1; (case h1 => fail "bx")) | (with_reducible refine' BoxOk.mut ?h1 ?h2 ?n1; (case n1 => assumption); (case h2 => assumption); (case h1 => fail "bx")) | fail "no bx")
local macro_rules | `(tactic| fail "kp") => `(tactic| first | assumption | exact Kp.refl | (with_reducible refine' Kp.at ?h1; (case h1 => fail "kp")) | (with_reducible refine' Kp.new ?h1 ?n1; (case n1 => assumption); (case h1 => fail "kp")) | (with_reducible refine' Kp.mut ?h1 ?n1; (case n1 => assumption); (case h1 => fail "kp")) | (refine' Kp.tr (by assumption) ?h1; (case h1 => fail "kp")) | (refine' Kp.tr (Kp.of (by assumption)) ?h1; (case h1 => fail "kp")) | fail "no kp")
local macro_rules | `(tactic| fail "ite") => `(tactic| first | refine iteT ?_ | refine iteF ?_)
local macro_rules | `(tactic| fail "tt") => `(tactic| first | rfl | exact decide_eq_true (by first | rfl | omega | assumption) | exact decide_eq_true (congrArg V.int (by first | rfl | omega)) | fail "no tt")
local macro_rules | `(tactic| fail "cv") => `(tactic| first | exact .ty _ | exact .own _)
local macro_rules | `(tactic| fail "tx") => `(tactic| first | exact .base (.int _) | exact .base (.bl _) | exact .base .non | exact .base (.lst (by fail "hp")) | exact .base (.tup (by fail "hp")) | fail "no tx")
local macro_rules | `(tactic| fail "dead") => `(tactic| (exfalso; first | omega | contradiction | simp_all))
local macro_rules | `(tactic| fail "dp") => `(tactic| first | exact .tup (SqT.of (by fail "hp")) (.cons (.int _) (.cons (.int _) .nil)) | exact .lst (SqL.of (by fail "hp")) (dpPrs (by fail "pr")) | exact .lst (SqL.of (by fail "hp")) (dpInts _) | exact .lst (SqL.of (by fail "hp")) .nil | fail "no dp")
local macro_rules | `(tactic| fail "shp") => `(tactic| first | assumption | exact prD_shaped _ | exact PySem.W.ke_shaped_ints _ | rfl | fail "no shp")
local macro_rules | `(tactic| fail "pr") => `(tactic| first | assumption | exact PrT.mono (by assumption) (by fail "tk") | fail "no pr")
local macro_rules | `(tactic| fail "tk") => `(tactic| first | assumption | exact Tk.refl | (with_reducible refine' Tk.new ?h1 ?n1; (case n1 => assumption); (case h1 => fail "tk")) | (refine' Tk.tr (Kp.tk (by assumption) (by fail "bx")) ?h1; (case h1 => fail "tk")) | (refine' Tk.tr (Same.tk (by assumption)) ?h1; (case h1 => fail "tk")) | (with_reducible refine' Tk.lst ?h1 ?n1; (case n1 => fail "hp"); (case h1 => fail "tk")) | fail "no tk")
local macro_rules | `(tactic| fail "lk") => `(tactic| first | exact netF_count _ _ | exact netF_links _ _ | exact netF_no _ _ (by decide +kernel) (by decide +kernel) | fail "no lk")
local macro_rules | `(tactic| fail "kt") => `(tactic| first | exact upd_same | assumption | fail "hp")
local macro_rules | `(tactic| fail "na") => `(tactic| first | assumption | (with_reducible refine' NetAt.new ?h1 ?n1; (case n1 => assumption); (case h1 => fail "na")) | (refine' NetAt.same (by assumption) ?h1; (case h1 => fail "na")) | (refine' NetAt.kp (by assumption) (by fail "bx") ?h1; (case h1 => fail "na")) | (with_reducible refine' NetAt.lst ?h1 ?n1; (case n1 => fail "hp"); (case h1 => fail "na")) | fail "no na")
local macro_rules | `(tactic| fail "mono") => `(tactic| first | exact fun _ _ _ _ h q => h _ _ q | exact fun _ _ _ _ h q => (let ⟨v, e, z⟩ := q; ⟨v, e, h _ _ z⟩) | exact fun _ _ _ _ h q => (let ⟨v, e, u, f, z⟩ := q; ⟨v, e, u, f, h _ _ z⟩) | fail "no mono")
local macro_rules | `(tactic| fail "sm") => `(tactic| first | assumption | exact Same.refl _ | (with_reducible refine' Same.new ?h1 ?n1; (case n1 => assumption); (case h1 => fail "sm")) | (refine' Same.tr (by assumption) ?h1; (case h1 => fail "sm")) | fail "no sm")
local macro_rules | `(tactic| fail "fld") => `(tactic| first | (show 0 < 1000; decide) | (show 1 < 1000; decide) | fail "no fld")

section
variable {P : Program} {w : World} {K : PySem.W.Frag} {mg : Str → Option Value} {base : Heap} {CN CI CU CL CS : Addr} {mc mu : Value}

theorem rel_ties {n : Nat} (R : Rel) : ∀ x y, x < n → y < n → relP (ties n R) false x y = R x y := by
  intro x y hx hy
  rw [Bool.eq_iff_iff, relP_iff, has_nat hx hy]
  simp
theorem good_ties {n : Nat} {R : Rel} (ir : ∀ x y, x < n → y < n → R x y = true → x ≠ y) : ∀ p ∈ ties n R, Good n p := by
  intro p hp
  obtain ⟨x, y, hx, hy, r, rfl⟩ := mem_ties.mp hp
  have := ir x y hx hy r
  exact ⟨by dsimp only; omega, by dsimp only; omega, by dsimp only; omega, by dsimp only; omega, by dsimp only; omega⟩
theorem op_neDB {X : Cx} {K : PySem.W.Frag} (hu : X.A.units + 64 < cLine) (hK : X.K = K) : OpR X (compareOp .NotEq) (rNeD K) := by
  subst hK
  exact op_neD hu
theorem op_eqDB {X : Cx} {K : PySem.W.Frag} (hu : X.A.units + 64 < cLine) (hK : X.K = K) : OpR X (compareOp .Eq) (rEqD K) := by
  subst hK
  exact op_eqD hu
theorem eqv_two (x y s r : Int) : PyData.eqv (.tuple [.int x, .int y]) (.tuple [.int s, .int r]) = decide ((x, y) = (s, r)) := by
  show (x == s && (y == r && true)) = _
  rw [Bool.eq_iff_iff]
  simp
/-- a net is made with one link more; with one less -/
def moreR (R : Rel) (p : Int × Int) : Rel := fun x y => R x y || hitP p x y
def lessR (R : Rel) (p : Int × Int) : Rel := fun x y => R x y && !hitP p x y
theorem hit_iff {p : Int × Int} {x y : Nat} : hitP p x y = true ↔ ((x : Int), (y : Int)) = p := by
  obtain ⟨a, b⟩ := p
  unfold hitP
  rw [decide_eq_true_eq]
  constructor
  · rintro ⟨h1, h2⟩
    exact Prod.ext h1.symm h2.symm
  · intro h
    exact ⟨(congrArg Prod.fst h).symm, (congrArg Prod.snd h).symm⟩
theorem rel_more {n : Nat} (R : Rel) (p : Int × Int) : ∀ x y, x < n → y < n → relP (ties n R ++ [p]) false x y = moreR R p x y := by
  intro x y hx hy
  unfold moreR
  rw [Bool.eq_iff_iff, relP_iff, Bool.or_eq_true, hit_iff, List.mem_append, has_nat hx hy, List.mem_singleton]
  simp
theorem rel_less {n : Nat} (R : Rel) (p : Int × Int) : ∀ x y, x < n → y < n → relP ((ties n R).filter fun q => !decide (q = p)) false x y = lessR R p x y := by
  intro x y hx hy
  unfold lessR
  rw [Bool.eq_iff_iff, relP_iff, Bool.and_eq_true, List.mem_filter, has_nat hx hy, Bool.not_eq_true', Bool.not_eq_true', ← Bool.not_eq_true, ← Bool.not_eq_true, hit_iff, decide_eq_true_eq]
  simp
theorem more_bad {CI : Addr} {n : Nat} {R : Rel} {p : Int × Int} {H : Hp} {E : XK} (g : ∀ q ∈ ties n R, Good n q) (k : ¬ Good n p → RaisesP CI p H E) : BadP CI n (ties n R ++ [p]) H E := by
  intro j q h2 h3 _
  rcases List.mem_append.mp (List.mem_of_getElem? h2) with h | h
  · exact absurd (g q h) h3
  · rw [List.mem_singleton] at h
    subst h
    exact k h3
def spWith (CN CI : Addr) : Sp := fun vs H Q E => ∃ (a : Addr) (n : Nat) (R : Rel) (s r : Int), vs = [.ref a, .int s, .int r] ∧ NetAt CN H a n R ∧ (Good n (s, r) → ∀ a2 H', H a2 = none → Same H H' → NetAt CN H' a2 n (moreR R (s, r)) → Q (.ref a2) H') ∧ (¬ Good n (s, r) → RaisesP CI (s, r) H E)
def spWithout (CN CL : Addr) : Sp := fun vs H Q E => ∃ (a : Addr) (n : Nat) (R : Rel) (s r : Int), vs = [.ref a, .int s, .int r] ∧ NetAt CN H a n R ∧ ((s, r) ∈ ties n R → ∀ a2 H', H a2 = none → Same H H' → NetAt CN H' a2 n (lessR R (s, r)) → Q (.ref a2) H') ∧ (¬ (s, r) ∈ ties n R → RaisesL CL s r H E)
theorem snocR {as : List Addr} {p : Addr} : as.map V.ref ++ [V.ref p] = (as ++ [p]).map V.ref := by
  rw [List.map_append]
  rfl
end
end K02

end
section
set_option Elab.async false
set_option linter.all false
set_option maxRecDepth 100000
set_option maxHeartbeats 4000000
namespace K02
open PySem L2 Kit KR KX KI
local macro_rules | `(tactic| fail "om") => `(tactic| first | omega | (simp only [List.length_map, List.length_append, List.length_cons, List.length_nil]; omega) | (simp only [List.length_map, List.length_append, List.length_cons, List.length_nil] at *; omega) | assumption | decide | fail "no om")
local macro_rules | `(tactic| fail "nz") => `(tactic| first | decide | omega | fail "no nz")
local macro_rules | `(tactic| fail "dv") => `(tactic| exact ⟨by first | decide | omega, by first | decide | omega⟩)
local macro_rules | `(tactic| fail "mul") => `(tactic| first | exact .inr ⟨by decide, by decide⟩ | exact .inl ⟨by decide, by decide⟩ | exact mulF (by decide) (by decide) | exact .inl ⟨by omega, by omega⟩ | exact .inr ⟨by omega, by omega⟩ | fail "no mul")
local macro_rules | `(tactic| fail "sz") => `(tactic| first | assumption | exact Nat.zero_le _ | (show 1 ≤ sizeLine; decide) | (show 2 ≤ sizeLine; decide) | (show 3 ≤ sizeLine; decide) | (show 4 ≤ sizeLine; decide) | (show 5 ≤ sizeLine; decide) | exact Evl.sz_of (by omega) | (refine Evl.sz_of ?_; simp only [List.length_append, List.length_map, List.length_cons, List.length_nil]; omega) | (refine Evl.sz_of ?_; simp only [List.length_append, List.length_map, List.length_cons, List.length_nil, List.length_take, List.length_drop]; omega) | fail "no sz")
local macro_rules | `(tactic| fail "szl") => `(tactic| first | exact Evl.sz_lt (by omega) | (refine Evl.sz_lt ?_; simp only [List.length_append, List.length_map, List.length_cons, List.length_nil]; omega) | fail "no szl")
local macro_rules | `(tactic| fail "ix") => `(tactic| first | assumption | exact ix0 | exact ix1 | exact ix2 | exact at_ref (by assumption) (by omega) | exact at_int (by assumption) (by omega) | exact at_drawn (by assumption) (by assumption) | exact at_lit (by first | assumption | omega) (by fail "om") | rfl | fail "no ix")
local macro_rules | `(tactic| fail "ixn") => `(tactic| first | rfl | assumption | fail "no ixn")
local macro_rules | `(tactic| fail "nb") => `(tactic| first | assumption | exact nb_tup | exact nb_nil | exact nb_ints | exact nb_refs | exact nb_ins | exact nb_dT | exact nb_frz | fail "no nb")
local macro_rules | `(tactic| fail "ne") => `(tactic| first | assumption | exact Ne.symm (by assumption) | exact ne_of_none (by assumption) (by assumption) | exact (ne_of_none (by assumption) (by assumption)).symm | exact ne_of (by assumption) (by assumption) (by intro q; cases q) | exact ne_of (by assumption) (by assumption) (by simp) | fail "no ne")
local macro_rules | `(tactic| fail "hp") => `(tactic| first | assumption | exact upd_same | exact lit0 | exact lit1 | exact lit3 | exact lit2 | (refine' Tk.get (by assumption) ?k1; (case k1 => fail "tk")) | (with_reducible refine' upd_new ?h1 ?n1; (case n1 => assumption); (case h1 => fail "hp")) | (refine' Same.get (by assumption) ?h1; (case h1 => fail "hp")) | (refine' Kp.get (by assumption) (by fail "bx") ?h1 ?d1; (case h1 => fail "hp"); (case d1 => fail "nb")) | (with_reducible refine' upd_oth ?h1 ?n1; (case n1 => fail "ne"); (case h1 => fail "hp")) | (with_reducible refine' upd_oth ?h1 ?n1; (case h1 => fail "hp"); (case n1 => fail "ne")) | (refine' Kq.get (by assumption) (by fail "bx") ?h1 ?d1 (by fail "ne"); (case h1 => fail "hp"); (case d1 => fail "nb")) | fail "no hp")
local macro_rules | `(tactic| fail "bx") => `(tactic| first | assumption | (with_reducible refine' BoxOk.new ?h1 ?n1; (case n1 => assumption); (case h1 => fail "bx")) | (refine' BoxOk.same (by assumption) ?h1; (case h1 => fail "bx")) | (with_reducible refine' BoxOk.mut ?h1 ?h2 ?n1; (case n1 => assumption); (case h2 => assumption); (case h1 => fail "bx")) | fail "no bx")
local macro_rules | `(tactic| fail "kp") => `(tactic| first | assumption | exact Kp.refl | (with_reducible refine' Kp.at ?h1; (case h1 => fail "kp")) | (with_reducible refine' Kp.new ?h1 ?n1; (case n1 => assumption); (case h1 => fail "kp")) | (with_reducible refine' Kp.mut ?h1 ?n1; (case n1 => assumption); (case h1 => fail "kp")) | (refine' Kp.tr (by assumption) ?h1; (case h1 => fail "kp")) | (refine' Kp.tr (Kp.of (by assumption)) ?h1; (case h1 => fail "kp")) | fail "no kp")
local macro_rules | `(tactic| fail "ite") => `(tactic| first | refine iteT ?_ | refine iteF ?_)
local macro_rules | `(tactic| fail "tt") => `(tactic| first | rfl | exact decide_eq_true (by first | rfl | omega | assumption) | exact decide_eq_true (congrArg V.int (by first | rfl | omega)) | fail "no tt")
local macro_rules | `(tactic| fail "cv") => `(tactic| first | exact .ty _ | exact .own _)
local macro_rules | `(tactic| fail "tx") => `(tactic| first | exact .base (.int _) | exact .base (.bl _) | exact .base .non | exact .base (.lst (by fail "hp")) | exact .base (.tup (by fail "hp")) | fail "no tx")
local macro_rules | `(tactic| fail "dead") => `(tactic| (exfalso; first | omega | contradiction | simp_all))
local macro_rules | `(tactic| fail "dp") => `(tactic| first | exact .tup (SqT.of (by fail "hp")) (.cons (.int _) (.cons (.int _) .nil)) | exact .lst (SqL.of (by fail "hp")) (dpPrs (by fail "pr")) | exact .lst (SqL.of (by fail "hp")) (dpInts _) | exact .lst (SqL.of (by fail "hp")) .nil | fail "no dp")
local macro_rules | `(tactic| fail "shp") => `(tactic| first | assumption | exact prD_shaped _ | exact PySem.W.ke_shaped_ints _ | rfl | fail "no shp")
local macro_rules | `(tactic| fail "pr") => `(tactic| first | assumption | exact PrT.mono (by assumption) (by fail "tk") | fail "no pr")
local macro_rules | `(tactic| fail "tk") => `(tactic| first | assumption | exact Tk.refl | (with_reducible refine' Tk.new ?h1 ?n1; (case n1 => assumption); (case h1 => fail "tk")) | (refine' Tk.tr (Kp.tk (by assumption) (by fail "bx")) ?h1; (case h1 => fail "tk")) | (refine' Tk.tr (Same.tk (by assumption)) ?h1; (case h1 => fail "tk")) | (with_reducible refine' Tk.lst ?h1 ?n1; (case n1 => fail "hp"); (case h1 => fail "tk")) | fail "no tk")
local macro_rules | `(tactic| fail "lk") => `(tactic| first | exact netF_count _ _ | exact netF_links _ _ | exact netF_no _ _ (by decide +kernel) (by decide +kernel) | fail "no lk")
local macro_rules | `(tactic| fail "kt") => `(tactic| first | exact upd_same | assumption | fail "hp")
local macro_rules | `(tactic| fail "na") => `(tactic| first | assumption | (with_reducible refine' NetAt.new ?h1 ?n1; (case n1 => assumption); (case h1 => fail "na")) | (refine' NetAt.same (by assumption) ?h1; (case h1 => fail "na")) | (refine' NetAt.kp (by assumption) (by fail "bx") ?h1; (case h1 => fail "na")) | (with_reducible refine' NetAt.lst ?h1 ?n1; (case n1 => fail "hp"); (case h1 => fail "na")) | fail "no na")
local macro_rules | `(tactic| fail "mono") => `(tactic| first | exact fun _ _ _ _ h q => h _ _ q | exact fun _ _ _ _ h q => (let ⟨v, e, z⟩ := q; ⟨v, e, h _ _ z⟩) | exact fun _ _ _ _ h q => (let ⟨v, e, u, f, z⟩ := q; ⟨v, e, u, f, h _ _ z⟩) | fail "no mono")
local macro_rules | `(tactic| fail "sm") => `(tactic| first | assumption | exact Same.refl _ | (with_reducible refine' Same.new ?h1 ?n1; (case n1 => assumption); (case h1 => fail "sm")) | (refine' Same.tr (by assumption) ?h1; (case h1 => fail "sm")) | fail "no sm")
local macro_rules | `(tactic| fail "fld") => `(tactic| first | (show 0 < 1000; decide) | (show 1 < 1000; decide) | fail "no fld")
local macro_rules | `(tactic| fail "kq") => `(tactic| first | assumption | exact Kq.refl | (with_reducible refine' Kq.at ?h1; (case h1 => fail "kq")) | (with_reducible refine' Kq.new ?h1 ?n1; (case n1 => assumption); (case h1 => fail "kq")) | (refine' Kq.trans ?h1 (by assumption); (case h1 => fail "kq")) | (refine' Kq.trans ?h1 (Kq.of (by assumption)); (case h1 => fail "kq")) | (refine' Kq.trans ?h1 (Kq.ofS (by assumption)); (case h1 => fail "kq")) | fail "no kq")

section
variable {P : Program} {w : World} {K : PySem.W.Frag} {mg : Str → Option Value} {base : Heap}

theorem perm_pop {ps os : List Int} {d : Nat} {x : Int} (h : ps[d]? = some x) : (ps.eraseIdx d ++ (os ++ [x])).Perm (ps ++ os) := by
  obtain ⟨hd, hx⟩ := List.getElem?_eq_some_iff.mp h
  have e : ps = ps.take d ++ x :: ps.drop (d + 1) := by
    rw [← hx, ← List.drop_eq_getElem_cons hd, List.take_append_drop]
  have p1 : (ps.eraseIdx d ++ (os ++ [x])).Perm (x :: (ps.eraseIdx d ++ os)) := by
    rw [← List.append_assoc]
    exact List.perm_append_singleton x _
  have p2 : (x :: ps.eraseIdx d).Perm ps := by
    rw [List.eraseIdx_eq_take_drop_succ]
    conv => rhs; rw [e]
    exact List.perm_middle.symm
  exact p1.trans (p2.append_right os)
theorem pop_len {ps : List Int} {d : Nat} (h : d < ps.length) : (ps.eraseIdx d).length + 1 = ps.length := by
  rw [List.length_eraseIdx, if_pos h]
  omega
abbrev sShuffle : Stmt := top 33
theorem scShuffle : FnScope ["box", "count", "k", "pool", "order"] ["box", "count"] (defScope sShuffle) := ⟨rfl, rfl, rfl, by decide +kernel, rfl, by decide +kernel, by decide +kernel⟩
def spShuffle : Sp := fun vs H Q _ => ∃ (b bc : Addr) (n : Nat), vs = [.ref b, .int (n : Int)] ∧ BoxOk H b bc ∧ n ≤ 24 ∧
  ∀ (p : Addr) (ms : List Int) (H' : Hp), MemOk n ms → ms.length = n → Kp b H H' → BoxOk H' b bc → H p = none → H' p = some (.lst (ms.map V.int)) → Q (.ref p) H'
theorem ok_Shuffle (D : Df K mg "_law_shuffle" sShuffle ["box", "count"]) (T : Txt K mg) (GDraw : C8.Cal P w K mg base 1 "_law_draw" spDraw []) : C8.Cal P w K mg base 2 "_law_shuffle" spShuffle [] := by
  obtain ⟨f, fd, F, hm, hb⟩ := D
  refine ⟨f, fd, ["box", "count"], [], F.ok scShuffle (fun vs H Q E h => ?_) (fun cdv A outer s H vs Q E hr h => ?_), hm, F.kp, hb, .nil⟩
  · obtain ⟨b, bc, n, rfl, bx, hn, k⟩ := h
    rfl
  · obtain ⟨b, bc, n, rfl, bx, hn, k⟩ := h
    refine ⟨_, (pss_cons (ps_setLc (i := 3) (own := [("k", 2)]) (g := gName 2) (tt := tYes) rfl scShuffle.nd rfl rfl (sw_true rfl rfl rfl (by decide +kernel)) (pi_range1 rfl T.range (pa_cons (pv 1) pa_nil)) (blkOk_by (N := ["box", "count", "k", "pool", "order"]) (sc := defScope sShuffle) (by decide +kernel)) (fun _ _ _ _ _ => (pg_name (i := 2) scShuffle.nd rfl (Or.inl rfl))) (fun _ _ _ _ _ => pts_nil) (fun _ _ _ _ _ => (pv 2)))
      (pss_cons (ps_set (i := 4) scShuffle.nd rfl (Or.inl rfl) (pe_lst pa_nil))
      (pss_cons (ps_for PassesOwn.never rfl (pi_range1 rfl T.range (pa_cons (pv 1) pa_nil)) (pg_name (i := 2) scShuffle.nd rfl (Or.inl rfl))
        (pss_one (ps_expr (pe_bm PySem.F.plainAttrs_list PySem.F.slot_list_append PySem.F.type_list_append mt_appendI (pv 4) (pa_cons (pe_bm PySem.F.plainAttrs_list PySem.F.slot_list_pop PySem.F.type_list_pop mt_popI (pv 3) (pa_cons (C8.pe_c GDraw hr (by decide) (by rfl) (pa_cons (pv 0) (pa_cons (pe_callB call_lenI (by rfl) T.len (by decide +kernel) (pa_cons (pv 3) pa_nil)) pa_nil))) pa_nil)) pa_nil)))))
      (pss_one (ps_ret (pv 4)))))), ?_⟩
    -- pool = [k for k in range(count)]
    refine ⟨_, rfl, _, rfl, (by fail "om"), (by fail "om"), fun D1 nD1 => lc_range (fun i H' => Same H H' ∧ H' D1 = some (.lst ((every i).map V.int))) ⟨Same.new (Same.refl _) nD1, upd_same⟩ (fun i H' hi z => by
      obtain ⟨sm, hD⟩ := z
      have hl : (every i).length ≤ 24 := by rw [every_len]; omega
      refine ⟨rfl, ?_⟩
      unfold tYes
      refine iteT ?_
      refine ⟨_, rfl, _, hD, Evl.sz_lt (by rw [List.length_map]; omega), Same.mut sm nD1, ?_⟩
      rw [upd_same, every_succ, List.map_append, Int.zero_add]
      rfl) (fun H' z => ?_)⟩
    obtain ⟨smE, hE⟩ := z
    have en : ((n : Int)).toNat = n := by omega
    rw [en] at hE
    -- order = []
    refine ⟨(by fail "sz"), fun p1 np1 => ?_⟩
    -- for k in range(count):
    refine ⟨_, rfl, _, rfl, (by fail "om"), (by fail "om"), for_range (fun i σ H2 => ∃ (v : Option V) (ps os : List Int), σ = [some (.ref b), some (.int (n : Int)), v, some (.ref D1), some (.ref p1)] ∧ Kp b H H2 ∧ BoxOk H2 b bc ∧ H2 D1 = some (.lst (ps.map V.int)) ∧ H2 p1 = some (.lst (os.map V.int)) ∧ (ps ++ os).Perm (every n) ∧ os.length = i ∧ ps.length + os.length = n) ⟨none, every n, [], rfl, Kp.new (Kp.of smE) np1, BoxOk.new (BoxOk.same smE bx) np1, upd_new hE np1, upd_same, by rw [List.append_nil], rfl, by rw [every_len]; rfl⟩ ?_ ?_⟩
    · rintro i σ Hi hi ⟨v, ps, os, rfl, kpi, bxi, hps, hos, pm, lo, ls⟩
      have npd : H p1 = none := free_back np1 smE
      have pne : p1 ≠ D1 := (ne_of_none hE np1).symm
      -- order.append(pool.pop(_law_draw(box, len(pool))))
      refine ⟨_, rfl, .inl ⟨rfl, _, SqL.of (by fail "hp")⟩, _, rfl, .inl ⟨rfl, _, SqL.of (by fail "hp")⟩, _, rfl, _, rfl, _, _, rfl, (by fail "hp"), _, _, _, rfl, (by fail "bx"), (by fail "om"), (by fail "om"), fun d2 H2 da2 db2 kp2 bx2 => ⟨_, _, _, rfl, rfl, (by fail "hp"), (by fail "om"), (by fail "om"), (by fail "om"), _, _, _, rfl, rfl, (by fail "hp"), (by fail "szl"), ?_⟩⟩
      have hdl : d2.toNat < ps.length := by omega
      have gx := getD_some (ns := ps) (d := d2) da2 (by omega)
      refine ⟨_, ps.eraseIdx d2.toNat, os ++ [_], rfl, Kp.mut (Kp.mut (Kp.trans kpi kp2) nD1) npd, BoxOk.mut (BoxOk.mut bx2 bx nD1) bx npd, ?_, upd_same, (perm_pop gx).trans pm, by rw [List.length_append, lo]; rfl, ?_⟩
      · rw [upd_ne pne.symm]
        exact upd_same
      · have := pop_len hdl
        rw [List.length_append]
        show (ps.eraseIdx d2.toNat).length + (os.length + 1) = n
        omega
    · rintro σ Hi ⟨v, ps, os, rfl, kpi, bxi, hps, hos, pm, lo, ls⟩
      have ps0 : ps = [] := List.eq_nil_of_length_eq_zero (by omega)
      subst ps0
      have mo : MemOk n os := ⟨pm.nodup_iff.mpr (every_ok n).nd, fun x hx => (every_ok n).rg x (pm.mem_iff.mp hx)⟩
      -- return order
      refine ⟨_, rfl, ?_⟩
      exact k _ os _ mo (by omega) kpi bxi (free_back np1 smE) hos
def PutQ (b bc t : Addr) (n : Nat) (H : Hp) (Q : VK) : Prop := ∀ (T' : List Int) (H' : Hp), Kq b t H H' → BoxOk H' b bc → H' t = some (.lst (T'.map V.int)) → TabI n T' → Q .non H'
def spPutTree : Sp := fun vs H Q _ => ∃ (b bc t m : Addr) (n : Nat) (M ms : List Int), vs = [.ref b, .ref t, .int (n : Int), .ref m] ∧ BoxOk H b bc ∧ 1 ≤ n ∧ n ≤ 24 ∧ H t = some (.lst (M.map V.int)) ∧ TabI n M ∧ t ≠ bc ∧ H m = some (.lst (ms.map V.int)) ∧ MemOk n ms ∧ ms.length ≤ 24 ∧ m ≠ t ∧ PutQ b bc t n H Q
end
end K02

end
section
set_option Elab.async false
set_option linter.all false
set_option maxRecDepth 100000
set_option maxHeartbeats 4000000
namespace K02
open PySem L2 Kit KR KX KI
local macro_rules | `(tactic| fail "om") => `(tactic| first | omega | (simp only [List.length_map, List.length_append, List.length_cons, List.length_nil]; omega) | (simp only [List.length_map, List.length_append, List.length_cons, List.length_nil] at *; omega) | assumption | decide | fail "no om")
local macro_rules | `(tactic| fail "nz") => `(tactic| first | decide | omega | fail "no nz")
local macro_rules | `(tactic| fail "dv") => `(tactic| exact ⟨by first | decide | omega, by first | decide | omega⟩)
local macro_rules | `(tactic| fail "mul") => `(tactic| first | exact .inr ⟨by decide, by decide⟩ | exact .inl ⟨by decide, by decide⟩ | exact mulF (by decide) (by decide) | exact .inl ⟨by omega, by omega⟩ | exact .inr ⟨by omega, by omega⟩ | fail "no mul")
local macro_rules | `(tactic| fail "sz") => `(tactic| first | assumption | exact Nat.zero_le _ | (show 1 ≤ sizeLine; decide) | (show 2 ≤ sizeLine; decide) | (show 3 ≤ sizeLine; decide) | (show 4 ≤ sizeLine; decide) | (show 5 ≤ sizeLine; decide) | exact Evl.sz_of (by omega) | (refine Evl.sz_of ?_; simp only [List.length_append, List.length_map, List.length_cons, List.length_nil]; omega) | (refine Evl.sz_of ?_; simp only [List.length_append, List.length_map, List.length_cons, List.length_nil, List.length_take, List.length_drop]; omega) | fail "no sz")
local macro_rules | `(tactic| fail "szl") => `(tactic| first | exact Evl.sz_lt (by omega) | (refine Evl.sz_lt ?_; simp only [List.length_append, List.length_map, List.length_cons, List.length_nil]; omega) | fail "no szl")
local macro_rules | `(tactic| fail "ix") => `(tactic| first | assumption | exact ix0 | exact ix1 | exact ix2 | exact at_ref (by assumption) (by omega) | exact at_int (by assumption) (by omega) | exact at_drawn (by assumption) (by assumption) | exact at_lit (by first | assumption | omega) (by fail "om") | rfl | fail "no ix")
local macro_rules | `(tactic| fail "ixn") => `(tactic| first | rfl | assumption | fail "no ixn")
local macro_rules | `(tactic| fail "nb") => `(tactic| first | assumption | exact nb_tup | exact nb_nil | exact nb_ints | exact nb_refs | exact nb_ins | exact nb_dT | exact nb_frz | fail "no nb")
local macro_rules | `(tactic| fail "ne") => `(tactic| first | assumption | exact Ne.symm (by assumption) | exact ne_of_none (by assumption) (by assumption) | exact (ne_of_none (by assumption) (by assumption)).symm | exact ne_of (by assumption) (by assumption) (by intro q; cases q) | exact ne_of (by assumption) (by assumption) (by simp) | fail "no ne")
local macro_rules | `(tactic| fail "hp") => `(tactic| first | assumption | exact upd_same | exact lit0 | exact lit1 | exact lit3 | exact lit2 | (refine' Tk.get (by assumption) ?k1; (case k1 => fail "tk")) | (with_reducible refine' upd_new ?h1 ?n1; (case n1 => assumption); (case h1 => fail "hp")) | (refine' Same.get (by assumption) ?h1; (case h1 => fail "hp")) | (refine' Kp.get (by assumption) (by fail "bx") ?h1 ?d1; (case h1 => fail "hp"); (case d1 => fail "nb")) | (with_reducible refine' upd_oth ?h1 ?n1; (case n1 => fail "ne"); (case h1 => fail "hp")) | (with_reducible refine' upd_oth ?h1 ?n1; (case h1 => fail "hp"); (case n1 => fail "ne")) | (refine' Kq.get (by assumption) (by fail "bx") ?h1 ?d1 (by fail "ne"); (case h1 => fail "hp"); (case d1 => fail "nb")) | fail "no hp")
local macro_rules | `(tactic| fail "bx") => `(tactic| first | assumption | (with_reducible refine' BoxOk.new ?h1 ?n1; (case n1 => assumption); (case h1 => fail "bx")) | (refine' BoxOk.same (by assumption) ?h1; (case h1 => fail "bx")) | (with_reducible refine' BoxOk.mut ?h1 ?h2 ?n1; (case n1 => assumption); (case h2 => assumption); (case h1 => fail "bx")) | fail "no bx")
local macro_rules | `(tactic| fail "kp") => `(tactic| first | assumption | exact Kp.refl | (with_reducible refine' Kp.at ?h1; (case h1 => fail "kp")) | (with_reducible refine' Kp.new ?h1 ?n1; (case n1 => assumption); (case h1 => fail "kp")) | (with_reducible refine' Kp.mut ?h1 ?n1; (case n1 => assumption); (case h1 => fail "kp")) | (refine' Kp.tr (by assumption) ?h1; (case h1 => fail "kp")) | (refine' Kp.tr (Kp.of (by assumption)) ?h1; (case h1 => fail "kp")) | fail "no kp")
local macro_rules | `(tactic| fail "ite") => `(tactic| first | refine iteT ?_ | refine iteF ?_)
local macro_rules | `(tactic| fail "tt") => `(tactic| first | rfl | exact decide_eq_true (by first | rfl | omega | assumption) | exact decide_eq_true (congrArg V.int (by first | rfl | omega)) | fail "no tt")
local macro_rules | `(tactic| fail "cv") => `(tactic| first | exact .ty _ | exact .own _)
local macro_rules | `(tactic| fail "tx") => `(tactic| first | exact .base (.int _) | exact .base (.bl _) | exact .base .non | exact .base (.lst (by fail "hp")) | exact .base (.tup (by fail "hp")) | fail "no tx")
local macro_rules | `(tactic| fail "dead") => `(tactic| (exfalso; first | omega | contradiction | simp_all))
local macro_rules | `(tactic| fail "dp") => `(tactic| first | exact .tup (SqT.of (by fail "hp")) (.cons (.int _) (.cons (.int _) .nil)) | exact .lst (SqL.of (by fail "hp")) (dpPrs (by fail "pr")) | exact .lst (SqL.of (by fail "hp")) (dpInts _) | exact .lst (SqL.of (by fail "hp")) .nil | fail "no dp")
local macro_rules | `(tactic| fail "shp") => `(tactic| first | assumption | exact prD_shaped _ | exact PySem.W.ke_shaped_ints _ | rfl | fail "no shp")
local macro_rules | `(tactic| fail "pr") => `(tactic| first | assumption | exact PrT.mono (by assumption) (by fail "tk") | fail "no pr")
local macro_rules | `(tactic| fail "tk") => `(tactic| first | assumption | exact Tk.refl | (with_reducible refine' Tk.new ?h1 ?n1; (case n1 => assumption); (case h1 => fail "tk")) | (refine' Tk.tr (Kp.tk (by assumption) (by fail "bx")) ?h1; (case h1 => fail "tk")) | (refine' Tk.tr (Same.tk (by assumption)) ?h1; (case h1 => fail "tk")) | (with_reducible refine' Tk.lst ?h1 ?n1; (case n1 => fail "hp"); (case h1 => fail "tk")) | fail "no tk")
local macro_rules | `(tactic| fail "lk") => `(tactic| first | exact netF_count _ _ | exact netF_links _ _ | exact netF_no _ _ (by decide +kernel) (by decide +kernel) | fail "no lk")
local macro_rules | `(tactic| fail "kt") => `(tactic| first | exact upd_same | assumption | fail "hp")
local macro_rules | `(tactic| fail "na") => `(tactic| first | assumption | (with_reducible refine' NetAt.new ?h1 ?n1; (case n1 => assumption); (case h1 => fail "na")) | (refine' NetAt.same (by assumption) ?h1; (case h1 => fail "na")) | (refine' NetAt.kp (by assumption) (by fail "bx") ?h1; (case h1 => fail "na")) | (with_reducible refine' NetAt.lst ?h1 ?n1; (case n1 => fail "hp"); (case h1 => fail "na")) | fail "no na")
local macro_rules | `(tactic| fail "mono") => `(tactic| first | exact fun _ _ _ _ h q => h _ _ q | exact fun _ _ _ _ h q => (let ⟨v, e, z⟩ := q; ⟨v, e, h _ _ z⟩) | exact fun _ _ _ _ h q => (let ⟨v, e, u, f, z⟩ := q; ⟨v, e, u, f, h _ _ z⟩) | fail "no mono")
local macro_rules | `(tactic| fail "sm") => `(tactic| first | assumption | exact Same.refl _ | (with_reducible refine' Same.new ?h1 ?n1; (case n1 => assumption); (case h1 => fail "sm")) | (refine' Same.tr (by assumption) ?h1; (case h1 => fail "sm")) | fail "no sm")
local macro_rules | `(tactic| fail "fld") => `(tactic| first | (show 0 < 1000; decide) | (show 1 < 1000; decide) | fail "no fld")
local macro_rules | `(tactic| fail "kq") => `(tactic| first | assumption | exact Kq.refl | (with_reducible refine' Kq.at ?h1; (case h1 => fail "kq")) | (with_reducible refine' Kq.new ?h1 ?n1; (case n1 => assumption); (case h1 => fail "kq")) | (refine' Kq.trans ?h1 (by assumption); (case h1 => fail "kq")) | (refine' Kq.trans ?h1 (Kq.of (by assumption)); (case h1 => fail "kq")) | (refine' Kq.trans ?h1 (Kq.ofS (by assumption)); (case h1 => fail "kq")) | fail "no kq")

section
variable {P : Program} {w : World} {K : PySem.W.Frag} {mg : Str → Option Value} {base : Heap}

theorem tab_bit {n x y : Nat} {M : List Int} {R : Rel} (t : IsTab n M R) (hx : x < n) (hy : y < n) : atI (M.map V.int) ((x : Int) * (n : Int) + (y : Int)) = some (V.int (if R x y = true then 1 else 0)) := at_int (t.get x y hx hy) (by rw [Int.natCast_add, Int.natCast_mul])
def bitI (R : Rel) (x y : Nat) : Int := if R x y = true then 1 else 0
/-- the pairs of x with members below -/
def rowP (R : Rel) (th : Int) (x : Int) (ks : List Int) : List (Int × Int) := (ks.filter fun y => decide (x ≠ y) && decide (bitI R x.toNat y.toNat = th)).map fun y => (x, y)
def prs (R : Rel) (th : Int) (ms ks : List Int) : List (Int × Int) := ms.flatMap fun x => rowP R th x ks
theorem rowP_yes {R : Rel} {th x y : Int} {ks : List Int} (h1 : x ≠ y) (h2 : bitI R x.toNat y.toNat = th) : rowP R th x (ks ++ [y]) = rowP R th x ks ++ [(x, y)] := by
  unfold rowP
  rw [List.filter_append, List.map_append, List.filter_cons_of_pos (by rw [decide_eq_true h1, decide_eq_true h2]; rfl)]
  rfl
theorem rowP_no {R : Rel} {th x y : Int} {ks : List Int} (h : ¬ (x ≠ y ∧ bitI R x.toNat y.toNat = th)) : rowP R th x (ks ++ [y]) = rowP R th x ks := by
  unfold rowP
  rw [List.filter_append, List.map_append, List.filter_cons_of_neg (by intro q; rw [Bool.and_eq_true] at q; exact h ⟨of_decide_eq_true q.1, of_decide_eq_true q.2⟩)]
  exact List.append_nil _
theorem rowP_len (R : Rel) (th x : Int) (ks : List Int) : (rowP R th x ks).length ≤ ks.length := by
  unfold rowP
  rw [List.length_map]
  exact List.length_filter_le _ _
theorem prs_snoc (R : Rel) (th : Int) (ms ks : List Int) (x : Int) : prs R th (ms ++ [x]) ks = prs R th ms ks ++ rowP R th x ks := by
  unfold prs
  rw [List.flatMap_append]
  show _ ++ (rowP R th x ks ++ []) = _
  rw [List.append_nil]
theorem prs_len (R : Rel) (th : Int) (ks : List Int) : ∀ ms : List Int, (prs R th ms ks).length ≤ ms.length * ks.length
  | [] => by rw [List.length_nil, Nat.zero_mul]; exact Nat.le_refl 0
  | x :: r => by
    show (rowP R th x ks ++ prs R th r ks).length ≤ (r.length + 1) * ks.length
    rw [List.length_append, Nat.add_mul, Nat.one_mul]
    have := rowP_len R th x ks
    have := prs_len R th ks r
    omega
theorem mem_prs {R : Rel} {th : Int} {ms ks : List Int} {q : Int × Int} : q ∈ prs R th ms ks ↔ q.1 ∈ ms ∧ q.2 ∈ ks ∧ q.1 ≠ q.2 ∧ bitI R q.1.toNat q.2.toNat = th := by
  unfold prs rowP
  rw [List.mem_flatMap]
  constructor
  · rintro ⟨x, hx, hq⟩
    obtain ⟨y, hy, rfl⟩ := List.mem_map.mp hq
    obtain ⟨hy1, hy2⟩ := List.mem_filter.mp hy
    rw [Bool.and_eq_true] at hy2
    exact ⟨hx, hy1, of_decide_eq_true hy2.1, of_decide_eq_true hy2.2⟩
  · rintro ⟨h1, h2, h3, h4⟩
    exact ⟨q.1, h1, List.mem_map.mpr ⟨q.2, List.mem_filter.mpr ⟨h2, by rw [decide_eq_true h3, decide_eq_true h4]; rfl⟩, rfl⟩⟩
theorem take_at {α : Type} {l : List α} {i : Nat} {x : α} (h : l[i]? = some x) : l.take (i + 1) = l.take i ++ [x] := take_more' h
theorem item_of {ms : List Int} {i : Nat} {x : V} (h : (ms.map V.int)[i]? = some x) : ∃ k, ms[i]? = some k ∧ x = V.int k := by
  rw [List.getElem?_map] at h
  cases e : ms[i]? with
  | none => rw [e] at h; cases h
  | some k => rw [e] at h; exact ⟨k, rfl, (Option.some.inj h).symm⟩
theorem mul24 {a b : Nat} (h1 : a ≤ 24) (h2 : b ≤ 24) : a * b ≤ 576 := Nat.le_trans (Nat.mul_le_mul h1 h2) (by decide)
theorem ring_ne {s k : Int} (h1 : 1 < s) (h0 : 0 ≤ k) (hk : k < s) : (k + 1).fmod s ≠ k := by
  rw [Int.fmod_eq_emod_of_nonneg _ (by omega)]
  by_cases h : k + 1 < s
  · rw [Int.emod_eq_of_lt (by omega) h]
    omega
  · rw [show k + 1 = s from by omega, Int.emod_self]
    omega
def spPairs : Sp := fun vs H Q _ => ∃ (t m : Addr) (n : Nat) (M ms : List Int) (R : Rel) (th : Int), vs = [.int (n : Int), .ref t, .ref m, .int th] ∧ n ≤ 24 ∧ H t = some (.lst (M.map V.int)) ∧ IsTab n M R ∧ H m = some (.lst (ms.map V.int)) ∧ MemOk n ms ∧ ms.length ≤ 24 ∧
  ∀ (p : Addr) (as : List Addr) (H' : Hp), Same H H' → H p = none → H' p = some (.lst (as.map V.ref)) → PrT H' as (prs R th ms ms) → Q (.ref p) H'
def spPutRing : Sp := fun vs H Q _ => ∃ (t m : Addr) (n : Nat) (M ms : List Int), vs = [.ref t, .int (n : Int), .ref m] ∧ 1 ≤ n ∧ n ≤ 24 ∧ H t = some (.lst (M.map V.int)) ∧ TabI n M ∧ H m = some (.lst (ms.map V.int)) ∧ MemOk n ms ∧ ms.length ≤ 24 ∧ m ≠ t ∧
  ∀ (M' : List Int) (H' : Hp), (∀ a o, a ≠ t → H a = some o → H' a = some o) → H' t = some (.lst (M'.map V.int)) → TabI n M' → Q .non H'
end
end K02

end
section
set_option Elab.async false
set_option linter.all false
set_option maxRecDepth 100000
set_option maxHeartbeats 4000000
namespace K02
open PySem L2 Kit KR KX KI RM
local macro_rules | `(tactic| fail "om") => `(tactic| first | omega | (simp only [List.length_map, List.length_append, List.length_cons, List.length_nil]; omega) | (simp only [List.length_map, List.length_append, List.length_cons, List.length_nil] at *; omega) | assumption | decide | (simp only [List.length_take, List.length_drop]; omega) | (rw [every_len]; omega) | fail "no om")
local macro_rules | `(tactic| fail "nz") => `(tactic| first | decide | omega | fail "no nz")
local macro_rules | `(tactic| fail "dv") => `(tactic| exact ⟨by first | decide | omega, by first | decide | omega⟩)
local macro_rules | `(tactic| fail "mul") => `(tactic| first | exact .inr ⟨by decide, by decide⟩ | exact .inl ⟨by decide, by decide⟩ | exact mulF (by decide) (by decide) | exact .inl ⟨by omega, by omega⟩ | exact .inr ⟨by omega, by omega⟩ | fail "no mul")
local macro_rules | `(tactic| fail "sz") => `(tactic| first | assumption | exact Nat.zero_le _ | (show 1 ≤ sizeLine; decide) | (show 2 ≤ sizeLine; decide) | (show 3 ≤ sizeLine; decide) | (show 4 ≤ sizeLine; decide) | (show 5 ≤ sizeLine; decide) | exact Evl.sz_of (by omega) | (refine Evl.sz_of ?_; simp only [List.length_append, List.length_map, List.length_cons, List.length_nil]; omega) | (refine Evl.sz_of ?_; simp only [List.length_append, List.length_map, List.length_cons, List.length_nil, List.length_take, List.length_drop]; omega) | fail "no sz")
local macro_rules | `(tactic| fail "szl") => `(tactic| first | exact Evl.sz_lt (by omega) | (refine Evl.sz_lt ?_; simp only [List.length_append, List.length_map, List.length_cons, List.length_nil]; omega) | fail "no szl")
local macro_rules | `(tactic| fail "ix") => `(tactic| first | assumption | exact ix0 | exact ix1 | exact ix2 | exact at_ref (by assumption) (by omega) | exact at_int (by assumption) (by omega) | exact at_drawn (by assumption) (by assumption) | exact at_lit (by first | assumption | omega) (by fail "om") | rfl | fail "no ix")
local macro_rules | `(tactic| fail "ixn") => `(tactic| first | rfl | assumption | fail "no ixn")
local macro_rules | `(tactic| fail "nb") => `(tactic| first | assumption | exact nb_tup | exact nb_nil | exact nb_ints | exact nb_refs | exact nb_ins | exact nb_dT | exact nb_frz | fail "no nb")
local macro_rules | `(tactic| fail "ne") => `(tactic| first | assumption | exact Ne.symm (by assumption) | exact ne_of_none (by assumption) (by assumption) | exact (ne_of_none (by assumption) (by assumption)).symm | exact ne_of (by assumption) (by assumption) (by intro q; cases q) | exact ne_of (by assumption) (by assumption) (by simp) | fail "no ne")
local macro_rules | `(tactic| fail "hp") => `(tactic| first | assumption | exact upd_same | exact lit0 | exact lit1 | exact lit3 | exact lit2 | (refine' Tk.get (by assumption) ?k1; (case k1 => fail "tk")) | (with_reducible refine' upd_new ?h1 ?n1; (case n1 => assumption); (case h1 => fail "hp")) | (refine' Same.get (by assumption) ?h1; (case h1 => fail "hp")) | (refine' Kp.get (by assumption) (by fail "bx") ?h1 ?d1; (case h1 => fail "hp"); (case d1 => fail "nb")) | (with_reducible refine' upd_oth ?h1 ?n1; (case n1 => fail "ne"); (case h1 => fail "hp")) | (with_reducible refine' upd_oth ?h1 ?n1; (case h1 => fail "hp"); (case n1 => fail "ne")) | (refine' Kq.get (by assumption) (by fail "bx") ?h1 ?d1 (by fail "ne"); (case h1 => fail "hp"); (case d1 => fail "nb")) | fail "no hp")
local macro_rules | `(tactic| fail "bx") => `(tactic| first | assumption | (with_reducible refine' BoxOk.new ?h1 ?n1; (case n1 => assumption); (case h1 => fail "bx")) | (refine' BoxOk.same (by assumption) ?h1; (case h1 => fail "bx")) | (with_reducible refine' BoxOk.mut ?h1 ?h2 ?n1; (case n1 => assumption); (case h2 => assumption); (case h1 => fail "bx")) | fail "no bx")
local macro_rules | `(tactic| fail "kp") => `(tactic| first | assumption | exact Kp.refl | (with_reducible refine' Kp.at ?h1; (case h1 => fail "kp")) | (with_reducible refine' Kp.new ?h1 ?n1; (case n1 => assumption); (case h1 => fail "kp")) | (with_reducible refine' Kp.mut ?h1 ?n1; (case n1 => assumption); (case h1 => fail "kp")) | (refine' Kp.tr (by assumption) ?h1; (case h1 => fail "kp")) | (refine' Kp.tr (Kp.of (by assumption)) ?h1; (case h1 => fail "kp")) | (refine' Kq.kp (by assumption) ?h1 (by assumption); (case h1 => fail "kp")) | fail "no kp")
local macro_rules | `(tactic| fail "ite") => `(tactic| first | refine iteT ?_ | refine iteF ?_)
local macro_rules | `(tactic| fail "tt") => `(tactic| first | rfl | exact decide_eq_true (by first | rfl | omega | assumption) | exact decide_eq_true (congrArg V.int (by first | rfl | omega)) | fail "no tt")
local macro_rules | `(tactic| fail "cv") => `(tactic| first | exact .ty _ | exact .own _)
local macro_rules | `(tactic| fail "tx") => `(tactic| first | exact .base (.int _) | exact .base (.bl _) | exact .base .non | exact .base (.lst (by fail "hp")) | exact .base (.tup (by fail "hp")) | fail "no tx")
local macro_rules | `(tactic| fail "dead") => `(tactic| (exfalso; first | omega | contradiction | simp_all))
local macro_rules | `(tactic| fail "dp") => `(tactic| first | exact .tup (SqT.of (by fail "hp")) (.cons (.int _) (.cons (.int _) .nil)) | exact .lst (SqL.of (by fail "hp")) (dpPrs (by fail "pr")) | exact .lst (SqL.of (by fail "hp")) (dpInts _) | exact .lst (SqL.of (by fail "hp")) .nil | fail "no dp")
local macro_rules | `(tactic| fail "shp") => `(tactic| first | assumption | exact prD_shaped _ | exact PySem.W.ke_shaped_ints _ | rfl | fail "no shp")
local macro_rules | `(tactic| fail "pr") => `(tactic| first | assumption | exact PrT.mono (by assumption) (by fail "tk") | fail "no pr")
local macro_rules | `(tactic| fail "tk") => `(tactic| first | assumption | exact Tk.refl | (with_reducible refine' Tk.new ?h1 ?n1; (case n1 => assumption); (case h1 => fail "tk")) | (refine' Tk.tr (Kp.tk (by assumption) (by fail "bx")) ?h1; (case h1 => fail "tk")) | (refine' Tk.tr (Same.tk (by assumption)) ?h1; (case h1 => fail "tk")) | (with_reducible refine' Tk.lst ?h1 ?n1; (case n1 => fail "hp"); (case h1 => fail "tk")) | fail "no tk")
local macro_rules | `(tactic| fail "lk") => `(tactic| first | exact netF_count _ _ | exact netF_links _ _ | exact netF_no _ _ (by decide +kernel) (by decide +kernel) | fail "no lk")
local macro_rules | `(tactic| fail "kt") => `(tactic| first | exact upd_same | assumption | fail "hp")
local macro_rules | `(tactic| fail "na") => `(tactic| first | assumption | (with_reducible refine' NetAt.new ?h1 ?n1; (case n1 => assumption); (case h1 => fail "na")) | (refine' NetAt.same (by assumption) ?h1; (case h1 => fail "na")) | (refine' NetAt.kp (by assumption) (by fail "bx") ?h1; (case h1 => fail "na")) | (with_reducible refine' NetAt.lst ?h1 ?n1; (case n1 => fail "hp"); (case h1 => fail "na")) | fail "no na")
local macro_rules | `(tactic| fail "mono") => `(tactic| first | exact fun _ _ _ _ h q => h _ _ q | exact fun _ _ _ _ h q => (let ⟨v, e, z⟩ := q; ⟨v, e, h _ _ z⟩) | exact fun _ _ _ _ h q => (let ⟨v, e, u, f, z⟩ := q; ⟨v, e, u, f, h _ _ z⟩) | fail "no mono")
local macro_rules | `(tactic| fail "sm") => `(tactic| first | assumption | exact Same.refl _ | (with_reducible refine' Same.new ?h1 ?n1; (case n1 => assumption); (case h1 => fail "sm")) | (refine' Same.tr (by assumption) ?h1; (case h1 => fail "sm")) | fail "no sm")
local macro_rules | `(tactic| fail "fld") => `(tactic| first | (show 0 < 1000; decide) | (show 1 < 1000; decide) | fail "no fld")
local macro_rules | `(tactic| fail "kq") => `(tactic| first | assumption | exact Kq.refl | (with_reducible refine' Kq.at ?h1; (case h1 => fail "kq")) | (with_reducible refine' Kq.new ?h1 ?n1; (case n1 => assumption); (case h1 => fail "kq")) | (refine' Kq.trans ?h1 (by assumption); (case h1 => fail "kq")) | (refine' Kq.trans ?h1 (Kq.of (by assumption)); (case h1 => fail "kq")) | (refine' Kq.trans ?h1 (Kq.ofS (by assumption)); (case h1 => fail "kq")) | fail "no kq")
local macro_rules | `(tactic| fail "mo") => `(tactic| first | assumption | exact MemOk.take (by assumption) _ | exact MemOk.drop (by assumption) _ | exact every_ok _ | fail "no mo")

section
variable {P : Program} {w : World} {K : PySem.W.Frag} {mg : Str → Option Value} {base : Heap} {CN CI CU CL CS : Addr} {mc mu : Value}

theorem mt_popL {X : Cx} : MtR X "list.pop" (fun x vs H Q => ∃ (l : Addr) (ns : List Int) (y : Int), x = V.ref l ∧ vs = [] ∧ H l = some (.lst ((ns ++ [y]).map V.int)) ∧ Q (.int y) (upd H l (.lst (ns.map V.int)))) := by
  intro pins s σ H x xs v us Q I rx r h
  obtain ⟨l, ns, y, rfl, rfl, hl, k⟩ := h
  have e : (ns ++ [y]).map V.int = ns.map V.int ++ [V.int y] := by rw [List.map_append]; rfl
  refine mt_pop pins s σ H _ _ v us Q I rx r ⟨l, _, V.int y, rfl, rfl, hl, ?_, ?_⟩
  · rw [e, List.length_append, List.length_singleton, Nat.add_sub_cancel, List.getElem?_append_right (Nat.le_refl _), Nat.sub_self]
    rfl
  · rw [e, List.dropLast_concat]
    exact k
theorem ix_listB {X : Cx} {K : PySem.W.Frag} (hK : X.K = K) : IxR X (rIxL K) := by
  subst hK
  exact ix_list
theorem of_rowI {R : Rel} {x j : Nat} {z : Int} (h : z ∈ rowI R x j) : ∃ y : Nat, y < j ∧ R x y = true ∧ z = (y : Int) := by
  unfold rowI at h
  obtain ⟨y, hy, e⟩ := List.mem_map.mp h
  obtain ⟨h1, h2⟩ := List.mem_filter.mp hy
  exact ⟨y, List.mem_range.mp h1, h2, e.symm⟩
theorem to_rowI {R : Rel} {x j y : Nat} (h : y < j) (r : R x y = true) : (y : Int) ∈ rowI R x j := by
  unfold rowI
  exact List.mem_map.mpr ⟨y, List.mem_filter.mpr ⟨List.mem_range.mpr h, r⟩, rfl⟩
theorem ixN_nat {n y : Nat} (h : y < n) : ixN n (y : Int) = some y := by
  unfold ixN
  rw [if_pos (by omega), if_pos (by omega)]
  rfl
/-- those that are no replicas -/
def odd (n : Nat) (xs : List Int) : List Int := xs.filter fun x => !decide (0 ≤ x ∧ x < (n : Int))
theorem odd_app (n : Nat) (xs ys : List Int) : odd n (xs ++ ys) = odd n xs ++ odd n ys := List.filter_append ..
theorem odd_ok {n : Nat} {x : Int} (h : 0 ≤ x ∧ x < (n : Int)) : odd n [x] = [] := by
  unfold odd
  rw [List.filter_cons_of_neg (by rw [decide_eq_true h]; exact Bool.false_ne_true)]
  rfl
theorem odd_no {n : Nat} {x : Int} (h : ¬ (0 ≤ x ∧ x < (n : Int))) : odd n [x] = [x] := by
  unfold odd
  rw [List.filter_cons_of_pos (by rw [decide_eq_false h]; rfl)]
  rfl
theorem odd_take {n i : Nat} {x : Int} {xs : List Int} (e : xs[i]? = some x) : odd n (xs.take (i + 1)) = odd n (xs.take i) ++ odd n [x] := by
  rw [take_at e, odd_app]
theorem odd_first {n i : Nat} {x : Int} {xs ys : List Int} (e : xs[i]? = some x) (h : odd n (xs.take i) = []) (b : ¬ (0 ≤ x ∧ x < (n : Int))) : ∃ r, odd n (xs ++ ys) = x :: r := by
  refine ⟨odd n (xs.drop (i + 1)) ++ odd n ys, ?_⟩
  have q : xs = xs.take (i + 1) ++ xs.drop (i + 1) := (List.take_append_drop _ _).symm
  rw [odd_app]
  conv => lhs; rw [q]
  rw [odd_app, odd_take e, h, odd_no b]
  rfl
theorem odd_nil {n : Nat} {xs : List Int} (h : odd n xs = []) : ∀ x ∈ xs, 0 ≤ x ∧ x < (n : Int) := fun x hx => by
  by_cases b : 0 ≤ x ∧ x < (n : Int)
  · exact b
  · have : x ∈ odd n xs := List.mem_filter.mpr ⟨hx, by rw [decide_eq_false b]; rfl⟩
    rw [h] at this
    cases this
def spReach (CN CU : Addr) : Sp := fun vs H Q E => ∃ (a s l : Addr) (n : Nat) (R : Rel) (ss ws : List Int), vs = [.ref a, .ref s, .ref l] ∧ NetAt CN H a n R ∧ H s = some (.lst (ss.map V.int)) ∧ H l = some (.lst (ws.map V.int)) ∧
  (odd n (ss ++ ws) = [] → ∀ (p : Addr) (H' : Hp), H p = none → Same H H' → H' p = some (.lst ((rchL n R ss ws).map V.int)) → Q (.ref p) H') ∧
  (∀ x r, odd n (ss ++ ws) = x :: r → RaisesU CU x H E)
abbrev sReachWithin : Stmt := top 14
theorem scReachWithin : FnScope ["net", "starts", "allowed", "replica", "inside", "reached", "waiting", "source", "reader"] ["net", "starts", "allowed"] (defScope sReachWithin) := ⟨rfl, rfl, rfl, by decide +kernel, rfl, by decide +kernel, by decide +kernel⟩
theorem ok_ReachWithin (D : Df K mg "reach_within" sReachWithin ["net", "starts", "allowed"]) (T : NTx K mg CN mc mu) (GCheckReplica : CalX P w K mg base 3 "check_replica" (spCheckReplica CN CU)) (Nreaders : MetX P w K mg base 5 CN "readers" (spReaders CN CU)) : CalX P w K mg base 6 "reach_within" (spReach CN CU) := by
  obtain ⟨f, fd, F, hm, hb⟩ := D
  refine ⟨f, fd, ["net", "starts", "allowed"], F.okN scReachWithin (fun vs H Q E h => ?_) (fun cdv A outer s H vs Q E hr h => ?_), hm, F.kp, hb⟩
  · obtain ⟨a, s0, l, n, R, ss, ws, rfl, na, hs, hl, k1, k2⟩ := h
    rfl
  · obtain ⟨a, s0, l, n, R, ss, ws, rfl, na, hs, hl, k1, k2⟩ := h
    have na2 := na
    obtain ⟨⟨dx, d, ha, hd⟩, b1, b2, ir⟩ := na2
    refine ⟨_, (pss_cons (ps_for (passes_of rfl) rfl (pi_list (pv 1)) (pg_name (i := 3) scReachWithin.nd rfl (Or.inl rfl))
        (pss_one (ps_expr (pe_cX GCheckReplica hr (by decide) (by rfl) (L2N.passes_call (L2N.takes_of rfl rfl rfl rfl) fun _ _ _ _ h => h) (pa_cons (pv 0) (pa_cons (pv 3) pa_nil))))))
      (pss_cons (ps_for (passes_of rfl) rfl (pi_list (pv 2)) (pg_name (i := 3) scReachWithin.nd rfl (Or.inl rfl))
        (pss_one (ps_expr (pe_cX GCheckReplica hr (by decide) (by rfl) (L2N.passes_call (L2N.takes_of rfl rfl rfl rfl) fun _ _ _ _ h => h) (pa_cons (pv 0) (pa_cons (pv 3) pa_nil))))))
      (pss_cons (ps_set (i := 4) scReachWithin.nd rfl (Or.inr rfl) (pe_lc (own := [("replica", 3)]) (g := gName 3) (tt := tYes) rfl scReachWithin.nd (pi_range1 rfl T.range (pa_cons (pe_fld (pv 0) (by rfl)) pa_nil)) (blkOk_by (N := ["net", "starts", "allowed", "replica", "inside", "reached", "waiting", "source", "reader"]) (sc := defScope sReachWithin) (by decide +kernel)) (fun _ _ _ _ _ => (pg_name (i := 3) scReachWithin.nd rfl (Or.inl rfl))) (fun _ _ _ _ _ => pts_nil) (fun _ _ _ _ _ => (pe_cmpR op_inI (pv 3) (pv 2) (by rfl)))))
      (pss_cons (ps_set (i := 5) scReachWithin.nd rfl (Or.inr rfl) (pe_lc (own := [("replica", 3)]) (g := gName 3) (tt := tYes) rfl scReachWithin.nd (pi_range1 rfl T.range (pa_cons (pe_fld (pv 0) (by rfl)) pa_nil)) (blkOk_by (N := ["net", "starts", "allowed", "replica", "inside", "reached", "waiting", "source", "reader"]) (sc := defScope sReachWithin) (by decide +kernel)) (fun _ _ _ _ _ => (pg_name (i := 3) scReachWithin.nd rfl (Or.inl rfl))) (fun _ _ _ _ _ => pts_nil) (fun _ _ _ _ _ => (pe_and (pe_ix (ix_listB (K := K) (by rfl)) (pv 4) (pv 3) (fun _ _ => rfl)) (pe_one (pe_cmpR op_inI (pv 3) (pv 1) (by rfl)))))))
      (pss_cons (ps_setLc (i := 6) (own := [("replica", 3)]) (g := gName 3) rfl scReachWithin.nd rfl rfl (sw_true rfl rfl rfl (by decide +kernel)) (pi_range1 rfl T.range (pa_cons (pe_fld (pv 0) (by rfl)) pa_nil)) (blkOk_by (N := ["net", "starts", "allowed", "replica", "inside", "reached", "waiting", "source", "reader"]) (sc := defScope sReachWithin) (by decide +kernel)) (fun _ _ _ _ _ => (pg_name (i := 3) scReachWithin.nd rfl (Or.inl rfl))) (fun _ _ _ _ _ => (pts_one (pt_val (pe_ix (ix_listB (K := K) (by rfl)) (pv 5) (pv 3) (fun _ _ => rfl))))) (fun _ _ _ _ _ => (pv 3)))
      (pss_cons (ps_while (passes_of rfl) (pt_truth (pv 6) (by intro _; rfl))
        (pss_cons (ps_set (i := 7) scReachWithin.nd rfl (Or.inl rfl) (pe_bm0 PySem.F.plainAttrs_list PySem.F.slot_list_pop PySem.F.type_list_pop mt_popL (pv 6)))
        (pss_one (ps_for (passes_of rfl) rfl (pi_list (pe_mx Nreaders hr (by decide) (L2N.passes_call (L2N.takes_of rfl rfl rfl rfl) fun _ _ _ _ h => h) (pv 0) (pa_cons (pv 7) pa_nil))) (pg_name (i := 8) scReachWithin.nd rfl (Or.inl rfl))
          (pss_one (ps_if (PW.pt (pw_and (pt_val (pe_ix ix_list (pv 4) (pv 8) (fun _ _ => rfl))) (pw_and1 (pt_not (pt_val (pe_ix ix_list (pv 5) (pv 8) (fun _ _ => rfl)))))))
            (pss_cons (ps_asg pe_bl (pg_sub (pv 5) (pv 8) set_list))
            (pss_one (ps_expr (pe_bm PySem.F.plainAttrs_list PySem.F.slot_list_append PySem.F.type_list_append mt_appendI (pv 6) (pa_cons (pv 8) pa_nil)))))
            pss_nil))))))
      (pss_one (ps_ret (pe_lc (own := [("replica", 3)]) (g := gName 3) rfl scReachWithin.nd (pi_range1 rfl T.range (pa_cons (pe_fld (pv 0) (by rfl)) pa_nil)) (blkOk_by (N := ["net", "starts", "allowed", "replica", "inside", "reached", "waiting", "source", "reader"]) (sc := defScope sReachWithin) (by decide +kernel)) (fun _ _ _ _ _ => (pg_name (i := 3) scReachWithin.nd rfl (Or.inl rfl))) (fun _ _ _ _ _ => (pts_one (pt_val (pe_ix (ix_listB (K := K) (by rfl)) (pv 5) (pv 3) (fun _ _ => rfl))))) (fun _ _ _ _ _ => (pv 3))))))))))), ?_⟩
    -- for replica in starts:
    refine ⟨_, rfl, _, rfl, ⟨_, SqL.of (by fail "hp")⟩, for_list (K := K) (a := s0) (xs := ss.map V.int) (fun i σ H2 => ∃ v : Option V, σ = [some (.ref a), some (.ref s0), some (.ref l), v, none, none, none, none, none] ∧ Same H H2 ∧ odd n (ss.take i) = []) ⟨_, rfl, Same.refl _, by rw [List.take_zero]; rfl⟩ (fun i σ H2 _ z => by obtain ⟨v, _, sm, _⟩ := z; exact SqL.of (sm _ _ hs)) ?_ ?_⟩
    · rintro i x0 σ Hi hx ⟨v, rfl, smi, oi⟩
      obtain ⟨x, ex, rfl⟩ := item_of hx
      have kB : ¬ (0 ≤ x ∧ x < (n : Int)) → RaisesU CU x H E := fun z => by
        obtain ⟨r, e⟩ := odd_first (ys := ws) ex oi z
        exact k2 _ r e
      -- check_replica(net, replica)
      refine ⟨_, rfl, _, rfl, _, _, _, _, rfl, (by fail "na"), fun gd1 H1 sm1 => ?_, fun z => RaisesU.back (kB z) (by fail "sm")⟩
      exact ⟨_, rfl, by fail "sm", by rw [odd_take ex, oi, odd_ok gd1]; rfl⟩
    · rintro σ Hi ⟨v, rfl, smi, os⟩
      rw [List.length_map, List.take_length] at os
      -- for replica in allowed:
      refine ⟨_, rfl, _, rfl, ⟨_, SqL.of (by fail "hp")⟩, for_list (K := K) (a := l) (xs := ws.map V.int) (fun i σ H2 => ∃ v : Option V, σ = [some (.ref a), some (.ref s0), some (.ref l), v, none, none, none, none, none] ∧ Same H H2 ∧ odd n (ws.take i) = []) ⟨_, rfl, smi, by rw [List.take_zero]; rfl⟩ (fun i σ H2 _ z => by obtain ⟨v, _, sm, _⟩ := z; exact SqL.of (sm _ _ hl)) ?_ ?_⟩
      · rintro i x0 σ Hi hx ⟨v, rfl, smi, oi⟩
        obtain ⟨x, ex, rfl⟩ := item_of hx
        have kB : ¬ (0 ≤ x ∧ x < (n : Int)) → RaisesU CU x H E := fun z => by
          obtain ⟨r, e⟩ := odd_first (ys := []) ex oi z
          rw [List.append_nil] at e
          have e : odd n (ss ++ ws) = x :: r := by rw [odd_app, os, e]; rfl
          exact k2 _ r e
        -- check_replica(net, replica)
        refine ⟨_, rfl, _, rfl, _, _, _, _, rfl, (by fail "na"), fun gd2 H2 sm2 => ?_, fun z => RaisesU.back (kB z) (by fail "sm")⟩
        exact ⟨_, rfl, by fail "sm", by rw [odd_take ex, oi, odd_ok gd2]; rfl⟩
      · rintro σ Hi ⟨v, rfl, smi, ow⟩
        rw [List.length_map, List.take_length] at ow
        have hai := smi _ _ ha
        -- inside = [replica in allowed for replica in range(net.count)]
        refine ⟨_, rfl, _, _, _, _, _, rfl, (by fail "hp"), T.cl, T.n_count, (by fail "lk"), _, rfl, (by fail "om"), (by fail "om"), fun D1 nD1 => lc_range (lo := 0) (n := ((n : Int)).toNat) (fun i H' => Same Hi H' ∧ H' D1 = some (.lst (bl i (fun (x : Nat) => decide ((x : Int) ∈ ws))))) ⟨Same.new (Same.refl _) nD1, upd_same⟩ (fun i H' hi z => by
      obtain ⟨sm, hD⟩ := z
      have hin : i < n := by omega
      have hsz : (bl i (fun (x : Nat) => decide ((x : Int) ∈ ws))).length < sizeLine := Evl.sz_lt (by rw [bl_len]; omega)
      refine ⟨rfl, ?_⟩
      unfold tYes
      refine iteT ?_
      refine ⟨_, rfl, _, rfl, _, _, _, rfl, rfl, sm _ _ (smi _ _ hl), _, hD, hsz, Same.mut sm nD1, ?_⟩
      rw [upd_same, bl_snoc, Int.zero_add]) (fun H1 z => ?_)⟩
        obtain ⟨sm1a, h11⟩ := z
        rw [Int.toNat_natCast] at h11
        have sm1 := smi.trans sm1a
        have ha1 := sm1 _ _ ha
        -- reached = [inside[replica] and replica in starts for replica in range(net.count)]
        refine ⟨_, rfl, _, _, _, _, _, rfl, (by fail "hp"), T.cl, T.n_count, (by fail "lk"), _, rfl, (by fail "om"), (by fail "om"), fun D2 nD2 => lc_range (lo := 0) (n := ((n : Int)).toNat) (fun i H' => Same H1 H' ∧ H' D2 = some (.lst (bl i (fun (x : Nat) => decide ((x : Int) ∈ ws) && decide ((x : Int) ∈ ss))))) ⟨Same.new (Same.refl _) nD2, upd_same⟩ (fun i H' hi z => by
      obtain ⟨sm, hD⟩ := z
      have hin : i < n := by omega
      have hsz : (bl i (fun (x : Nat) => decide ((x : Int) ∈ ws) && decide ((x : Int) ∈ ss))).length < sizeLine := Evl.sz_lt (by rw [bl_len]; omega)
      refine ⟨rfl, ?_⟩
      unfold tYes
      refine iteT ?_
      refine ⟨_, rfl, _, rfl, _, _, _, _, rfl, rfl, SqL.of (sm _ _ h11), (by rw [Int.zero_add]; exact bl_ix _ hin), _, rfl, ?_⟩
      refine ifB (fun g => ?_) fun g => ?_
      · refine ⟨_, rfl, _, rfl, _, _, _, rfl, rfl, sm _ _ (sm1 _ _ hs), _, hD, hsz, Same.mut sm nD2, ?_⟩
        rw [upd_same, bl_snoc, Int.zero_add, g, Bool.true_and]
      · refine ⟨_, hD, hsz, Same.mut sm nD2, ?_⟩
        rw [upd_same, bl_snoc, g, Bool.false_and]) (fun H2 z => ?_)⟩
        obtain ⟨sm2a, h22⟩ := z
        rw [Int.toNat_natCast] at h22
        have sm2 := sm1.trans sm2a
        have h21 := sm2a _ _ h11
        have ha2 := sm2 _ _ ha
        -- waiting = [replica for replica in range(net.count) if reached[replica]]
        refine ⟨_, rfl, _, _, _, _, _, rfl, (by fail "hp"), T.cl, T.n_count, (by fail "lk"), _, rfl, (by fail "om"), (by fail "om"), fun D3 nD3 => lc_range (lo := 0) (n := ((n : Int)).toNat) (fun i H' => Same H2 H' ∧ H' D3 = some (.lst ((tells (fun (x : Nat) => decide ((x : Int) ∈ ws) && decide ((x : Int) ∈ ss)) i).map V.int))) ⟨Same.new (Same.refl _) nD3, upd_same⟩ (fun i H' hi z => by
      obtain ⟨sm, hD⟩ := z
      have hin : i < n := by omega
      have lt := tells_len (fun (x : Nat) => decide ((x : Int) ∈ ws) && decide ((x : Int) ∈ ss)) i
      refine ⟨rfl, ?_⟩
      refine ⟨_, rfl, _, rfl, _, _, _, _, rfl, rfl, SqL.of (sm _ _ h22), (by rw [Int.zero_add]; exact bl_ix _ hin), _, rfl, ?_⟩
      refine ifB (fun g => ?_) fun g => ?_
      · refine ⟨_, rfl, _, hD, Evl.sz_lt (by rw [List.length_map]; omega), Same.mut sm nD3, ?_⟩
        rw [upd_same, tells_yes (D := (fun (x : Nat) => decide ((x : Int) ∈ ws) && decide ((x : Int) ∈ ss))) g, List.map_append, Int.zero_add]
        rfl
      · exact ⟨sm, by rw [tells_no (D := (fun (x : Nat) => decide ((x : Int) ∈ ws) && decide ((x : Int) ∈ ss))) g]; exact hD⟩) (fun H3 z => ?_)⟩
        obtain ⟨sm3a, h33⟩ := z
        rw [Int.toNat_natCast] at h33
        have sm3 := sm2.trans sm3a
        have h31 := sm3a _ _ h21
        have h32 := sm3a _ _ h22
        have nD2h : H D2 = none := free_back nD2 sm1
        have nD3h : H D3 = none := free_back nD3 sm2
        have n12 : D1 ≠ D2 := ne_of_none h11 nD2
        have n13 : D1 ≠ D3 := ne_of_none h21 nD3
        have n23 : D2 ≠ D3 := ne_of_none h22 nD3
        have sr0 : Srch n R ss ws (fun (x : Nat) => decide ((x : Int) ∈ ws) && decide ((x : Int) ∈ ss)) (tells (fun (x : Nat) => decide ((x : Int) ∈ ws) && decide ((x : Int) ∈ ss)) n) none := Srch.init fun _ => rfl
        -- while waiting:
        refine ⟨fun m σ' Hw => (∃ (v u1 u2 : Option V) (D : Nat → Bool) (us : List Int), σ' = [some (.ref a), some (.ref s0), some (.ref l), v, some (.ref D1), some (.ref D2), some (.ref D3), u1, u2] ∧ Same H Hw ∧ Hw D1 = some (.lst (bl n (fun (x : Nat) => decide ((x : Int) ∈ ws)))) ∧ Hw D2 = some (.lst (bl n D)) ∧ Hw D3 = some (.lst (us.map V.int)) ∧ Srch n R ss ws D us none ∧ 2 * unm n D + us.length = m ∧ m ≤ 72), ⟨_, _, _, _, _, _, rfl, sm3, h31, h32, h33, sr0, rfl, by have q1 := unm_le n (fun (x : Nat) => decide ((x : Int) ∈ ws) && decide ((x : Int) ∈ ss)); have q2 := tells_len (fun (x : Nat) => decide ((x : Int) ∈ ws) && decide ((x : Int) ∈ ss)) n; omega⟩, fun m σ Hw z => ?_⟩
        obtain ⟨v3, u1, u2, D, us, rfl, smw, hw1, hw2, hw3, sr, em, lm⟩ := z
        refine ⟨_, rfl, _, .inl ⟨_, SqL.of (by fail "hp"), rfl⟩, ?_⟩
        refine ifB (fun g3 => ?_) (fun g3 => ?_)
        · refine ⟨fun σ' H' => ∃ m', m' < m ∧ (∃ (v u1 u2 : Option V) (D : Nat → Bool) (us : List Int), σ' = [some (.ref a), some (.ref s0), some (.ref l), v, some (.ref D1), some (.ref D2), some (.ref D3), u1, u2] ∧ Same H H' ∧ H' D1 = some (.lst (bl n (fun (x : Nat) => decide ((x : Int) ∈ ws)))) ∧ H' D2 = some (.lst (bl n D)) ∧ H' D3 = some (.lst (us.map V.int)) ∧ Srch n R ss ws D us none ∧ 2 * unm n D + us.length = m' ∧ m' ≤ 72), fun _ _ z => z, ?_⟩
          obtain ⟨vs, z0, rfl⟩ : ∃ vs z0, us = vs ++ [z0] := by
            have ne : us ≠ [] := fun z => by rw [z] at g3; cases g3
            exact ⟨us.dropLast, us.getLast ne, (List.dropLast_concat_getLast ne).symm⟩
          obtain ⟨x, rfl, hx, sr2⟩ := sr.pop
          have hwl : vs.length + 1 + 2 * unm n D = m := by rw [← em, List.length_append]; show _ = _ + (vs.length + 1); omega
          have smp := Same.mut (o := .lst (vs.map V.int)) smw nD3h
          have hap := smp _ _ ha
          -- source = waiting.pop()
          refine ⟨_, rfl, .inl ⟨rfl, _, SqL.of (by fail "hp")⟩, _, _, _, rfl, rfl, (by fail "hp"), ?_⟩
          have hx1 : (upd Hw D3 (.lst (vs.map V.int))) D1 = some (.lst (bl n (fun (x : Nat) => decide ((x : Int) ∈ ws)))) := by rw [upd_ne n13]; exact hw1
          have hx2 : (upd Hw D3 (.lst (vs.map V.int))) D2 = some (.lst (bl n D)) := by rw [upd_ne n23]; exact hw2
          have hx3 : (upd Hw D3 (.lst (vs.map V.int))) D3 = some (.lst (vs.map V.int)) := upd_same
          have nap : NetAt CN (upd Hw D3 (.lst (vs.map V.int))) a n R := NetAt.same smp na
          -- for reader in net.readers(source):
          refine ⟨_, rfl, _, _, _, rfl, (by fail "hp"), (by fail "lk"), _, rfl, _, _, _, _, rfl, (by fail "na"), fun gd4 p4 H4 np4 sm4 hp4 => ⟨_, rfl, ⟨_, SqL.of (by fail "hp")⟩, for_list (K := K) (a := p4) (xs := (rowI R x n).map V.int) (fun j σ Hj => ∃ (u2 : Option V) (Dj : Nat → Bool) (vj : List Int), σ = [some (.ref a), some (.ref s0), some (.ref l), v3, some (.ref D1), some (.ref D2), some (.ref D3), some (.int (x : Int)), u2] ∧ Same H Hj ∧ Hj D1 = some (.lst (bl n (fun (x : Nat) => decide ((x : Int) ∈ ws)))) ∧ Hj D2 = some (.lst (bl n Dj)) ∧ Hj D3 = some (.lst (vj.map V.int)) ∧ Hj p4 = some (.lst ((rowI R x n).map V.int)) ∧ Srch n R ss ws Dj vj (some (x, (rowI R x n).take j)) ∧ 2 * unm n Dj + vj.length < m) ⟨_, D, vs, rfl, smp.trans sm4, sm4 _ _ hx1, sm4 _ _ hx2, sm4 _ _ hx3, hp4, sr2, by omega⟩ (fun j σ Hj _ z => by obtain ⟨_, _, _, _, _, _, _, _, h, _⟩ := z; exact SqL.of h) ?_ ?_⟩, fun z => absurd ⟨by omega, by omega⟩ z⟩
          · rintro j y0 σ Hj hy0 ⟨u2, Dj, vj, rfl, smj, hj1, hj2, hj3, hj4, srj, lj⟩
            obtain ⟨y1, ey, rfl⟩ := item_of hy0
            obtain ⟨y, hy, ry, rfl⟩ := of_rowI (List.mem_of_getElem? ey)
            have ixi := bl_ix (fun (x : Nat) => decide ((x : Int) ∈ ws)) hy
            have ixd := bl_ix Dj hy
            have tk := take_at ey
            have ixs : ixN (bl n Dj).length (y : Int) = some y := by rw [bl_len]; exact ixN_nat hy
            have n42 : p4 ≠ D2 := (ne_of_none hx2 np4).symm
            have n43 : p4 ≠ D3 := (ne_of_none hx3 np4).symm
            -- if inside[reader] and (not reached[reader]):
            refine ⟨_, rfl, _, rfl, _, _, _, _, rfl, rfl, SqL.of (by fail "hp"), (by fail "ix"), _, rfl, ?_⟩
            refine ifB (fun g5 => ?_) (fun g5 => ?_)
            · refine ⟨_, rfl, _, rfl, _, _, _, _, rfl, rfl, SqL.of (by fail "hp"), (by fail "ix"), _, rfl, ?_⟩
              refine nifB (fun g6 => ?_) (fun g6 => ?_)
              · -- reached[reader] = True
                refine ⟨_, rfl, _, rfl, _, _, _, _, rfl, rfl, (by fail "hp"), (by fail "ixn"), ?_⟩
                -- waiting.append(reader)
                refine ⟨_, rfl, .inl ⟨rfl, _, SqL.of (by fail "hp")⟩, _, rfl, _, _, _, rfl, rfl, (by fail "hp"), (by fail "szl"), ?_⟩
                have fr : Dj y = false := g6
                have um := unm_on hy fr
                have mm := of_decide_eq_true g5
                refine ⟨_, on Dj y, vj ++ [(y : Int)], rfl, Same.mut (Same.mut smj nD2h) nD3h, ?_, ?_, upd_same, ?_, ?_, ?_⟩
                · rw [upd_ne n13, upd_ne n12]; exact hj1
                · rw [upd_ne n23, upd_same, bl_set _ hy]
                · rw [upd_ne n43, upd_ne n42]; exact hj4
                · rw [tk]; exact srj.mark hy ry mm
                · rw [List.length_append]; show _ + (_ + 1) < _; omega
              · refine ⟨_, Dj, vj, rfl, smj, hj1, hj2, hj3, hj4, ?_, lj⟩
                rw [tk]
                exact srj.pass fun _ => g6
            · fail "ite"
              refine ⟨_, Dj, vj, rfl, smj, hj1, hj2, hj3, hj4, ?_, lj⟩
              rw [tk]
              exact srj.pass fun mm => absurd mm (of_decide_eq_false g5)
          · rintro σ Hj ⟨u2, Dj, vj, rfl, smj, hj1, hj2, hj3, hj4, srj, lj⟩
            exact ⟨_, by show 2 * unm n Dj + vj.length < m; omega, _, _, _, Dj, vj, rfl, smj, hj1, hj2, hj3, srj.end (fun y hy r => by rw [List.length_map, List.take_length]; exact to_rowI hy r), rfl, by omega⟩
        · obtain rfl : us = [] := by
            cases us with
            | nil => rfl
            | cons _ _ => cases g3
          have hp := sr.done
          have hah := smw _ _ ha
          -- return [replica for replica in range(net.count) if reached[replica]]
          refine ⟨_, rfl, _, _, _, _, _, rfl, (by fail "hp"), T.cl, T.n_count, (by fail "lk"), _, rfl, (by fail "om"), (by fail "om"), fun D4 nD4 => lc_range (lo := 0) (n := ((n : Int)).toNat) (fun i H' => Same Hw H' ∧ H' D4 = some (.lst ((tells D i).map V.int))) ⟨Same.new (Same.refl _) nD4, upd_same⟩ (fun i H' hi z => by
      obtain ⟨sm, hD⟩ := z
      have hin : i < n := by omega
      have lt := tells_len D i
      refine ⟨rfl, ?_⟩
      refine ⟨_, rfl, _, rfl, _, _, _, _, rfl, rfl, SqL.of (sm _ _ hw2), (by rw [Int.zero_add]; exact bl_ix _ hin), _, rfl, ?_⟩
      refine ifB (fun g => ?_) fun g => ?_
      · refine ⟨_, rfl, _, hD, Evl.sz_lt (by rw [List.length_map]; omega), Same.mut sm nD4, ?_⟩
        rw [upd_same, tells_yes g, List.map_append, Int.zero_add]
        rfl
      · exact ⟨sm, by rw [tells_no g]; exact hD⟩) (fun H' z => ?_)⟩
          obtain ⟨smE, hE⟩ := z
          rw [Int.toNat_natCast, tells_congr hp, ← rchL_tells] at hE
          exact k1 (by rw [odd_app, os, ow]; rfl) _ _ (free_back nD4 smw) (smw.trans smE) hE
end
section
end
end K02

end
section
set_option Elab.async false
set_option linter.all false
set_option maxRecDepth 100000
set_option maxHeartbeats 4000000
namespace K02
open PySem L2 Kit KR KX KI RM
local macro_rules | `(tactic| fail "om") => `(tactic| first | omega | (simp only [List.length_map, List.length_append, List.length_cons, List.length_nil]; omega) | (simp only [List.length_map, List.length_append, List.length_cons, List.length_nil] at *; omega) | assumption | decide | (simp only [List.length_take, List.length_drop]; omega) | (rw [every_len]; omega) | fail "no om")
local macro_rules | `(tactic| fail "nz") => `(tactic| first | decide | omega | fail "no nz")
local macro_rules | `(tactic| fail "dv") => `(tactic| exact ⟨by first | decide | omega, by first | decide | omega⟩)
local macro_rules | `(tactic| fail "mul") => `(tactic| first | exact .inr ⟨by decide, by decide⟩ | exact .inl ⟨by decide, by decide⟩ | exact mulF (by decide) (by decide) | exact .inl ⟨by omega, by omega⟩ | exact .inr ⟨by omega, by omega⟩ | fail "no mul")
local macro_rules | `(tactic| fail "sz") => `(tactic| first | assumption | exact Nat.zero_le _ | (show 1 ≤ sizeLine; decide) | (show 2 ≤ sizeLine; decide) | (show 3 ≤ sizeLine; decide) | (show 4 ≤ sizeLine; decide) | (show 5 ≤ sizeLine; decide) | exact Evl.sz_of (by omega) | (refine Evl.sz_of ?_; simp only [List.length_append, List.length_map, List.length_cons, List.length_nil]; omega) | (refine Evl.sz_of ?_; simp only [List.length_append, List.length_map, List.length_cons, List.length_nil, List.length_take, List.length_drop]; omega) | fail "no sz")
local macro_rules | `(tactic| fail "szl") => `(tactic| first | exact Evl.sz_lt (by omega) | (refine Evl.sz_lt ?_; simp only [List.length_append, List.length_map, List.length_cons, List.length_nil]; omega) | fail "no szl")
local macro_rules | `(tactic| fail "ix") => `(tactic| first | assumption | exact ix0 | exact ix1 | exact ix2 | exact at_ref (by assumption) (by omega) | exact at_int (by assumption) (by omega) | exact at_drawn (by assumption) (by assumption) | exact at_lit (by first | assumption | omega) (by fail "om") | rfl | fail "no ix")
local macro_rules | `(tactic| fail "ixn") => `(tactic| first | rfl | assumption | fail "no ixn")
local macro_rules | `(tactic| fail "nb") => `(tactic| first | assumption | exact nb_tup | exact nb_nil | exact nb_ints | exact nb_refs | exact nb_ins | exact nb_dT | exact nb_frz | fail "no nb")
local macro_rules | `(tactic| fail "ne") => `(tactic| first | assumption | exact Ne.symm (by assumption) | exact ne_of_none (by assumption) (by assumption) | exact (ne_of_none (by assumption) (by assumption)).symm | exact ne_of (by assumption) (by assumption) (by intro q; cases q) | exact ne_of (by assumption) (by assumption) (by simp) | fail "no ne")
local macro_rules | `(tactic| fail "hp") => `(tactic| first | assumption | exact upd_same | exact lit0 | exact lit1 | exact lit3 | exact lit2 | (refine' Tk.get (by assumption) ?k1; (case k1 => fail "tk")) | (with_reducible refine' upd_new ?h1 ?n1; (case n1 => assumption); (case h1 => fail "hp")) | (refine' Same.get (by assumption) ?h1; (case h1 => fail "hp")) | (refine' Kp.get (by assumption) (by fail "bx") ?h1 ?d1; (case h1 => fail "hp"); (case d1 => fail "nb")) | (with_reducible refine' upd_oth ?h1 ?n1; (case n1 => fail "ne"); (case h1 => fail "hp")) | (with_reducible refine' upd_oth ?h1 ?n1; (case h1 => fail "hp"); (case n1 => fail "ne")) | (refine' Kq.get (by assumption) (by fail "bx") ?h1 ?d1 (by fail "ne"); (case h1 => fail "hp"); (case d1 => fail "nb")) | fail "no hp")
local macro_rules | `(tactic| fail "bx") => `(tactic| first | assumption | (with_reducible refine' BoxOk.new ?h1 ?n1; (case n1 => assumption); (case h1 => fail "bx")) | (refine' BoxOk.same (by assumption) ?h1; (case h1 => fail "bx")) | (with_reducible refine' BoxOk.mut ?h1 ?h2 ?n1; (case n1 => assumption); (case h2 => assumption); (case h1 => fail "bx")) | fail "no bx")
local macro_rules | `(tactic| fail "kp") => `(tactic| first | assumption | exact Kp.refl | (with_reducible refine' Kp.at ?h1; (case h1 => fail "kp")) | (with_reducible refine' Kp.new ?h1 ?n1; (case n1 => assumption); (case h1 => fail "kp")) | (with_reducible refine' Kp.mut ?h1 ?n1; (case n1 => assumption); (case h1 => fail "kp")) | (refine' Kp.tr (by assumption) ?h1; (case h1 => fail "kp")) | (refine' Kp.tr (Kp.of (by assumption)) ?h1; (case h1 => fail "kp")) | (refine' Kq.kp (by assumption) ?h1 (by assumption); (case h1 => fail "kp")) | fail "no kp")
local macro_rules | `(tactic| fail "ite") => `(tactic| first | refine iteT ?_ | refine iteF ?_)
local macro_rules | `(tactic| fail "tt") => `(tactic| first | rfl | exact decide_eq_true (by first | rfl | omega | assumption) | exact decide_eq_true (congrArg V.int (by first | rfl | omega)) | fail "no tt")
local macro_rules | `(tactic| fail "cv") => `(tactic| first | exact .ty _ | exact .own _)
local macro_rules | `(tactic| fail "tx") => `(tactic| first | exact .base (.int _) | exact .base (.bl _) | exact .base .non | exact .base (.lst (by fail "hp")) | exact .base (.tup (by fail "hp")) | fail "no tx")
local macro_rules | `(tactic| fail "dead") => `(tactic| (exfalso; first | omega | contradiction | simp_all))
local macro_rules | `(tactic| fail "dp") => `(tactic| first | exact .tup (SqT.of (by fail "hp")) (.cons (.int _) (.cons (.int _) .nil)) | exact .lst (SqL.of (by fail "hp")) (dpPrs (by fail "pr")) | exact .lst (SqL.of (by fail "hp")) (dpInts _) | exact .lst (SqL.of (by fail "hp")) .nil | fail "no dp")
local macro_rules | `(tactic| fail "shp") => `(tactic| first | assumption | exact prD_shaped _ | exact PySem.W.ke_shaped_ints _ | rfl | fail "no shp")
local macro_rules | `(tactic| fail "pr") => `(tactic| first | assumption | exact PrT.mono (by assumption) (by fail "tk") | fail "no pr")
local macro_rules | `(tactic| fail "tk") => `(tactic| first | assumption | exact Tk.refl | (with_reducible refine' Tk.new ?h1 ?n1; (case n1 => assumption); (case h1 => fail "tk")) | (refine' Tk.tr (Kp.tk (by assumption) (by fail "bx")) ?h1; (case h1 => fail "tk")) | (refine' Tk.tr (Same.tk (by assumption)) ?h1; (case h1 => fail "tk")) | (with_reducible refine' Tk.lst ?h1 ?n1; (case n1 => fail "hp"); (case h1 => fail "tk")) | fail "no tk")
local macro_rules | `(tactic| fail "lk") => `(tactic| first | exact netF_count _ _ | exact netF_links _ _ | exact netF_no _ _ (by decide +kernel) (by decide +kernel) | fail "no lk")
local macro_rules | `(tactic| fail "kt") => `(tactic| first | exact upd_same | assumption | fail "hp")
local macro_rules | `(tactic| fail "na") => `(tactic| first | assumption | (with_reducible refine' NetAt.new ?h1 ?n1; (case n1 => assumption); (case h1 => fail "na")) | (refine' NetAt.same (by assumption) ?h1; (case h1 => fail "na")) | (refine' NetAt.kp (by assumption) (by fail "bx") ?h1; (case h1 => fail "na")) | (with_reducible refine' NetAt.lst ?h1 ?n1; (case n1 => fail "hp"); (case h1 => fail "na")) | fail "no na")
local macro_rules | `(tactic| fail "mono") => `(tactic| first | exact fun _ _ _ _ h q => h _ _ q | exact fun _ _ _ _ h q => (let ⟨v, e, z⟩ := q; ⟨v, e, h _ _ z⟩) | exact fun _ _ _ _ h q => (let ⟨v, e, u, f, z⟩ := q; ⟨v, e, u, f, h _ _ z⟩) | fail "no mono")
local macro_rules | `(tactic| fail "sm") => `(tactic| first | assumption | exact Same.refl _ | (with_reducible refine' Same.new ?h1 ?n1; (case n1 => assumption); (case h1 => fail "sm")) | (refine' Same.tr (by assumption) ?h1; (case h1 => fail "sm")) | fail "no sm")
local macro_rules | `(tactic| fail "fld") => `(tactic| first | (show 0 < 1000; decide) | (show 1 < 1000; decide) | fail "no fld")
local macro_rules | `(tactic| fail "kq") => `(tactic| first | assumption | exact Kq.refl | (with_reducible refine' Kq.at ?h1; (case h1 => fail "kq")) | (with_reducible refine' Kq.new ?h1 ?n1; (case n1 => assumption); (case h1 => fail "kq")) | (refine' Kq.trans ?h1 (by assumption); (case h1 => fail "kq")) | (refine' Kq.trans ?h1 (Kq.of (by assumption)); (case h1 => fail "kq")) | (refine' Kq.trans ?h1 (Kq.ofS (by assumption)); (case h1 => fail "kq")) | fail "no kq")
local macro_rules | `(tactic| fail "mo") => `(tactic| first | assumption | exact MemOk.take (by assumption) _ | exact MemOk.drop (by assumption) _ | exact every_ok _ | fail "no mo")

section
variable {P : Program} {w : World} {K : PySem.W.Frag} {mg : Str → Option Value} {base : Heap} {CN CI CU CL CS : Addr} {mc mu : Value}

theorem vals_every : ∀ (j : Nat) (xs : List Value), xs.length = j → (∀ (i : Nat) v, xs[i]? = some v → ∃ t, v = Value.int (i : Int) t) → Vals ((every j).map V.int) xs
  | 0, xs, h, _ => by
    obtain rfl : xs = [] := List.eq_nil_of_length_eq_zero h
    exact .nil
  | j + 1, xs, h, k => by
    have ne : xs ≠ [] := fun z => by rw [z] at h; cases h
    have e : xs = xs.dropLast ++ [xs.getLast ne] := (List.dropLast_concat_getLast ne).symm
    have hl : xs.dropLast.length = j := by rw [List.length_dropLast]; omega
    have at_ : xs[j]? = some (xs.getLast ne) := by
      conv => lhs; rw [e]
      rw [List.getElem?_append_right (by omega), hl, Nat.sub_self]
      rfl
    have ih := vals_every j xs.dropLast hl fun i v hv => k i v (by
      have lt : i < xs.dropLast.length := (List.getElem?_eq_some_iff.mp hv).1
      rw [e, List.getElem?_append_left lt]
      exact hv)
    rw [every_succ, List.map_append, e]
    exact Paired.snoc ih (k j _ at_)
theorem call_list_rng {X : Cx} (hc : X.calm = true) : CallR X (.type "list") (fun vs H Q => ∃ (p : Addr) (j : Nat), vs = [V.ref p] ∧ H p = some (.rng 0 (j : Int)) ∧ j ≤ 24 ∧ ∀ l H', H l = none → Same H H' → H' l = some (.lst ((every j).map V.int)) → Q (.ref l) H') := by
  intro pins s σ H vs us Q I r h
  obtain ⟨p, j, rfl, hp, hj, k⟩ := h
  obtain ⟨u1, rfl, rj⟩ := vals1 r
  obtain rfl : u1 = Value.ref p := rj
  obtain ⟨t1, t2, t3, ho⟩ := I.hok p _ hp
  have d1 : ∀ j : Fin 25, Builtin.Range.small 0 (j.val : Int) 1 = true := by decide +kernel
  have d2 : ∀ j : Fin 25, Builtin.Range.rangeSize 0 (j.val : Int) 1 = (j.val : Int) := by decide +kernel
  refine call_list_range (n := j) (I.ok.hd hc) ho (d1 ⟨j, by omega⟩) (d2 ⟨j, by omega⟩) (by omega) (fun h' tk acc c' kp hd its => ?_)
  have nd : H s.heap.objs.size = none := I.hok.fresh (Nat.le_refl _)
  have vals : Vals ((every j).map V.int) acc.toList := vals_every j _ its.1 fun i v hv => by
    obtain ⟨t, e⟩ := its.2 i v (by rw [← Array.getElem?_toList]; exact hv)
    exact ⟨t, by rw [e]; congr 1; omega⟩
  have line : ((every j).map V.int).length ≤ sizeLine := by rw [List.length_map, every_len, sizeLine_eq]; omega
  have J : L2.Inv X pins σ (upd H s.heap.objs.size (.lst ((every j).map V.int))) { heap := h', gens := s.gens, drawn := s.drawn, toks := tk, os := s.os } := I.call' (ch := []) rfl (Un.laid kp (Nat.le_refl _) nd) (I.hok.laid kp (Nat.le_refl _) ⟨line, _, c', vals, hd⟩) I.bare (fun _ z => nomatch z)
  exact ⟨.ref s.heap.objs.size, _, J, rfl, k _ _ nd (Same.new (Same.refl _) nd) upd_same⟩
theorem zero_list : ([0] : List Int) = [((0 : Nat) : Int)] := rfl
theorem odd_every {n : Nat} {xs : List Int} (h : ∀ x ∈ xs, 0 ≤ x ∧ x < (n : Int)) : odd n (xs ++ every n) = [] := by
  unfold odd
  refine List.filter_eq_nil_iff.mpr fun x hx => ?_
  have b : 0 ≤ x ∧ x < (n : Int) := (List.mem_append.mp hx).elim (fun q => h x q) fun q => mem_every.mp q
  rw [decide_eq_true b]
  exact Bool.false_ne_true
theorem nil_cons_x {α : Type} {x : α} {r xs : List α} (h : xs = []) (e : xs = x :: r) : False := by rw [h] at e; cases e
def spReachesAll (CN : Addr) : Sp := fun vs H Q _ => ∃ (a : Addr) (n : Nat) (R : Rel), vs = [.ref a] ∧ NetAt CN H a n R ∧ ∀ (b : Bool) H', Same H H' → (b = true ↔ ∀ y, y < n → Rch n R [(0 : Int)] (every n) y) → Q (.bl b) H'
abbrev sReachesAll : Stmt := top 17
theorem scReachesAll : FnScope ["net", "everyone"] ["net"] (defScope sReachesAll) := ⟨rfl, rfl, rfl, by decide +kernel, rfl, by decide +kernel, by decide +kernel⟩
theorem ok_ReachesAll (D : Df K mg "reaches_all" sReachesAll ["net"]) (T : NTx K mg CN mc mu) (GReach : CalX P w K mg base 6 "reach_within" (spReach CN CU)) : C8.Cal P w K mg base 7 "reaches_all" (spReachesAll CN) [] := by
  obtain ⟨f, fd, F, hm, hb⟩ := D
  refine ⟨f, fd, ["net"], [], F.ok scReachesAll (fun vs H Q E h => ?_) (fun cdv A outer s H vs Q E hr h => ?_), hm, F.kp, hb, .nil⟩
  · obtain ⟨a, n, R, rfl, na, k⟩ := h
    rfl
  · obtain ⟨a, n, R, rfl, na, k⟩ := h
    have na2 := na
    obtain ⟨⟨dx, d, ha, hd⟩, b1, b2, ir⟩ := na2
    refine ⟨_, (pss_cons (ps_set (i := 1) scReachesAll.nd rfl (Or.inl rfl) (pe_callTy (call_list_rng rfl) (by rfl) T.list (by decide +kernel) (pa_cons (pe_callTy crRange1 (by rfl) T.range (by decide +kernel) (pa_cons (pe_fld (pv 0) (by rfl)) pa_nil)) pa_nil)))
      (pss_one (ps_ret (pe_cmpR (op_eqD hr.units) (pe_cX GReach hr (by decide) (by rfl) passN (pa_cons (pv 0) (pa_cons (pe_lst (pa_cons pe_int pa_nil)) (pa_cons (pv 1) pa_nil)))) (pv 1) (nomark _))))), ?_⟩
    -- everyone = list(range(net.count))
    refine ⟨_, rfl, _, _, _, _, _, rfl, (by fail "hp"), T.cl, T.n_count, (by fail "lk"), _, rfl, fun p2 np2 => ⟨_, n, rfl, upd_same, b2, fun p1 H1 np1 sm1 hp1 => ?_⟩⟩
    have smA : Same H H1 := (Same.new (Same.refl H) np2).trans sm1
    -- return reach_within(net, [0], everyone) == everyone
    refine ⟨_, rfl, (by fail "sz"), fun p4 np4 => ⟨_, rfl, _, _, _, _, _, _, _, rfl, (by fail "na"), (by fail "hp"), (by fail "hp"), fun od3 p3 H3 np3 sm3 hp3 => ⟨_, rfl, _, _, (by fail "dp"), (by fail "dp"), (by fail "shp"), (by fail "shp"), ?_⟩, fun x r e => (nil_cons_x (odd_every (n := n) (xs := [0]) (by intro x hx; have := List.mem_singleton.mp hx; omega)) e).elim⟩⟩
    rw [eqv_ii]
    refine k _ _ (by fail "sm") ?_
    rw [decide_eq_true_iff, rchL_tells, tells_every]
    exact ⟨fun h y hy => rchB_iff.mp (h y hy), fun h y hy => rchB_iff.mpr (h y hy)⟩
end
end K02

end
section
set_option Elab.async false
set_option linter.all false
set_option maxRecDepth 100000
set_option maxHeartbeats 4000000
namespace K02
open PySem L2 Kit KR KX KI RM
local macro_rules | `(tactic| fail "om") => `(tactic| first | omega | (simp only [List.length_map, List.length_append, List.length_cons, List.length_nil]; omega) | (simp only [List.length_map, List.length_append, List.length_cons, List.length_nil] at *; omega) | assumption | decide | (simp only [List.length_take, List.length_drop]; omega) | (rw [every_len]; omega) | fail "no om")
local macro_rules | `(tactic| fail "nz") => `(tactic| first | decide | omega | fail "no nz")
local macro_rules | `(tactic| fail "dv") => `(tactic| exact ⟨by first | decide | omega, by first | decide | omega⟩)
local macro_rules | `(tactic| fail "mul") => `(tactic| first | exact .inr ⟨by decide, by decide⟩ | exact .inl ⟨by decide, by decide⟩ | exact mulF (by decide) (by decide) | exact .inl ⟨by omega, by omega⟩ | exact .inr ⟨by omega, by omega⟩ | fail "no mul")
local macro_rules | `(tactic| fail "sz") => `(tactic| first | assumption | exact Nat.zero_le _ | (show 1 ≤ sizeLine; decide) | (show 2 ≤ sizeLine; decide) | (show 3 ≤ sizeLine; decide) | (show 4 ≤ sizeLine; decide) | (show 5 ≤ sizeLine; decide) | exact Evl.sz_of (by omega) | (refine Evl.sz_of ?_; simp only [List.length_append, List.length_map, List.length_cons, List.length_nil]; omega) | (refine Evl.sz_of ?_; simp only [List.length_append, List.length_map, List.length_cons, List.length_nil, List.length_take, List.length_drop]; omega) | fail "no sz")
local macro_rules | `(tactic| fail "szl") => `(tactic| first | exact Evl.sz_lt (by omega) | (refine Evl.sz_lt ?_; simp only [List.length_append, List.length_map, List.length_cons, List.length_nil]; omega) | fail "no szl")
local macro_rules | `(tactic| fail "ix") => `(tactic| first | assumption | exact ix0 | exact ix1 | exact ix2 | exact at_ref (by assumption) (by omega) | exact at_int (by assumption) (by omega) | exact at_drawn (by assumption) (by assumption) | exact at_lit (by first | assumption | omega) (by fail "om") | rfl | fail "no ix")
local macro_rules | `(tactic| fail "ixn") => `(tactic| first | rfl | assumption | fail "no ixn")
local macro_rules | `(tactic| fail "nb") => `(tactic| first | assumption | exact nb_tup | exact nb_nil | exact nb_ints | exact nb_refs | exact nb_ins | exact nb_dT | exact nb_frz | fail "no nb")
local macro_rules | `(tactic| fail "ne") => `(tactic| first | assumption | exact Ne.symm (by assumption) | exact ne_of_none (by assumption) (by assumption) | exact (ne_of_none (by assumption) (by assumption)).symm | exact ne_of (by assumption) (by assumption) (by intro q; cases q) | exact ne_of (by assumption) (by assumption) (by simp) | fail "no ne")
local macro_rules | `(tactic| fail "hp") => `(tactic| first | assumption | exact upd_same | exact lit0 | exact lit1 | exact lit3 | exact lit2 | (refine' Tk.get (by assumption) ?k1; (case k1 => fail "tk")) | (with_reducible refine' upd_new ?h1 ?n1; (case n1 => assumption); (case h1 => fail "hp")) | (refine' Same.get (by assumption) ?h1; (case h1 => fail "hp")) | (refine' Kp.get (by assumption) (by fail "bx") ?h1 ?d1; (case h1 => fail "hp"); (case d1 => fail "nb")) | (with_reducible refine' upd_oth ?h1 ?n1; (case n1 => fail "ne"); (case h1 => fail "hp")) | (with_reducible refine' upd_oth ?h1 ?n1; (case h1 => fail "hp"); (case n1 => fail "ne")) | (refine' Kq.get (by assumption) (by fail "bx") ?h1 ?d1 (by fail "ne"); (case h1 => fail "hp"); (case d1 => fail "nb")) | fail "no hp")
local macro_rules | `(tactic| fail "bx") => `(tactic| first | assumption | (with_reducible refine' BoxOk.new ?h1 ?n1; (case n1 => assumption); (case h1 => fail "bx")) | (refine' BoxOk.same (by assumption) ?h1; (case h1 => fail "bx")) | (with_reducible refine' BoxOk.mut ?h1 ?h2 ?n1; (case n1 => assumption); (case h2 => assumption); (case h1 => fail "bx")) | fail "no bx")
local macro_rules | `(tactic| fail "kp") => `(tactic| first | assumption | exact Kp.refl | (with_reducible refine' Kp.at ?h1; (case h1 => fail "kp")) | (with_reducible refine' Kp.new ?h1 ?n1; (case n1 => assumption); (case h1 => fail "kp")) | (with_reducible refine' Kp.mut ?h1 ?n1; (case n1 => assumption); (case h1 => fail "kp")) | (refine' Kp.tr (by assumption) ?h1; (case h1 => fail "kp")) | (refine' Kp.tr (Kp.of (by assumption)) ?h1; (case h1 => fail "kp")) | (refine' Kq.kp (by assumption) ?h1 (by assumption); (case h1 => fail "kp")) | fail "no kp")
local macro_rules | `(tactic| fail "ite") => `(tactic| first | refine iteT ?_ | refine iteF ?_)
local macro_rules | `(tactic| fail "tt") => `(tactic| first | rfl | exact decide_eq_true (by first | rfl | omega | assumption) | exact decide_eq_true (congrArg V.int (by first | rfl | omega)) | fail "no tt")
local macro_rules | `(tactic| fail "cv") => `(tactic| first | exact .ty _ | exact .own _)
local macro_rules | `(tactic| fail "tx") => `(tactic| first | exact .base (.int _) | exact .base (.bl _) | exact .base .non | exact .base (.lst (by fail "hp")) | exact .base (.tup (by fail "hp")) | fail "no tx")
local macro_rules | `(tactic| fail "dead") => `(tactic| (exfalso; first | omega | contradiction | simp_all))
local macro_rules | `(tactic| fail "dp") => `(tactic| first | exact .tup (SqT.of (by fail "hp")) (.cons (.int _) (.cons (.int _) .nil)) | exact .lst (SqL.of (by fail "hp")) (dpPrs (by fail "pr")) | exact .lst (SqL.of (by fail "hp")) (dpInts _) | exact .lst (SqL.of (by fail "hp")) .nil | fail "no dp")
local macro_rules | `(tactic| fail "shp") => `(tactic| first | assumption | exact prD_shaped _ | exact PySem.W.ke_shaped_ints _ | rfl | fail "no shp")
local macro_rules | `(tactic| fail "pr") => `(tactic| first | assumption | exact PrT.mono (by assumption) (by fail "tk") | fail "no pr")
local macro_rules | `(tactic| fail "tk") => `(tactic| first | assumption | exact Tk.refl | (with_reducible refine' Tk.new ?h1 ?n1; (case n1 => assumption); (case h1 => fail "tk")) | (refine' Tk.tr (Kp.tk (by assumption) (by fail "bx")) ?h1; (case h1 => fail "tk")) | (refine' Tk.tr (Same.tk (by assumption)) ?h1; (case h1 => fail "tk")) | (with_reducible refine' Tk.lst ?h1 ?n1; (case n1 => fail "hp"); (case h1 => fail "tk")) | fail "no tk")
local macro_rules | `(tactic| fail "lk") => `(tactic| first | exact netF_count _ _ | exact netF_links _ _ | exact netF_no _ _ (by decide +kernel) (by decide +kernel) | fail "no lk")
local macro_rules | `(tactic| fail "kt") => `(tactic| first | exact upd_same | assumption | fail "hp")
local macro_rules | `(tactic| fail "na") => `(tactic| first | assumption | (with_reducible refine' NetAt.new ?h1 ?n1; (case n1 => assumption); (case h1 => fail "na")) | (refine' NetAt.same (by assumption) ?h1; (case h1 => fail "na")) | (refine' NetAt.kp (by assumption) (by fail "bx") ?h1; (case h1 => fail "na")) | (with_reducible refine' NetAt.lst ?h1 ?n1; (case n1 => fail "hp"); (case h1 => fail "na")) | fail "no na")
local macro_rules | `(tactic| fail "mono") => `(tactic| first | exact fun _ _ _ _ h q => h _ _ q | exact fun _ _ _ _ h q => (let ⟨v, e, z⟩ := q; ⟨v, e, h _ _ z⟩) | exact fun _ _ _ _ h q => (let ⟨v, e, u, f, z⟩ := q; ⟨v, e, u, f, h _ _ z⟩) | fail "no mono")
local macro_rules | `(tactic| fail "sm") => `(tactic| first | assumption | exact Same.refl _ | (with_reducible refine' Same.new ?h1 ?n1; (case n1 => assumption); (case h1 => fail "sm")) | (refine' Same.tr (by assumption) ?h1; (case h1 => fail "sm")) | fail "no sm")
local macro_rules | `(tactic| fail "fld") => `(tactic| first | (show 0 < 1000; decide) | (show 1 < 1000; decide) | fail "no fld")
local macro_rules | `(tactic| fail "kq") => `(tactic| first | assumption | exact Kq.refl | (with_reducible refine' Kq.at ?h1; (case h1 => fail "kq")) | (with_reducible refine' Kq.new ?h1 ?n1; (case n1 => assumption); (case h1 => fail "kq")) | (refine' Kq.trans ?h1 (by assumption); (case h1 => fail "kq")) | (refine' Kq.trans ?h1 (Kq.of (by assumption)); (case h1 => fail "kq")) | (refine' Kq.trans ?h1 (Kq.ofS (by assumption)); (case h1 => fail "kq")) | fail "no kq")
local macro_rules | `(tactic| fail "mo") => `(tactic| first | assumption | exact MemOk.take (by assumption) _ | exact MemOk.drop (by assumption) _ | exact every_ok _ | fail "no mo")

section
variable {P : Program} {w : World} {K : PySem.W.Frag} {mg : Str → Option Value} {base : Heap} {CN CI CU CL CS : Addr} {mc mu : Value}


theorem mk_init1 {CN CI x dx l : Addr} {c : Int} {as : List Addr} {ps : List (Int × Int)} {H : Hp} {Z : Hp → Prop} {E : XK} (nx : H x = none) (ndx : H dx = none) (ne : dx ≠ x) (hl : H l = some (.lst (as.map V.ref))) (pa : PrT H as ps) (few : as.length < 1200)
    (kG : ∀ n : Nat, c = n → 1 ≤ n → n ≤ 24 → (∀ p ∈ ps, Good n p) → ∀ H', Same H H' → NetAt CN H' x n (relP ps false) → Z H') (kB : ¬ (1 ≤ c ∧ c ≤ 24) → RaisesI CI .non H E) (kC : ∀ n : Nat, c = n → 1 ≤ n → n ≤ 24 → BadRow CI n as ps H E) :
    spInit CN CI (.ref x :: ([.int c, .ref l] ++ [])) (upd (upd H dx (.own x)) x (.ins CN dx [])) (fun v H2 => v = .non ∧ Z H2) E := by
  have s1 : Same H (upd H dx (.own x)) := Same.new (Same.refl H) ndx
  have n1 : upd H dx (.own x) x = none := by rw [upd_ne ne.symm]; exact nx
  have s2 : Same H (upd (upd H dx (.own x)) x (.ins CN dx [])) := Same.new s1 n1
  exact ⟨x, dx, c, l, as, ps, rfl, upd_same, s2 _ _ hl, pa.mono (Same.tk s2), few, fun n e b1 b2 g H' k na => ⟨rfl, kG n e b1 b2 g H' (fun b o hb => k b o (ne_of_none hb nx) (s2 _ _ hb)) na⟩, fun z => (kB z).back s2, fun n e b1 b2 => (kC n e b1 b2).back s2⟩
def swp (ps : List (Int × Int)) : List (Int × Int) := ps.map fun p => (p.2, p.1)
theorem mem_swp {ps : List (Int × Int)} {x y : Int} : (x, y) ∈ swp ps ↔ (y, x) ∈ ps := by
  unfold swp
  rw [List.mem_map]
  constructor
  · rintro ⟨⟨a, b⟩, h, e⟩
    cases e
    exact h
  · intro h
    exact ⟨_, h, rfl⟩
theorem swp_len (ps : List (Int × Int)) : (swp ps).length = ps.length := List.length_map ..
theorem swp_snoc (ps : List (Int × Int)) (x y : Int) : swp (ps ++ [(x, y)]) = swp ps ++ [(y, x)] := by
  unfold swp
  rw [List.map_append]
  rfl
theorem good_swp {n : Nat} {ps : List (Int × Int)} (g : ∀ p ∈ ps, Good n p) : ∀ p ∈ swp ps, Good n p := fun p hp => by
  obtain ⟨x, y⟩ := p
  exact good_swap (g _ (mem_swp.mp hp))
theorem rel_swp {n : Nat} (R : Rel) : ∀ x y, x < n → y < n → relP (swp (ties n R)) false x y = turn R x y := fun x y hx hy => by
  rw [Bool.eq_iff_iff, relP_iff, mem_swp, has_nat hy hx]
  unfold turn
  simp
theorem eqv_pcons (p q : Int × Int) (ps qs : List (Int × Int)) : PyData.eqv (.list ((p :: ps).map prD)) (.list ((q :: qs).map prD)) = (decide (p = q) && PyData.eqv (.list (ps.map prD)) (.list (qs.map prD))) := by
  have e : PyData.eqv (.list ((p :: ps).map prD)) (.list ((q :: qs).map prD)) = (PyData.eqv (prD p) (prD q) && PyData.eqv (.list (ps.map prD)) (.list (qs.map prD))) := rfl
  rw [e]
  congr 1
  exact eqv_two p.1 p.2 q.1 q.2
theorem eqv_pp : ∀ (ps qs : List (Int × Int)), PyData.eqv (.list (ps.map prD)) (.list (qs.map prD)) = decide (ps = qs)
  | [], [] => rfl
  | [], q :: qs => rfl
  | p :: ps, [] => rfl
  | p :: ps, q :: qs => by
    rw [eqv_pcons, eqv_pp ps qs]
    by_cases h : p = q <;> by_cases g : ps = qs <;> simp [h, g]
theorem ties_iff {n : Nat} {R R' : Rel} : ties n R = ties n R' ↔ ∀ x y, x < n → y < n → R x y = R' x y := by
  constructor
  · intro h x y hx hy
    rw [Bool.eq_iff_iff, ← has_nat hx hy, ← has_nat (R := R') hx hy, h]
  · exact ties_congr
def spStrong (CN : Addr) : Sp := fun vs H Q _ => ∃ (a : Addr) (n : Nat) (R : Rel), vs = [.ref a] ∧ NetAt CN H a n R ∧ ∀ (b : Bool) H', Same H H' → (b = true ↔ Strong n R) → Q (.bl b) H'
def spIsRing (CN : Addr) : Sp := fun vs H Q _ => ∃ (a : Addr) (n : Nat) (R : Rel), vs = [.ref a] ∧ NetAt CN H a n R ∧ ∀ (b : Bool) H', Same H H' → (b = true ↔ 2 ≤ n ∧ ∀ x y, x < n → y < n → R x y = ringR n x y) → Q (.bl b) H'
def spIsComplete (CN : Addr) : Sp := fun vs H Q _ => ∃ (a : Addr) (n : Nat) (R : Rel), vs = [.ref a] ∧ NetAt CN H a n R ∧ ∀ (b : Bool) H', Same H H' → (b = true ↔ ∀ x y, x < n → y < n → R x y = wholeR n x y) → Q (.bl b) H'
abbrev sIsStrong : Stmt := top 16
theorem scIsStrong : FnScope ["net", "turned", "source", "reader"] ["net"] (defScope sIsStrong) := ⟨rfl, rfl, rfl, by decide +kernel, rfl, by decide +kernel, by decide +kernel⟩
theorem ok_IsStrong (D : Df K mg "is_strong" sIsStrong ["net"]) (T : NTx K mg CN mc mu) (GReachesAll : C8.Cal P w K mg base 7 "reaches_all" (spReachesAll CN) []) (KNet : MakX P w K mg base 5 "Net" CN (spInit CN CI)) (PLinks : PropC P w K mg base 1 CN "links" (spLinks CN)) : C8.Cal P w K mg base 8 "is_strong" (spStrong CN) [] := by
  obtain ⟨f, fd, F, hm, hb⟩ := D
  refine ⟨f, fd, ["net"], [], F.ok scIsStrong (fun vs H Q E h => ?_) (fun cdv A outer s H vs Q E hr h => ?_), hm, F.kp, hb, .nil⟩
  · obtain ⟨a, n, R, rfl, na, k⟩ := h
    rfl
  · obtain ⟨a, n, R, rfl, na, k⟩ := h
    have na2 := na
    obtain ⟨⟨dx, d, ha, hd⟩, b1, b2, ir⟩ := na2
    refine ⟨_, (pss_cons (ps_set (i := 1) scIsStrong.nd rfl (Or.inl rfl) (pe_mkX KNet hr (by decide) (by rfl) passN (pa_cons (pe_fld (pv 0) (by rfl)) (pa_cons (pe_lc (own := [("source", 2), ("reader", 3)]) (g := gTup K 2 (gCons (gName 2) (gCons (gName 3) gNil))) (tt := tYes) rfl scIsStrong.nd (pi_list (pe_pr PLinks hr (by decide) (pv 0))) (blkOk_by (N := ["net", "turned", "source", "reader"]) (sc := defScope sIsStrong) (by decide +kernel)) (fun _ _ _ _ _ => by exact (pg_tup rfl (pgs_cons (pg_name (i := 2) scIsStrong.nd rfl (Or.inl rfl)) (pgs_cons (pg_name (i := 3) scIsStrong.nd rfl (Or.inl rfl)) pgs_nil)))) (fun _ _ _ _ _ => pts_nil) (fun _ _ _ _ _ => (pe_tup (pa_cons (pv 3) (pa_cons (pv 2) pa_nil))))) pa_nil))))
      (pss_one (ps_ret (pe_and (C8.pe_c GReachesAll hr (by decide) (by rfl) (pa_cons (pv 0) pa_nil)) (pe_one (C8.pe_c GReachesAll hr (by decide) (by rfl) (pa_cons (pv 1) pa_nil))))))), ?_⟩
    -- turned = Net(net.count, [(reader, source) for source, reader in net.links])
    refine ⟨_, rfl, _, _, _, _, _, rfl, (by fail "hp"), T.cl, T.n_count, (by fail "lk"), _, rfl, _, _, _, rfl, (by fail "hp"), _, _, _, rfl, (by fail "na"), fun l2 as2 H2 nl2 sm2 hl2 pl2 => ⟨_, rfl, ⟨_, SqL.of (by fail "hp")⟩, fun D1 nD1 => lc_list (K := K) (a := l2) (xs := as2.map V.ref) (fun i H' => ∃ bs : List Addr, Same H2 H' ∧ H' D1 = some (.lst (bs.map V.ref)) ∧ PrT H' bs (swp ((ties n R).take i))) ⟨[], Same.new (Same.refl _) nD1, upd_same, PrT.nil⟩ (fun i H' _ z => by obtain ⟨bs, sm, _⟩ := z; exact SqL.of (sm _ _ hl2)) (fun i x H' hx z => by
      obtain ⟨bs, sm, hD, pb⟩ := z
      obtain ⟨t, x, y, rfl, e1, e2, e3⟩ := pl2.item hx
      have e4 := sm _ _ e3
      have lt := ties_len R b2
      have lb : bs.length ≤ 600 := by rw [pb.1, swp_len, List.length_take]; omega
      refine ⟨_, _, rfl, SqT.of e4, rfl, _, _, rfl, _, _, rfl, rfl, rfl, ?_⟩
      unfold tYes
      refine iteT ?_
      refine ⟨_, rfl, _, rfl, (by fail "sz"), fun p np => ⟨_, upd_new hD np, (by fail "szl"), bs ++ [p], Same.mut (Same.new sm np) nD1, ?_, ?_⟩⟩
      · rw [upd_same, snocR]
      · rw [take_at e2, swp_snoc]
        refine PrT.snoc (PrT.mono pb (by fail "tk")) ?_
        rw [upd_ne (ne_of_none' np hD), upd_same]) (fun H' z => by
      obtain ⟨bs, sm, hD, pb⟩ := z
      rw [List.length_map, pl2.1, List.take_length] at pb
      have smX : Same H H' := sm2.trans sm
      have lb : bs.length < 1200 := by have := ties_len R b2; rw [pb.1, swp_len]; omega
      refine fun a1 dx1 na1 ndx1 nx1 => mk_init1 na1 ndx1 nx1 hD pb lb (fun n1 e1 c1 d1 g1 H1 sm1 nt1 => ?_) (fun z => absurd (show (1 : Int) ≤ (n : Int) ∧ (n : Int) ≤ 24 by omega) z) (fun m e _ _ => by obtain rfl : n = m := (by omega); exact BadRow.none (good_swp (good_ties ir)))
      obtain rfl : n = n1 := by omega
      have smY : Same H H1 := smX.trans sm1
      have naT : NetAt CN H1 a1 n (turn R) := NetAt.congr nt1 (rel_swp R)
      clear nt1
      have naH : NetAt CN H1 a n R := NetAt.same smY na
      refine ⟨_, rfl, _, _, _, rfl, naH, fun b3 H3 sm3 tl3 => ⟨_, rfl, ?_⟩⟩
      refine ifB (fun g3 => ?_) (fun g3 => ?_)
      · refine ⟨_, rfl, _, _, _, rfl, NetAt.same sm3 naT, fun b5 H5 sm5 tl5 => ?_⟩
        refine k _ _ (smY.trans (sm3.trans sm5)) ?_
        rw [strong_iff b1, ← tl3, ← tl5]
        exact ⟨fun q => ⟨g3, q⟩, fun q => q.2⟩
      · refine k _ _ (smY.trans sm3) ?_
        rw [strong_iff b1, ← tl3, g3]
        exact ⟨fun q => (nomatch q), fun q => (nomatch q.1)⟩)⟩⟩
end
end K02

end
section
set_option Elab.async false
set_option linter.all false
set_option maxRecDepth 100000
set_option maxHeartbeats 4000000
/- all(test for a, b in pairs) and all(test for a in items) over lists -/
namespace GQ
open PySem L2
structure GenS2 (env : Env) (scope : Scope) (xa xb : Str) : Prop where
  kind : scope.kind = ScopeKind.function
  co : scope.isCoroutine = false
  cell : ∀ (y : Str × NameKind), y ∈ scope.names → y.snd ≠ NameKind.cell
  dot : List.lookup (Str.ofString ".0") scope.names = some NameKind.local
  la : List.lookup xa scope.names = some NameKind.local
  lb : List.lookup xb scope.names = some NameKind.local
  ne : xa ≠ xb
  free : ∀ (y : Str × NameKind), y ∈ scope.names → y.snd = NameKind.free → ∃ c, List.lookup y.fst env.cells = some c
/-- what the test asks of one item, in the generator's own frame -/
def El2 (X : Cx) (σ : St) (P : Addr) (scope : Scope) (xa xb : Str) (elt : Expr) (H1 : Hp) (x y : V) (b : Bool) : Prop :=
  ∀ (pins : List (Addr × Obj)) (H2 : Hp) (s' s2 : Shared) (A' : Around) (E' : Value → Shared → Prop) (C : Addr) (code : Value) (m2 : Str → Option Value) (va vb : Value),
    L2.Inv X pins σ H2 s' → s2.heap = s'.heap → GxR.Tabbed P H1 H2 → A'.handled = none → A'.depth ≤ X.A.depth + 1 → A'.units ≤ X.A.units + 8 →
    s2.heap.Ns C m2 → m2 xa = some va → m2 xb = some vb → RelV x va → RelV y vb →
    wpAny (model X.prog X.w) A' (eval elt (genEnv scope (cloFrom X.env.cells scope.names []) C code builtinsNs X.env)) (fun u s3 => u = Value.bool b ∧ Keeps s2 s3) E' s2
def Ready2 (X : Cx) (pins : List (Addr × Obj)) (σ : St) (H1 : Hp) (P : Addr) (n : Nat) (b : Nat → Bool) (g : Addr) (s5 : Shared) : Prop :=
  ∃ fp wr G F St, WalksS X.prog X.w X.A.in1 g fp wr G n F St ∧ St 0 s5 ∧ TruthOf X.prog X.w X.A.in1 F b ∧
    ∀ s', Moved wr G s5 s' → ∃ H2, GxR.Tabbed P H1 H2 ∧ L2.Inv X pins σ H2 s'
theorem two_vals {x y : V} {its : List Value} (h : Vals [x, y] its) : ∃ u v, its = [u, v] ∧ RelV x u ∧ RelV y v := by
  cases h with
  | cons r t =>
    cases t with
    | cons r2 t2 =>
      cases t2
      exact ⟨_, _, rfl, r, r2⟩
theorem vals_refs : ∀ {as : List Addr} {its : List Value}, Vals (as.map V.ref) its → its = as.map Value.ref
  | [], _, h => by cases h; rfl
  | a :: as, _, h => by
    cases h with
    | cons r t =>
      have r : _ = Value.ref a := r
      rw [r, vals_refs t]
      rfl
theorem gen_pairs {X : Cx} {pins : List (Addr × Obj)} {σ : St} {H : Hp} {s : Shared} {c P : Addr} {elt iter : Expr} {xa xb : Str} {pa pb pt gpos : Pos} {kt : Nat} {scope : Scope} {te : TE} {k : Nat} {Q' : Value → Shared → Prop} {R : Hp → Nat → (Nat → Bool) → Prop}
    (hr : Room k X.A) (TB : GxR.TabB X.base X.mg c P) (hcode : X.env.code = Value.ref c) (S : GenS2 X.env scope xa xb) (hi : PE X iter te) (hs : ∀ v, genFold iter X.env v = pure v) (I : L2.Inv X pins σ H s)
    (h : te σ H fun v H1 => ∃ (l : Addr) (as : List Addr) (xs ys : Nat → V) (b : Nat → Bool), v = V.ref l ∧ H1 l = some (.lst (as.map V.ref)) ∧ GxR.TabG H1 P ∧
      (∀ i a, as[i]? = some a → H1 a = some (.tup [xs i, ys i]) ∧ El2 X σ P scope xa xb elt H1 (xs i) (ys i) (b i)) ∧
      R H1 as.length b)
    (hQR : ∀ H1 n b g s5, R H1 n b → Ready2 X pins σ H1 P n b g s5 → Q' (Value.ref g) s5) :
    wpAny (model X.prog X.w) X.A (eval (elt.GeneratorExp [{ target := Expr.Tuple [Expr.Name xa pa, Expr.Name xb pb] kt pt, iter := iter, ifs := [], is_async := 0 }] scope gpos) X.env) Q' X.xe s := by
  have hdp := hr.dp
  refine wpAny_GeneratorExp_walksQTD hr.hd S.co (closure_ok S.free) S.cell S.dot S.la S.lb S.ne S.kind (by omega) (thn (hi.run pins s σ H _ I h) fun xv s1 z => ?_) hs
  obtain ⟨v, H1, I1, r1, l, as, xs, ys, b, rfl, hl, ⟨ps, hP, ht⟩, hit, hR⟩ := z
  have hQ := fun g s5 => hQR H1 as.length b g s5 hR
  have e0 : xv = Value.ref l := r1
  subst e0
  obtain ⟨hln, its, n0, hv, hlst⟩ := I1.hok l _ hl
  have eits := vals_refs hv
  subst eits
  have hlen : (as.map Value.ref).toArray.size = as.length := by simp
  generalize ho : ({ cls := Value.type "list_iterator", data := Data.fields #[Value.ref l, Value.int 0 0] } : Obj) = o
  have hPs : s1.heap.get? P = some { cls := Value.none, data := Data.fields ps } := I1.hok P _ hP
  have hPlt := Heap.lt_size hPs
  have hP2 := Heap.get?_push_of_some o hPs
  have cd := W.CodeHd.keeps TB.code fun b u e => Heap.get?_push_of_some o (I1.bk b u e)
  have lim2 : (s1.heap.push o).NoLimit := Heap.NoLimit.keeps I1.nolimit fun b u e => Heap.get?_push_of_some o e
  have sz2 := Heap.size_push s1.heap o
  -- the lists and the tuples, as they stand
  have htup : ∀ i a, as[i]? = some a → ∃ u v, RelV (xs i) u ∧ RelV (ys i) v ∧ PyProof.Rows.IsTup s1.heap a #[u, v] := fun i a e => by
    obtain ⟨_, jts, jv, jt⟩ := I1.hok a _ (hit i a e).1
    obtain ⟨u, v, ej, ru, rv⟩ := two_vals jv
    subst ej
    exact ⟨u, v, ru, rv, jt⟩
  have hex : ∀ i, ∃ va : Array Value, (∃ u v, va = #[u, v]) ∧ ∀ a, as[i]? = some a → ∃ u v, va = #[u, v] ∧ RelV (xs i) u ∧ RelV (ys i) v ∧ PyProof.Rows.IsTup s1.heap a #[u, v] := fun i => by
    cases e : as[i]? with
    | none => exact ⟨#[Value.none, Value.none], ⟨_, _, rfl⟩, fun a q => nomatch q⟩
    | some a =>
      obtain ⟨u, v, ru, rv, it⟩ := htup i a e
      exact ⟨#[u, v], ⟨_, _, rfl⟩, fun a' q => by cases q; exact ⟨u, v, rfl, ru, rv, it⟩⟩
  obtain ⟨vals, hvals⟩ := Classical.axiomOfChoice hex
  have key : ∀ (Post : Value → Shared → Prop), (∀ (code : Value) (h3 : Heap) (tk : Nat) (ps' : Array Value), Heap.ExtBut P (s1.heap.push o) h3 → (s1.heap.push o).objs.size ≤ h3.objs.size → h3.get? P = some { cls := Value.none, data := Data.fields ps' } → (∃ more, ps' = ps ++ more) → TriplesOk ps'.toList →
      Post code { heap := h3, gens := s1.gens, drawn := s1.drawn, toks := tk, os := s1.os }) →
      wpAny (model X.prog X.w) X.A (genexprCode X.env gpos (X.env.qual ++ Str.ofString "<genexpr>") scope) Post X.xe { heap := s1.heap.push o, gens := s1.gens, drawn := s1.drawn, toks := s1.toks, os := s1.os } := by
    intro Post cont
    cases hf : codeAmong gpos ps.toList with
    | none =>
      refine wpAny_genexprCodeX hcode (cd.code hP2 ht) (cd.tab hP2) hf fun c' h' tk hx hge hlt hco' _ htab' _ => ?_
      obtain ⟨o1, vs, f1, tf, fl, tg, inF, tx, tt, op, _, _, _, _, _, _, _, _, _, htr, _⟩ := hco'
      exact cont _ h' tk _ hx (Nat.le_trans hge (Nat.le_of_lt hlt)) htab'.2 ⟨_, rfl⟩ htr
    | some cv => exact wpAny_genexprCode_hit hcode (cd.code hP2 ht) hf (cont cv (s1.heap.push o) s1.toks ps (Heap.ExtBut.refl P _) (Nat.le_refl _) hP2 ⟨#[], by simp⟩ ht)
  refine wpAny_pyIter_list (items := (as.map Value.ref).toArray) ⟨_, hlst, rfl, n0, rfl⟩ ?_
  rw [ho]
  refine ⟨lim2, key _ fun code h3 tk ps' hx hsz hP3 hmore ht3 => ?_⟩
  obtain ⟨bm, ob, e1, e2, e3, e4, e5, e6, e7, e8⟩ := TB.bm
  have keep3 : ∀ (b : Addr) (u : Obj), b ≠ P → s1.heap.get? b = some u → h3.get? b = some u := fun b u hb e => hx b u hb (Heap.get?_push_of_some o e)
  refine wpAny_builtinsFor (m := X.mg) ?gl e1 e2 (keep3 bm ob e4 (I1.bk bm ob e5)) e6 e7 e8 ?_
  case gl =>
    rw [I1.ok.glob]
    exact Heap.Ns.extBut (Heap.Ns.push (Heap.Ns.keeps I1.mod.glob I1.bk) o) hx TB.gP
  have hIt : h3.get? s1.heap.objs.size = some o := hx _ _ (Nat.ne_of_gt hPlt) (Heap.get?_push_size s1.heap (by rw [← ho]; rfl))
  have hlP : l ≠ P := fun e => by rw [e, hPs] at hlst; cases hlst
  have haP : ∀ i a, as[i]? = some a → a ≠ P := fun i a e z => by
    have := (hit i a e).1
    rw [z, hP] at this
    cases this
  have hli : l ≠ s1.heap.objs.size := Nat.ne_of_lt (Heap.lt_size hlst)
  have hsz3 : s1.heap.objs.size < h3.objs.size := by omega
  have hat : ∀ j, j < (as.map Value.ref).toArray.size → ∃ a, as[j]? = some a ∧ (as[j]?).getD 0 = a := fun j hj => by
    rw [hlen] at hj
    exact ⟨as[j], List.getElem?_eq_getElem hj, by rw [List.getElem?_eq_getElem hj]; rfl⟩
  have tup3 : ∀ j a, as[j]? = some a → h3.IsTuple a (vals j) := fun j a e => by
    obtain ⟨u, v, ev, ru, rv, ob, hob, hc, n, hd⟩ := (hvals j).2 a e
    rw [ev]
    exact ⟨ob, keep3 a ob (haP j a e) hob, hc, n, hd⟩
  have alt : ∀ j a, as[j]? = some a → a < s1.heap.objs.size := fun j a e => by
    obtain ⟨u, v, ev, ru, rv, ob, hob, _⟩ := (hvals j).2 a e
    exact Heap.lt_size hob
  have hcl : cStatics < s1.heap.objs.size := by
    obtain ⟨mc, hns, _⟩ := I1.nolimit
    exact Heap.Ns.lt hns
  have lim3 : h3.NoLimit := Heap.NoLimit.extBut lim2 hx fun e => by
    obtain ⟨mc, hns, _⟩ := I1.nolimit
    obtain ⟨o', es, ep, h1, h2, _⟩ := hns
    rw [e, hPs] at h1
    cases h1
    cases h2
  -- what the heap is once the table has grown
  have grown : ∀ (h' : Heap) (g' : Array GenState) (d' : Drawn) (t' : Nat), (∀ b u, b ≠ s1.heap.objs.size → b < h3.objs.size → h3.get? b = some u → h'.get? b = some u) → PyProof.Rows.AllBare g' →
      ∃ H2, GxR.Tabbed P H1 H2 ∧ L2.Inv X pins σ H2 { heap := h', gens := g', drawn := d', toks := t', os := s1.os } := fun h' g' d' t' hk hg => by
    obtain ⟨more, em⟩ := hmore
    refine ⟨upd H1 P (.tbl (ps ++ more)), ⟨⟨_, upd_same, ?_⟩, fun b hb => upd_ne hb⟩, GxR.inv_tab I1 hP (fun b u hb e => hk b u (Nat.ne_of_lt (Heap.lt_size e)) (Nat.lt_trans (Heap.lt_size e) hsz3) (keep3 b u hb e)) ?_ hg⟩
    · rw [← em]; exact ht3
    · rw [← em]; exact hk P _ (Nat.ne_of_lt hPlt) (Heap.lt_size hP3) hP3
  refine ⟨s1.heap.objs.size, s1.heap.objs.size :: l :: List.map (fun j => (as[j]?).getD 0) (List.range (as.map Value.ref).toArray.size), [s1.heap.objs.size], (as.map Value.ref).toArray.size, fun j v => j < (as.map Value.ref).toArray.size ∧ v = vals j, _, _, fun _ => true, fun i y => i < as.length ∧ y = Value.bool (b i), rfl, fun A' hA' => (WalksU.listOfTuples hA' s1.heap.objs.size l hli (as.map Value.ref).toArray (fun j => (as[j]?).getD 0) vals ?_ ?_).bound, ?_, ?_, ?_, lim3, ?_, ?_, ?_⟩
  · intro j hj
    obtain ⟨a, e, e2⟩ := hat j hj
    rw [e2]
    simp [e]
  · intro j hj
    obtain ⟨a, e, e2⟩ := hat j hj
    rw [e2]
    exact Nat.ne_of_lt (alt j a e)
  · rintro i v ⟨_, rfl⟩
    exact (hvals i).1
  · refine ⟨⟨o, hIt, by rw [← ho], by rw [← ho]; rfl⟩, ⟨_, keep3 l _ hlP hlst, rfl, n0, rfl⟩, fun j hj => ?_⟩
    obtain ⟨a, e, e2⟩ := hat j hj
    rw [e2]
    exact tup3 j a e
  · intro z hz
    show z < h3.objs.size
    cases List.mem_cons.mp hz with
    | inl e => rw [e]; exact hsz3
    | inr hz =>
      cases List.mem_cons.mp hz with
      | inl e => rw [e]; exact Nat.lt_trans (Heap.lt_size hlst) hsz3
      | inr hz =>
        obtain ⟨j, hj, ej⟩ := List.mem_map.mp hz
        obtain ⟨a, e, e2⟩ := hat j (List.mem_range.mp hj)
        rw [← ej, e2]
        exact Nat.lt_trans (alt j a e) hsz3
  · intro z
    rw [List.mem_singleton.mp z] at hcl
    exact Nat.lt_irrefl _ hcl
  · intro href hhref
    refine ⟨fun A' E' i va vb s2 m2 hA hD hU hv hn hma hmb hk => ?_, fun A' E' i va vb s2 m2 hA hD hU hv hp hn hma hmb hk => ?_⟩
    · exact wpAny_pure ⟨rfl, GxR.keeps_refl s2⟩
    · obtain ⟨hi, hv⟩ := hv
      obtain ⟨a, e, e2⟩ := hat i hi
      obtain ⟨u, v, ev, ru, rv, _⟩ := (hvals i).2 a e
      rw [ev] at hv
      cases hv
      obtain ⟨H2, tb, J⟩ := grown s2.heap s1.gens s2.drawn s2.toks (fun b u hb hl e => hk b (List.mem_range.mpr hl) (fun z => hb (List.mem_singleton.mp z)) u (hhref b u e)) I1.bare
      rw [hlen] at hi
      exact wpAny_mono ((hit i a e).2 pins H2 _ s2 A' E' _ code m2 _ _ J rfl tb hA hD hU hn hma hmb ru rv) (fun y s3 r => ⟨⟨hi, r.1⟩, r.2⟩) fun _ _ q => q
  · intro g h5 tk5 gs hgb hag hsz5 hk5 W5 hat5
    rw [GxR.passing_true, List.length_range, hlen] at W5
    rw [hlen] at hat5
    refine hQ g _ ⟨_, _, _, _, _, W5.in4_1, hat5, ?_, fun s' hm => ?_⟩
    · intro j y sj Qj Ej hy hQj
      obtain ⟨i, hij, _, rfl⟩ := hy
      obtain ⟨hj, ej⟩ := List.getElem?_eq_some_iff.mp hij
      rw [List.getElem_range hj] at ej
      rw [← ej]
      exact wpAny_truthy_bool hQj
    · obtain ⟨H2, tb, J⟩ := grown s'.heap s'.gens s'.drawn s'.toks (fun z u hz hl e => hm.heap z u (fun q => by
        cases List.mem_cons.mp q with
        | inl w => exact Nat.lt_irrefl _ (w ▸ hl)
        | inr w => exact hz (List.mem_singleton.mp w)) (hk5 z u e)) (PyProof.Rows.AllBare.movedS (PyProof.Rows.AllBare.push I1.bare hgb) hm)
      rw [GxR.sh_eta s1 s' hm.os] at J
      exact ⟨H2, tb, J⟩
end GQ

end
section
set_option Elab.async false
set_option linter.all false
set_option maxRecDepth 100000
set_option maxHeartbeats 4000000
namespace GQ
open PySem L2
def tAll2 (X : Cx) (P : Addr) (scope : Scope) (xa xb : Str) (elt : Expr) (te : TE) : TE := fun σ H Q =>
  te σ H fun v H1 => ∃ (l : Addr) (as : List Addr) (xs ys : Nat → V) (b : Nat → Bool), v = V.ref l ∧ H1 l = some (.lst (as.map V.ref)) ∧ GxR.TabG H1 P ∧
    (∀ i a, as[i]? = some a → H1 a = some (.tup [xs i, ys i]) ∧ El2 X σ P scope xa xb elt H1 (xs i) (ys i) (b i)) ∧
    ∀ H2, GxR.Tabbed P H1 H2 → Q (.bl ((List.range as.length).all b)) H2
theorem pe_all2 {X : Cx} {c P : Addr} {elt iter : Expr} {xa xb : Str} {pa pb pt gpos p pos : Pos} {kt : Nat} {scope : Scope} {te : TE} {k : Nat}
    (hr : Room k X.A) (hg : Gl X "all") (hm : X.mg "all" = none) (hb : bootBuiltins "all" = some (Value.builtin "all")) (TB : GxR.TabB X.base X.mg c P) (hcode : X.env.code = Value.ref c) (S : GenS2 X.env scope xa xb) (hi : PE X iter te) (hs : ∀ v, genFold iter X.env v = pure v) :
    PE X (.Call (.Name "all" p) [elt.GeneratorExp [{ target := Expr.Tuple [Expr.Name xa pa, Expr.Name xb pb] kt pt, iter := iter, ifs := [], is_async := 0 }] scope gpos] [] pos) (tAll2 X P scope xa xb elt te) := by
  refine ⟨fun pins s σ H Q I h => ?_⟩
  refine wpAny_Call_Name_kw (ld_blt I hg hm hb ?_)
  refine PyProof.Rows.callWith_builtin1 (Calls.spliced_cons ?_)
  refine gen_pairs (Q' := fun v s1 => wpAny (model X.prog X.w) X.A (spliced []) (fun vs s2 => wpAny (model X.prog X.w) X.A (call (Value.builtin "all") (v :: vs)) (EP X pins σ Q) X.xe s2) X.xe s1) (R := fun H1 n b => ∀ H2, GxR.Tabbed P H1 H2 → Q (.bl ((List.range n).all b)) H2) hr TB hcode S hi hs I h ?_
  intro H1 n b g s5 hR ⟨fp, wr, G, F, St, W, h0, tr, mv⟩
  refine Calls.spliced_nil (call_all_walkS (W.self 0 s5 _ _ h0 ?_))
  refine ⟨g, fp, wr, G, n, F, St, b, rfl, W, h0, tr, fun s' hm => ?_⟩
  obtain ⟨H2, tb, J⟩ := mv s' hm
  exact ⟨.bl ((List.range n).all b), H2, J, rfl, hR H2 tb⟩
end GQ

end
section
set_option Elab.async false
set_option linter.all false
set_option maxRecDepth 100000
set_option maxHeartbeats 4000000
namespace GQ
open PySem L2
theorem keeps_trans {a b c : Shared} (h : Keeps a b) (k : Keeps b c) : Keeps a c := by
  obtain ⟨h1, t1, e1, k1⟩ := h
  obtain ⟨h2, t2, e2, k2⟩ := k
  subst e1
  subst e2
  exact ⟨h2, t2, rfl, fun x o e => k2 x o (k1 x o e)⟩
/-- a call of a def whose body is one return, wherever it is called from, as long as its value is made quietly -/
theorem q_call {P : Program} {w : World} {K : PySem.W.Frag} {x qual : Str} {st : Stmt} {f : Addr} {fd : FuncData} {ps N : List Str} {A : Around} {E : Value → Shared → Prop} {Q : Value → Shared → Prop} {s : Shared} {us : List Value} {e : Expr} {rp : Pos}
    (F : L2.Fun K x qual st f fd) (sc : FnScope N ps (defScope st)) (hb : Binds K fd ps []) (hbody : defBody st = [.Return (some e) rp]) (kin : K.In s.heap) (lim : s.heap.NoLimit) (hd : A.depth < recursionLimit) (hlen : us.length = ps.length)
    (hq : ∀ (s1 : Shared) (env : Env) (m : Str → Option Value), Keeps s s1 → env.scope = defScope st → s1.heap.Ns env.locals m → m = bindL env.kindOf (ps.zip us) (fun _ => none) →
      wpAny (model P w) (A.deeper env) (eval e env) (fun v s2 => Keeps s1 s2 ∧ Q v s2) (fun _ _ => False) s1) :
    wpAny (model P w) A (call (.ref f) us) Q E s := by
  obtain ⟨oc, od, kV, doc, pm, an, cdv, ct, osl, rfl, hl, hc⟩ := F.ex
  refine wpAny_call (codeAny_call_function hd (kin f _ hl) rfl sc.co sc.gen (body := defBody st) rfl (W.codeRec_of kin hc) ?_)
  refine (hb s us kin (by rw [List.append_nil]; exact hlen)) _ _ _ _ ?_
  rw [List.append_nil]
  refine wpAny_newFunctionEnv_cells sc.kind (fun z hz => ?_) (fun env he s1 hc1 => ?_)
  · have hz' : z.1 ∈ ps := (List.of_mem_zip hz).1
    cases sc.par z.1 hz' with
    | inl h => exact .inl h
    | inr h => exact .inr ⟨h, W.cellsFrom_some _ _ _ (.inl h)⟩
  · have ic := hc1.toInCall
    have hk : Keeps s s1 := by
      obtain ⟨h', tk, es⟩ := ic.same
      subst es
      exact ⟨h', tk, rfl, ic.keep⟩
    refine ⟨Heap.NoLimit.keeps lim ic.keep, ?_⟩
    rw [hbody]
    refine codeAny_func ?_
    refine wpAny_execs_cons (wpAny_Return_some ?_)
    refine wpAny_mono (hq s1 env _ hk (by rw [he]; rfl) ic.ns rfl) (fun v s2 h => h.2) (fun _ _ h => h.elim)

/-- three parameters, all of them local -/
theorem bind3 {k : Str → Option NameKind} {a b c : Str} {u v w : Value} (ha : k a = some NameKind.local) (hb : k b = some NameKind.local) (hc : k c = some NameKind.local) (hab : a ≠ b) (hac : a ≠ c) (hbc : b ≠ c) :
    bindL k ([a, b, c].zip [u, v, w]) (fun _ => none) a = some u ∧ bindL k ([a, b, c].zip [u, v, w]) (fun _ => none) b = some v ∧ bindL k ([a, b, c].zip [u, v, w]) (fun _ => none) c = some w := by
  show bindL k [(a, u), (b, v), (c, w)] (fun _ => none) a = _ ∧ bindL k [(a, u), (b, v), (c, w)] (fun _ => none) b = _ ∧ bindL k [(a, u), (b, v), (c, w)] (fun _ => none) c = _
  unfold bindL
  rw [if_pos ha]
  unfold bindL
  rw [if_pos hb]
  unfold bindL
  rw [if_pos hc]
  unfold bindL
  refine ⟨?_, ?_, ?_⟩
  · show (if a = c then _ else if a = b then _ else if a = a then some u else none) = _
    rw [if_neg hac, if_neg hab, if_pos rfl]
  · show (if b = c then _ else if b = b then some v else _) = _
    rw [if_neg hbc, if_pos rfl]
  · show (if c = c then some w else _) = _
    rw [if_pos rfl]
theorem keeps_push {s : Shared} {o : Obj} : Keeps s { heap := s.heap.push o, gens := s.gens, drawn := s.drawn, toks := s.toks, os := s.os } :=
  ⟨_, _, rfl, fun b u e => Heap.get?_push_of_some o e⟩
/-- (a, b) in self.f, wherever it stands -/
theorem q_inF {P : Program} {w : World} {K : PySem.W.Frag} {A : Around} {E : Value → Shared → Prop} {s : Shared} {env : Env} {m : Str → Option Value} {H : Hp} {o dx C d : Addr} {fs : List (Str × V)} {kvs : List (List Key × V)} {na nb nS fl : Str} {x y : Int} {t1 t2 : Tok} {p1 p2 pt p3 p4 p5 : Pos} {kt : Nat}
    (hk : env.scope.kind = ScopeKind.function) (ka : env.kindOf na = some NameKind.local) (kb : env.kindOf nb = some NameKind.local) (kS : env.kindOf nS = some NameKind.local)
    (hns : s.heap.Ns env.locals m) (ma : m na = some (Value.int x t1)) (mb : m nb = some (Value.int y t2)) (mS : m nS = some (Value.ref o))
    (kin : K.In s.heap) (hok : HOk P w H s.heap) (ho : H o = some (.ins C dx fs)) (cl : Cls K C) (no : PySem.W.findIn K (.ref C) fl = some none) (hfl : fs.lookup fl = some (.ref d)) (hd : H d = some (.dT kvs)) (hu : A.units + 1 < cLine)
    (da : (na == Str.ofString "__debug__") = false) (db : (nb == Str.ofString "__debug__") = false) (dS : (nS == Str.ofString "__debug__") = false)
    (hat : attributeBase (.Name nS p3) fl env (eval (.Name nS p3) env) = eval (.Name nS p3) env) :
    wpAny (model P w) A (eval (.Compare (.Tuple [.Name na p1, .Name nb p2] kt pt) [.In] [.Attribute (.Name nS p3) fl p4] p5) env) (fun v s2 => v = Value.bool (valV kvs [.inl x, .inl y]).isSome ∧ Keeps s s2) E s := by
  have ldN : ∀ {n : Str} {p : Pos} {v : Value} {s' : Shared} {Q : Value → Shared → Prop}, env.kindOf n = some NameKind.local → s'.heap.Ns env.locals m → m n = some v → (n == Str.ofString "__debug__") = false → Q v s' → wpAny (model P w) A (eval (.Name n p) env) Q E s' :=
    fun kn hn mn dn q => wpAny_Name (wpAny_loadName_local hk kn hn mn q) dn
  refine wpAny_Compare1 (wpAny_Tuple_spliced ?_) rfl
  refine Calls.spliced_cons (ldN ka hns ma da ?_)
  refine Calls.spliced_cons (ldN kb hns mb db ?_)
  refine Calls.spliced_nil ⟨by show 2 ≤ sizeLine; decide, ?_⟩
  generalize ho1 : ({ cls := Value.type "tuple", data := Data.seq [Value.int x t1, Value.int y t2].toArray } : Obj) = ob
  have kp : ∀ (b : Addr) (u : Obj), s.heap.get? b = some u → (s.heap.push ob).get? b = some u := fun b u e => Heap.get?_push_of_some ob e
  have fr := hok.fresh (Nat.le_refl s.heap.objs.size)
  have hgt : (s.heap.push ob).get? s.heap.objs.size = some ob := Heap.get?_push_size s.heap (by rw [← ho1]; rfl)
  have hok2 : HOk P w (upd H s.heap.objs.size (.tup [.int x, .int y])) (s.heap.push ob) := hok.laid kp (Nat.le_refl _) (by
    unfold L2.ObjOk
    exact ⟨by show 2 ≤ sizeLine; decide, _, .cons ⟨t1, rfl⟩ (.cons ⟨t2, rfl⟩ .nil), ob, hgt, by rw [← ho1], _, by rw [← ho1]⟩)
  obtain ⟨mA, om, hrel, _, _, _⟩ := ins_get hok ho
  have om2 : ObjM (s.heap.push ob) o dx C mA := ⟨kp _ _ om.obj, Heap.Ns1.keeps om.ns kp, om.ne⟩
  have hmA : mA fl = some (Value.ref d) := by
    have r := hrel fl
    rw [hfl] at r
    cases e : mA fl with
    | none => rw [e] at r; cases r
    | some u =>
      rw [e] at r
      have r : u = Value.ref d := r
      rw [r]
  refine attr_of hat (ldN kS (Heap.Ns.keeps hns kp) mS dS ?_)
  refine get_map (kin.keeps kp) om2 (cl.get fl) cl.hd no hmA (handed_of (v := .ref d) rfl) ?_
  obtain ⟨_, hsm, xs, kt2, hdict⟩ := dt_rd (kvs := kvs) (a := d) hok2 (.inl (by rw [upd_ne (ne_of_none hd fr)]; exact hd))
  refine wpAny_in_heap (tupleKind_room_in1 hu) (key_of (ks := [.inl x, .inl y]) hok2 upd_same) hsm hdict ?_
  refine ⟨?_, ⟨_, _, rfl, kp⟩⟩
  have r := kt2.val [.inl x, .inl y]
  congr 1
  cases e1 : valV kvs [.inl x, .inl y] <;> cases e2 : atKey xs [.inl x, .inl y] <;> rw [e1, e2] at r <;> first | rfl | cases r
end GQ

end
section
set_option Elab.async false
set_option linter.all false
set_option maxRecDepth 100000
set_option maxHeartbeats 4000000
namespace GQ
open PySem L2
/-- a method of three parameters: return (b, c) in a.f -/
structure InDef (K : PySem.W.Frag) (st : Stmt) (x qual na nb nS fl : Str) (f : Addr) (fd : FuncData) : Prop where
  F : L2.Fun K x qual st f fd
  sc : FnScope [nS, na, nb] [nS, na, nb] (defScope st)
  hb : Binds K fd [nS, na, nb] []
  body : ∃ p1 p2 kt pt p3 p4 p5 rp, defBody st = [.Return (some (.Compare (.Tuple [.Name na p1, .Name nb p2] kt pt) [.In] [.Attribute (.Name nS p3) fl p4] p5)) rp] ∧ ∀ env : Env, attributeBase (.Name nS p3) fl env (eval (.Name nS p3) env) = eval (.Name nS p3) env
  la : List.lookup na (defScope st).names = some NameKind.local
  lb : List.lookup nb (defScope st).names = some NameKind.local
  lS : List.lookup nS (defScope st).names = some NameKind.local
  nab : na ≠ nb
  nSa : nS ≠ na
  nSb : nS ≠ nb
  da : (na == Str.ofString "__debug__") = false
  db : (nb == Str.ofString "__debug__") = false
  dS : (nS == Str.ofString "__debug__") = false
theorem q_has {P : Program} {w : World} {K : PySem.W.Frag} {st : Stmt} {x qual na nb nS fl : Str} {f : Addr} {fd : FuncData} {A : Around} {E : Value → Shared → Prop} {s : Shared} {H : Hp} {o dx C d : Addr} {fs : List (Str × V)} {kvs : List (List Key × V)} {a b : Int} {t1 t2 : Tok}
    (D : InDef K st x qual na nb nS fl f fd) (kin : K.In s.heap) (lim : s.heap.NoLimit) (hd : A.depth < recursionLimit) (hu : A.units + 8 < cLine) (hok : HOk P w H s.heap) (ho : H o = some (.ins C dx fs)) (cl : Cls K C) (no : PySem.W.findIn K (.ref C) fl = some none) (hfl : fs.lookup fl = some (.ref d)) (hdk : H d = some (.dT kvs)) :
    wpAny (model P w) A (call (.ref f) [.ref o, Value.int a t1, Value.int b t2]) (fun v s2 => v = Value.bool (valV kvs [.inl a, .inl b]).isSome ∧ Keeps s s2) E s := by
  obtain ⟨p1, p2, kt, pt, p3, p4, p5, rp, hbody, hat⟩ := D.body
  refine q_call (us := [.ref o, Value.int a t1, Value.int b t2]) D.F D.sc D.hb hbody kin lim hd rfl fun s1 env m hk hsc hns hm => ?_
  have hk2 := hk
  obtain ⟨h', tk, es, kp⟩ := hk2
  have ka : env.kindOf na = some NameKind.local := by show List.lookup na env.scope.names = _; rw [hsc]; exact D.la
  have kb : env.kindOf nb = some NameKind.local := by show List.lookup nb env.scope.names = _; rw [hsc]; exact D.lb
  have kS : env.kindOf nS = some NameKind.local := by show List.lookup nS env.scope.names = _; rw [hsc]; exact D.lS
  obtain ⟨mS, ma, mb⟩ := bind3 (u := .ref o) (v := Value.int a t1) (w := Value.int b t2) kS ka kb D.nSa D.nSb D.nab
  rw [← hm] at mS ma mb
  have kp1 : ∀ (b : Addr) (u : Obj), s.heap.get? b = some u → s1.heap.get? b = some u := by rw [es]; exact kp
  refine wpAny_mono (q_inF (E := fun _ _ => False) (by rw [hsc]; exact D.sc.kind) ka kb kS hns ma mb mS (kin.keeps kp1) (hok.kept kp1) ho cl no hfl hdk ?_ D.da D.db D.dS (hat env)) (fun v s2 h => ⟨h.2, h.1, keeps_trans hk h.2⟩) (fun _ _ h => h)
  show A.units + 3 + 1 < cLine
  omega
/-- o.m(b, a) with o a name of the def around, in the generator's frame -/
theorem el_has {X : Cx} {σ : St} {P : Addr} {scope : Scope} {k i : Nat} {st : Stmt} {x qual na nb nS fl xa xb no : Str} {f : Addr} {fd : FuncData} {H1 : Hp} {o dx C d : Addr} {fs : List (Str × V)} {kvs : List (List Key × V)} {a b : Int} {q1 q2 q3 q4 q5 : Pos}
    (hr : Room (k + 1) X.A) (D : InDef X.K st x qual na nb nS fl f fd) (M : Meth X.K C x f) (cl : Cls X.K C) (nf : PySem.W.findIn X.K (.ref C) fl = some none)
    (sk : scope.kind = ScopeKind.function) (la : List.lookup xa scope.names = some NameKind.local) (lb : List.lookup xb scope.names = some NameKind.local) (lo : List.lookup no scope.names = some NameKind.free)
    (hclo : ∀ c, List.lookup no X.env.cells = some c → List.lookup no (cloFrom X.env.cells scope.names []) = some c)
    (hN : X.N[i]? = some no) (hσ : σ[i]? = some (some (.ref o))) (hv : Vis X.env.scope no) (hkc : X.env.kindOf no ≠ some NameKind.local)
    (dxa : (xa == Str.ofString "__debug__") = false) (dxb : (xb == Str.ofString "__debug__") = false) (dno : (no == Str.ofString "__debug__") = false) (dcl : (no == Str.ofString "__classdict__") = false)
    (he : ∀ env : Env, ∃ pl : Sem Bool, eval (.Call (.Attribute (.Name no q1) x q2) [.Name xb q3, .Name xa q4] [] q5) env = (do
      let ov ← eval (Expr.Name no q1) env
      standAt q2.atName
      let __x ← holding [ov] (getMethod ov x pl)
      match __x with
        | (f, first) => callWith q5 f first (backTo q5 (starEach [.Name xb q3, .Name xa q4] env)) (backToKw q5 (keywordEach [] env))))
    (hP : GxR.TabG H1 P) (ho : H1 o = some (.ins C dx fs)) (hx : fs.lookup x = none) (hfl : fs.lookup fl = some (.ref d)) (hdk : H1 d = some (.dT kvs)) :
    El2 X σ P scope xa xb (.Call (.Attribute (.Name no q1) x q2) [.Name xb q3, .Name xa q4] [] q5) H1 (.int a) (.int b) (valV kvs [.inl b, .inl a]).isSome := by
  intro pins H2 s' s2 A' E' C' code m2 va vb I hh tb hA hD hU hns hma hmb ra rb
  obtain ⟨t1, rfl⟩ := ra
  obtain ⟨t2, rfl⟩ := rb
  obtain ⟨ps, hPt, _⟩ := hP
  have noP : o ≠ P := fun z => by rw [z, hPt] at ho; cases ho
  have ndP : d ≠ P := fun z => by rw [z, hPt] at hdk; cases hdk
  have ho2 : H2 o = some (.ins C dx fs) := by rw [tb.2 o noP]; exact ho
  have hd2 : H2 d = some (.dT kvs) := by rw [tb.2 d ndP]; exact hdk
  have hdp := hr.dp
  have hun := hr.un
  have kin : X.K.In s2.heap := by rw [hh]; exact I.kIn
  have lim : s2.heap.NoLimit := by rw [hh]; exact I.nolimit
  have hok : HOk X.prog X.w H2 s2.heap := by rw [hh]; exact I.hok
  obtain ⟨m, _, hlk⟩ := I.loc
  obtain ⟨u, ru, lk⟩ := hlk i no (.ref o) hN hσ hv
  have ru : u = Value.ref o := ru
  subst ru
  obtain ⟨c, hc1, hc2⟩ : ∃ c, List.lookup no X.env.cells = some c ∧ s'.heap.IsCell c (some (Value.ref o)) := by
    cases lk with
    | inl h => exact absurd h.1 hkc
    | inr h => exact h.2
  obtain ⟨mA, om, hrel, _, _, _⟩ := ins_get hok ho2
  have hmx : mA x = none := by
    have r := hrel x
    rw [hx] at r
    cases e : mA x with
    | none => rfl
    | some u => rw [e] at r; cases r
  obtain ⟨pl, he⟩ := he (genEnv scope (cloFrom X.env.cells scope.names []) C' code builtinsNs X.env)
  refine W.methodCall_KW (he := he) (wpAny_Name (wpAny_loadName_free sk lo (hclo c hc1) (by rw [hh]; exact hc2) ?_ dcl) dno)
  refine get_meth kin om (cl.get x) M.at_ M.fn hmx ?_
  refine W.callWith_K kin M.kp ?_
  refine Calls.spliced_cons (wpAny_Name (wpAny_loadName_local sk lb hns hmb ?_) dxb)
  refine Calls.spliced_cons (wpAny_Name (wpAny_loadName_local sk la hns hma ?_) dxa)
  refine Calls.spliced_nil ⟨kin, ?_⟩
  exact q_has D kin lim (by omega) (by omega) hok ho2 cl nf hfl hd2
end GQ

end
section
set_option Elab.async false
set_option linter.all false
set_option maxRecDepth 100000
set_option maxHeartbeats 4000000
namespace K02
open PySem L2 Kit KR KX KI RM GQ
/-- all is kept but the table at P -/
def Sp1 (P : Addr) (H H' : Hp) : Prop := ∀ a o, a ≠ P → H a = some o → H' a = some o
theorem Sp1.refl {P : Addr} {H : Hp} : Sp1 P H H := fun _ _ _ h => h
theorem Sp1.of {P : Addr} {H H' : Hp} (s : Same H H') : Sp1 P H H' := fun a o _ h => s a o h
theorem Sp1.trans {P : Addr} {H H1 H2 : Hp} (x : Sp1 P H H1) (y : Sp1 P H1 H2) : Sp1 P H H2 := fun a o n h => y a o n (x a o n h)
theorem Sp1.tab {P : Addr} {H H' : Hp} (t : GxR.Tabbed P H H') : Sp1 P H H' := fun a o n h => by rw [t.2 a n]; exact h
theorem tabG_same {P : Addr} {H H' : Hp} (s : Same H H') (t : GxR.TabG H P) : GxR.TabG H' P := by
  obtain ⟨ps, h, k⟩ := t
  exact ⟨ps, s _ _ h, k⟩
theorem tabG_ne {P a : Addr} {H : Hp} {o : HO} (t : GxR.TabG H P) (h : H a = some o) (n : ∀ ps, o ≠ .tbl ps) : a ≠ P := fun z => by
  obtain ⟨ps, q, _⟩ := t
  rw [z, q] at h
  cases h
  exact n ps rfl
theorem Sp1.net {C P a : Addr} {H H' : Hp} {n : Nat} {R : Rel} (s : Sp1 P H H') (t : GxR.TabG H P) (x : NetAt C H a n R) : NetAt C H' a n R := by
  obtain ⟨⟨dx, d, h1, h2⟩, b1, b2, ir⟩ := x
  exact ⟨⟨dx, d, s _ _ (tabG_ne t h1 fun _ z => nomatch z) h1, s _ _ (tabG_ne t h2 fun _ z => nomatch z) h2⟩, b1, b2, ir⟩
theorem Sp1.box {P b c : Addr} {H H' : Hp} (s : Sp1 P H H') (t : GxR.TabG H P) (x : BoxOk H b c) : BoxOk H' b c := by
  obtain ⟨ms, x1, x2, x3, x4, hb, hc, r⟩ := x
  exact ⟨ms, x1, x2, x3, x4, s _ _ (tabG_ne t hb fun _ z => nomatch z) hb, s _ _ (tabG_ne t hc fun _ z => nomatch z) hc, r⟩
theorem Sp1.lst {P a : Addr} {H H' : Hp} {xs : List V} (s : Sp1 P H H') (t : GxR.TabG H P) (h : H a = some (.lst xs)) : H' a = some (.lst xs) := s _ _ (tabG_ne t h fun _ z => nomatch z) h
/-- a def whose code object is known -/
structure FunT (K : PySem.W.Frag) (x : Str) (st : Stmt) (f c : Addr) (fd : FuncData) : Prop where
  ex : ∃ (oc kV doc pm ct : Value) (od an : Option Addr) (osl : Array (Option Value)), fd = PySem.W.fnOf x x (defArgs st) (defBody st) (defScope st) Value.none kV doc pm an (.ref c) ct ∧ List.lookup f K = some { cls := oc, dict := od, data := Data.func fd, slots := osl } ∧ PySem.W.codeIn K (.ref c) x = true
  kp : PySem.W.keepIn K (Value.ref f) = true
def DfT (K : PySem.W.Frag) (mg : Str → Option Value) (x : Str) (st : Stmt) (ps : List Str) (c : Addr) : Prop := ∃ (f : Addr) (fd : FuncData), FunT K x st f c fd ∧ mg x = some (.ref f) ∧ Binds K fd ps []
/-- has_link, as a def that a generator expression's test calls -/
def DfH (K : PySem.W.Frag) (C : Addr) : Prop := ∃ (f : Addr) (fd : FuncData), L2.Fun K "has_link" "Net.has_link" sNetHasLink f fd ∧ Meth K C "has_link" f ∧ Binds K fd ["self", "source", "reader"] []
theorem inDef {K : PySem.W.Frag} {f : Addr} {fd : FuncData} (F : L2.Fun K "has_link" "Net.has_link" sNetHasLink f fd) (hb : Binds K fd ["self", "source", "reader"] []) : InDef K sNetHasLink "has_link" "Net.has_link" "source" "reader" "self" "_links" f fd :=
  ⟨F, scNetHasLink, hb, ⟨_, _, _, _, _, _, _, _, rfl, fun _ => rfl⟩, rfl, rfl, rfl, by decide, by decide, by decide, by decide, by decide, by decide⟩
abbrev sIsTwoWay : Stmt := top 15
theorem scIsTwoWay : FnScope ["net"] ["net"] (defScope sIsTwoWay) := ⟨rfl, rfl, rfl, by decide +kernel, rfl, by decide +kernel, by decide +kernel⟩
def Two (n : Nat) (R : Rel) : Prop := ∀ x y, x < n → y < n → R x y = true → R y x = true
def spTwoWay (CN Pt : Addr) : Sp := fun vs H Q _ => ∃ (a : Addr) (n : Nat) (R : Rel), vs = [.ref a] ∧ NetAt CN H a n R ∧ GxR.TabG H Pt ∧ ∀ (b : Bool) H', Sp1 Pt H H' → GxR.TabG H' Pt → (b = true ↔ Two n R) → Q (.bl b) H'
section
variable {P : Program} {w : World} {K : PySem.W.Frag} {mg : Str → Option Value} {base : Heap} {CN CI CU CL CS : Addr} {mc mu : Value}
theorem ok_IsTwoWay {c Pt : Addr} (D : DfT K mg "is_two_way" sIsTwoWay ["net"] c) (T : NTx K mg CN mc mu) (aN : mg "all" = none) (TB : GxR.TabB base mg c Pt) (DH : DfH K CN) (PLinks : PropC P w K mg base 1 CN "links" (spLinks CN)) : C8.Cal P w K mg base 9 "is_two_way" (spTwoWay CN Pt) [] := by
  obtain ⟨f, fd, F, hm, hb⟩ := D
  obtain ⟨⟨oc, kV, doc, pm, ct, od, an, osl, rfl, lk, hcd⟩, kp⟩ := F
  refine ⟨f, _, ["net"], [], fn_of (CX := CX0) lk hcd scIsTwoWay (fun vs H Q E h => ?_) (fun A outer s H vs Q E hr h => ?_), hm, kp, hb, .nil⟩
  · obtain ⟨a, n, R, rfl, na, tg, k⟩ := h
    rfl
  · obtain ⟨a, n, R, rfl, na, tg, k⟩ := h
    have na2 := na
    obtain ⟨⟨dx, d, ha, hd⟩, b1, b2, ir⟩ := na2
    obtain ⟨fh, fdh, Fh, Mh, hbh⟩ := DH
    refine ⟨_, (pss_one (ps_ret (pe_all2 (c := c) (P := Pt) hr (by rfl) aN (by rfl) TB rfl ⟨rfl, rfl, by decide +kernel, rfl, rfl, rfl, by decide, fun y hy e => ?free⟩ (pe_pr PLinks hr (by decide) (pv 0)) (fun _ => rfl)))), ?_⟩
    case free =>
      have q : ∀ y ∈ ([(".0", NameKind.local), ("source", NameKind.local), ("reader", NameKind.local), ("net", NameKind.free)] : List (Str × NameKind)), y.2 = NameKind.free → y.1 = "net" := by decide +kernel
      rw [q y hy e]
      exact ⟨_, rfl⟩
    refine ⟨_, rfl, _, _, _, rfl, ha, _, _, _, rfl, na, fun l1 as1 H1 nl1 sm1 hl1 pl1 => ?_⟩
    refine ⟨l1, as1, fun i => V.int ((ties n R).getD i (0, 0)).1, fun i => V.int ((ties n R).getD i (0, 0)).2, fun i => (valV (linkKV n R) [.inl ((ties n R).getD i (0, 0)).2, .inl ((ties n R).getD i (0, 0)).1]).isSome, rfl, hl1, tabG_same sm1 tg, fun i t ht => ⟨?_, ?_⟩, fun H2 tb => ?_⟩
    · obtain ⟨t2, x, y, e0, e1, e2, e3⟩ := pl1.item (v := V.ref t) (by rw [List.getElem?_map, ht]; rfl)
      obtain rfl : t = t2 := V.ref.inj e0
      have q : (ties n R).getD i (0, 0) = (x, y) := by rw [List.getD_eq_getElem?_getD, e2]; rfl
      show H1 t = some (.tup [V.int ((ties n R).getD i (0, 0)).1, V.int ((ties n R).getD i (0, 0)).2])
      rw [e3, q]
    · refine el_has (i := 0) (fs := netF n d) (kvs := linkKV n R) (d := d) (dx := dx) (C := CN) (fl := "_links") (nb := "reader") hr (inDef Fh hbh) Mh T.cl T.n__links rfl rfl rfl rfl (fun c e => e) rfl rfl (by first | exact .inl rfl | exact .inr (.inl rfl) | exact .inr (.inr rfl) | decide +kernel) (by intro z; cases z) rfl rfl rfl rfl (fun env => ⟨_, rfl⟩) (tabG_same sm1 tg) (sm1 _ _ ha) (netF_no _ _ (by decide +kernel) (by decide +kernel)) (netF_links _ _) (sm1 _ _ hd)
    · refine k _ H2 ((Sp1.of sm1).trans (Sp1.tab tb)) tb.1 ?_
      rw [List.all_eq_true]
      constructor
      · intro h x y hx hy r
        obtain ⟨i, hi⟩ := List.getElem?_of_mem ((has_nat hx hy).mpr r)
        have lt : i < as1.length := by rw [pl1.1]; exact (List.getElem?_eq_some_iff.mp hi).1
        have z := h i (List.mem_range.mpr lt)
        have q : (ties n R).getD i (0, 0) = ((x : Int), (y : Int)) := by rw [List.getD_eq_getElem?_getD, hi]; rfl
        have z : (valV (linkKV n R) [.inl ((ties n R).getD i (0, 0)).2, .inl ((ties n R).getD i (0, 0)).1]).isSome = true := z
        rw [q, has_key] at z
        exact (has_nat hy hx).mp (of_decide_eq_true z)
      · intro tw i hi
        have lt := List.mem_range.mp hi
        rw [pl1.1] at lt
        obtain ⟨x, y, hx, hy, r, e⟩ := mem_ties.mp (List.getElem_mem lt)
        have q : (ties n R).getD i (0, 0) = ((x : Int), (y : Int)) := by rw [List.getD_eq_getElem?_getD, List.getElem?_eq_getElem lt, e]; rfl
        show (valV (linkKV n R) [.inl ((ties n R).getD i (0, 0)).2, .inl ((ties n R).getD i (0, 0)).1]).isSome = true
        rw [q, has_key]
        exact decide_eq_true ((has_nat hy hx).mpr (tw x y hx hy r))
end
end K02

end
section
set_option Elab.async false
set_option linter.all false
set_option maxRecDepth 100000
set_option maxHeartbeats 4000000
namespace K02
open PySem L2 Kit KR KX KI RM
local macro_rules | `(tactic| fail "om") => `(tactic| first | omega | (simp only [List.length_map, List.length_append, List.length_cons, List.length_nil]; omega) | (simp only [List.length_map, List.length_append, List.length_cons, List.length_nil] at *; omega) | assumption | decide | (simp only [List.length_take, List.length_drop]; omega) | (rw [every_len]; omega) | fail "no om")
local macro_rules | `(tactic| fail "nz") => `(tactic| first | decide | omega | fail "no nz")
local macro_rules | `(tactic| fail "dv") => `(tactic| exact ⟨by first | decide | omega, by first | decide | omega⟩)
local macro_rules | `(tactic| fail "mul") => `(tactic| first | exact .inr ⟨by decide, by decide⟩ | exact .inl ⟨by decide, by decide⟩ | exact mulF (by decide) (by decide) | exact .inl ⟨by omega, by omega⟩ | exact .inr ⟨by omega, by omega⟩ | fail "no mul")
local macro_rules | `(tactic| fail "sz") => `(tactic| first | assumption | exact Nat.zero_le _ | (show 1 ≤ sizeLine; decide) | (show 2 ≤ sizeLine; decide) | (show 3 ≤ sizeLine; decide) | (show 4 ≤ sizeLine; decide) | (show 5 ≤ sizeLine; decide) | exact Evl.sz_of (by omega) | (refine Evl.sz_of ?_; simp only [List.length_append, List.length_map, List.length_cons, List.length_nil]; omega) | (refine Evl.sz_of ?_; simp only [List.length_append, List.length_map, List.length_cons, List.length_nil, List.length_take, List.length_drop]; omega) | fail "no sz")
local macro_rules | `(tactic| fail "szl") => `(tactic| first | exact Evl.sz_lt (by omega) | (refine Evl.sz_lt ?_; simp only [List.length_append, List.length_map, List.length_cons, List.length_nil]; omega) | fail "no szl")
local macro_rules | `(tactic| fail "ix") => `(tactic| first | assumption | exact ix0 | exact ix1 | exact ix2 | exact at_ref (by assumption) (by omega) | exact at_int (by assumption) (by omega) | exact at_drawn (by assumption) (by assumption) | exact at_lit (by first | assumption | omega) (by fail "om") | rfl | fail "no ix")
local macro_rules | `(tactic| fail "ixn") => `(tactic| first | rfl | assumption | fail "no ixn")
local macro_rules | `(tactic| fail "nb") => `(tactic| first | assumption | exact nb_tup | exact nb_nil | exact nb_ints | exact nb_refs | exact nb_ins | exact nb_dT | exact nb_frz | fail "no nb")
local macro_rules | `(tactic| fail "ne") => `(tactic| first | assumption | exact Ne.symm (by assumption) | exact ne_of_none (by assumption) (by assumption) | exact (ne_of_none (by assumption) (by assumption)).symm | exact ne_of (by assumption) (by assumption) (by intro q; cases q) | exact ne_of (by assumption) (by assumption) (by simp) | fail "no ne")
local macro_rules | `(tactic| fail "hp") => `(tactic| first | assumption | exact upd_same | exact lit0 | exact lit1 | exact lit3 | exact lit2 | (refine' Tk.get (by assumption) ?k1; (case k1 => fail "tk")) | (with_reducible refine' upd_new ?h1 ?n1; (case n1 => assumption); (case h1 => fail "hp")) | (refine' Same.get (by assumption) ?h1; (case h1 => fail "hp")) | (refine' Kp.get (by assumption) (by fail "bx") ?h1 ?d1; (case h1 => fail "hp"); (case d1 => fail "nb")) | (with_reducible refine' upd_oth ?h1 ?n1; (case n1 => fail "ne"); (case h1 => fail "hp")) | (with_reducible refine' upd_oth ?h1 ?n1; (case h1 => fail "hp"); (case n1 => fail "ne")) | (refine' Kq.get (by assumption) (by fail "bx") ?h1 ?d1 (by fail "ne"); (case h1 => fail "hp"); (case d1 => fail "nb")) | fail "no hp")
local macro_rules | `(tactic| fail "bx") => `(tactic| first | assumption | (with_reducible refine' BoxOk.new ?h1 ?n1; (case n1 => assumption); (case h1 => fail "bx")) | (refine' BoxOk.same (by assumption) ?h1; (case h1 => fail "bx")) | (with_reducible refine' BoxOk.mut ?h1 ?h2 ?n1; (case n1 => assumption); (case h2 => assumption); (case h1 => fail "bx")) | fail "no bx")
local macro_rules | `(tactic| fail "kp") => `(tactic| first | assumption | exact Kp.refl | (with_reducible refine' Kp.at ?h1; (case h1 => fail "kp")) | (with_reducible refine' Kp.new ?h1 ?n1; (case n1 => assumption); (case h1 => fail "kp")) | (with_reducible refine' Kp.mut ?h1 ?n1; (case n1 => assumption); (case h1 => fail "kp")) | (refine' Kp.tr (by assumption) ?h1; (case h1 => fail "kp")) | (refine' Kp.tr (Kp.of (by assumption)) ?h1; (case h1 => fail "kp")) | (refine' Kq.kp (by assumption) ?h1 (by assumption); (case h1 => fail "kp")) | fail "no kp")
local macro_rules | `(tactic| fail "ite") => `(tactic| first | refine iteT ?_ | refine iteF ?_)
local macro_rules | `(tactic| fail "tt") => `(tactic| first | rfl | exact decide_eq_true (by first | rfl | omega | assumption) | exact decide_eq_true (congrArg V.int (by first | rfl | omega)) | fail "no tt")
local macro_rules | `(tactic| fail "cv") => `(tactic| first | exact .ty _ | exact .own _)
local macro_rules | `(tactic| fail "tx") => `(tactic| first | exact .base (.int _) | exact .base (.bl _) | exact .base .non | exact .base (.lst (by fail "hp")) | exact .base (.tup (by fail "hp")) | fail "no tx")
local macro_rules | `(tactic| fail "dead") => `(tactic| (exfalso; first | omega | contradiction | simp_all))
local macro_rules | `(tactic| fail "dp") => `(tactic| first | exact .tup (SqT.of (by fail "hp")) (.cons (.int _) (.cons (.int _) .nil)) | exact .lst (SqL.of (by fail "hp")) (dpPrs (by fail "pr")) | exact .lst (SqL.of (by fail "hp")) (dpInts _) | exact .lst (SqL.of (by fail "hp")) .nil | fail "no dp")
local macro_rules | `(tactic| fail "shp") => `(tactic| first | assumption | exact prD_shaped _ | exact PySem.W.ke_shaped_ints _ | rfl | fail "no shp")
local macro_rules | `(tactic| fail "pr") => `(tactic| first | assumption | exact PrT.mono (by assumption) (by fail "tk") | fail "no pr")
local macro_rules | `(tactic| fail "tk") => `(tactic| first | assumption | exact Tk.refl | (with_reducible refine' Tk.new ?h1 ?n1; (case n1 => assumption); (case h1 => fail "tk")) | (refine' Tk.tr (Kp.tk (by assumption) (by fail "bx")) ?h1; (case h1 => fail "tk")) | (refine' Tk.tr (Same.tk (by assumption)) ?h1; (case h1 => fail "tk")) | (with_reducible refine' Tk.lst ?h1 ?n1; (case n1 => fail "hp"); (case h1 => fail "tk")) | fail "no tk")
local macro_rules | `(tactic| fail "lk") => `(tactic| first | exact netF_count _ _ | exact netF_links _ _ | exact netF_no _ _ (by decide +kernel) (by decide +kernel) | fail "no lk")
local macro_rules | `(tactic| fail "kt") => `(tactic| first | exact upd_same | assumption | fail "hp")
local macro_rules | `(tactic| fail "na") => `(tactic| first | assumption | (with_reducible refine' NetAt.new ?h1 ?n1; (case n1 => assumption); (case h1 => fail "na")) | (refine' NetAt.same (by assumption) ?h1; (case h1 => fail "na")) | (refine' NetAt.kp (by assumption) (by fail "bx") ?h1; (case h1 => fail "na")) | (with_reducible refine' NetAt.lst ?h1 ?n1; (case n1 => fail "hp"); (case h1 => fail "na")) | fail "no na")
local macro_rules | `(tactic| fail "mono") => `(tactic| first | exact fun _ _ _ _ h q => h _ _ q | exact fun _ _ _ _ h q => (let ⟨v, e, z⟩ := q; ⟨v, e, h _ _ z⟩) | exact fun _ _ _ _ h q => (let ⟨v, e, u, f, z⟩ := q; ⟨v, e, u, f, h _ _ z⟩) | fail "no mono")
local macro_rules | `(tactic| fail "sm") => `(tactic| first | assumption | exact Same.refl _ | (with_reducible refine' Same.new ?h1 ?n1; (case n1 => assumption); (case h1 => fail "sm")) | (refine' Same.tr (by assumption) ?h1; (case h1 => fail "sm")) | fail "no sm")
local macro_rules | `(tactic| fail "fld") => `(tactic| first | (show 0 < 1000; decide) | (show 1 < 1000; decide) | fail "no fld")
local macro_rules | `(tactic| fail "kq") => `(tactic| first | assumption | exact Kq.refl | (with_reducible refine' Kq.at ?h1; (case h1 => fail "kq")) | (with_reducible refine' Kq.new ?h1 ?n1; (case n1 => assumption); (case h1 => fail "kq")) | (refine' Kq.trans ?h1 (by assumption); (case h1 => fail "kq")) | (refine' Kq.trans ?h1 (Kq.of (by assumption)); (case h1 => fail "kq")) | (refine' Kq.trans ?h1 (Kq.ofS (by assumption)); (case h1 => fail "kq")) | fail "no kq")
local macro_rules | `(tactic| fail "mo") => `(tactic| first | assumption | exact MemOk.take (by assumption) _ | exact MemOk.drop (by assumption) _ | exact every_ok _ | fail "no mo")

section
variable {P : Program} {w : World} {K : PySem.W.Frag} {mg : Str → Option Value} {base : Heap} {CN CI CU CL CS Pt : Addr} {mc mu : Value}


def Tree (n : Nat) (R : Rel) : Prop := (ties n R).length = 2 * (n - 1) ∧ Two n R ∧ Strong n R
def spIsTree (CN Pt : Addr) : Sp := fun vs H Q _ => ∃ (a : Addr) (n : Nat) (R : Rel), vs = [.ref a] ∧ NetAt CN H a n R ∧ GxR.TabG H Pt ∧ ∀ (b : Bool) H', Sp1 Pt H H' → GxR.TabG H' Pt → (b = true ↔ Tree n R) → Q (.bl b) H'
abbrev sIsTree : Stmt := top 18
theorem scIsTree : FnScope ["net"] ["net"] (defScope sIsTree) := ⟨rfl, rfl, rfl, by decide +kernel, rfl, by decide +kernel, by decide +kernel⟩
theorem ok_IsTree (D : Df K mg "is_tree" sIsTree ["net"]) (T : NTx K mg CN mc mu) (GTwoWay : C8.Cal P w K mg base 9 "is_two_way" (spTwoWay CN Pt) []) (GStrong : C8.Cal P w K mg base 8 "is_strong" (spStrong CN) []) (PLinks : PropC P w K mg base 1 CN "links" (spLinks CN)) : C8.Cal P w K mg base 11 "is_tree" (spIsTree CN Pt) [] := by
  obtain ⟨f, fd, F, hm, hb⟩ := D
  refine ⟨f, fd, ["net"], [], F.ok scIsTree (fun vs H Q E h => ?_) (fun cdv A outer s H vs Q E hr h => ?_), hm, F.kp, hb, .nil⟩
  · obtain ⟨a, n, R, rfl, na, tg, k⟩ := h
    rfl
  · obtain ⟨a, n, R, rfl, na, tg, k⟩ := h
    have na2 := na
    obtain ⟨⟨dx, d, ha, hd⟩, b1, b2, ir⟩ := na2
    refine ⟨_, (pss_one (ps_ret (pe_and (pe_cmpR op_eq (pe_callB call_len_seq (by rfl) T.len (by decide +kernel) (pa_cons (pe_pr PLinks hr (by decide) (pv 0)) pa_nil)) (pe_op op_mul pe_int (pe_op op_sub (pe_fld (pv 0) (by rfl)) pe_int)) (nomark _)) (pe_and (C8.pe_c GTwoWay hr (by decide) (by rfl) (pa_cons (pv 0) pa_nil)) (pe_one (C8.pe_c GStrong hr (by decide) (by rfl) (pa_cons (pv 0) pa_nil))))))), ?_⟩
    -- return len(net.links) == 2 * (net.count - 1) and is_two_way(net) and is_strong(net)
    refine ⟨_, rfl, _, _, _, rfl, (by fail "hp"), _, _, _, rfl, (by fail "na"), fun l1 as1 H1 nl1 sm1 hl1 pl1 => ⟨_, _, rfl, .inl (SqL.of (by fail "hp")), _, rfl, _, _, _, _, _, rfl, (by fail "hp"), T.cl, T.n_count, (by fail "lk"), _, _, rfl, rfl, _, _, rfl, rfl, (by fail "mul"), rfl, _, rfl, ?_⟩⟩
    refine ifEqI (fun g5 => ?_) (fun g5 => ?_)
    · refine ⟨_, rfl, _, _, _, rfl, (by fail "na"), (tabG_same sm1 tg), fun b2 H2 sp2 tp2 tl2 => ⟨_, rfl, ?_⟩⟩
      refine ifB (fun g4 => ?_) (fun g4 => ?_)
      · refine ⟨_, rfl, _, _, _, rfl, (Sp1.net sp2 (tabG_same sm1 tg) (NetAt.same sm1 na)), fun b3 H3 sm3 tl3 => ?_⟩
        rw [List.length_map, pl1.1] at g5
        refine k _ _ ((Sp1.of sm1).trans (sp2.trans (Sp1.of sm3))) (tabG_same sm3 tp2) ?_
        rw [tl3]
        exact ⟨fun q => ⟨by omega, tl2.mp g4, q⟩, fun q => q.2.2⟩
      · refine k _ _ ((Sp1.of sm1).trans sp2) tp2 ?_
        exact ⟨fun q => (nomatch q), fun q => absurd (tl2.mpr q.2.1) (by rw [g4]; exact Bool.false_ne_true)⟩
    · rw [List.length_map, pl1.1] at g5
      refine k _ _ (Sp1.of sm1) (tabG_same sm1 tg) ?_
      exact ⟨fun q => (nomatch q), fun q => absurd q.1 (by omega)⟩
end
end K02

end
section
set_option Elab.async false
set_option linter.all false
set_option maxRecDepth 100000
set_option maxHeartbeats 1000000
/- an own error that is made of nothing -/
namespace KX
open PySem PySem.Spec PyProof.Rows L2 Kit
theorem pmk_own0 {X : Cx} {C : Addr} {bmB : List Value} {B newId initId : String} {x : Str} {p pos : Pos} (F : ExcBaseFacts B newId initId bmB) (ei : PySem.W.excIn X.K C bmB newId = true) (gC : X.mg x = some (.ref C)) (kC : PySem.W.keepIn X.K (.ref C) = true) (r : Raises X (.ref C)) (hg : Gl X x)
    (hdb : (x == ("__debug__" : Str)) = false := by decide) : L2N.PMk X (.Call (.Name x p) [] [] pos) (fun _ H Q => Q (.ref C) none H) := by
  intro pins s σ H Q I h
  refine wpAny_Call_Name_kw (ld_glob I hg gC ?_ hdb)
  refine PySem.W.callWith_K0 I.kIn kC ?_
  show wpAny _ _ (call (.ref C) []) _ _ _
  obtain ⟨bm, N, nm, qn, bs, hdct, sn, sub, ab, col, dd, k0, k1, k2, k3, k5, mN, hC, hN, hni, T⟩ := exc_obj I.kIn ei
  refine wpAny_call_exc_subT F T hC hN hni (fun h' e hm => ?_) (Nat.zero_le _)
  exact L2N.mk_of I hm r h (I.hok.gone hm.new)
end KX
namespace KX
open PySem PySem.Spec PyProof.Rows L2 Kit
/-- isinstance(e, C): the error in the suite has no fields -/
def rIsX0 (K : PySem.W.Frag) (cls : Value) (d : Option Addr) (a : Addr) : List V → Hp → VK → Prop := fun xs H Q => ∃ (D : Addr) (c : V) (cv : Value) (b : Bool),
  cls = .ref D ∧ IsX K D ∧ xs = [.ref a, c] ∧ (∀ u, RelV c u → u = cv) ∧ d = none ∧ PySem.W.kitOne K (.ref D) cv = some b ∧ Q (.bl b) H
theorem call_isX0 {X : Cx} {a : Addr} {cls : Value} {d : Option Addr} {oe : Obj} {pn : List (Addr × Obj)} (hz : Zc cls d oe) (hf : ∃ vs, oe.data = .fields vs) :
    CallR (X.suite a ((a, oe) :: pn)) (.builtin "isinstance") (rIsX0 X.K cls d a) := by
  intro pins s σ H xs us Q I r h
  obtain ⟨D, c, cv, b, rfl, T, rfl, hcv, rfl, e, q⟩ := h
  obtain ⟨u1, u2, rfl, r1, r2⟩ := vals2 r
  obtain rfl : u1 = Value.ref a := r1
  obtain rfl := hcv _ r2
  have pin := (I.pin (a, oe) (List.mem_append.mpr (.inl List.mem_cons_self))).1
  obtain ⟨vs, hv⟩ := hf
  obtain ⟨z1, z2⟩ := hz
  have J : PySem.W.InstAt s.heap a oe D none := by
    refine ⟨pin, z1, ?_, ?_⟩
    · unfold PySem.W.notCls
      rw [hv] <;> rfl
    · rw [z2]
      trivial
  have Z := PySem.W.kitx_exc (K := X.K) (x := a) (C := D) (ox := oe) (od := none) T.cl T.ga T.gg T.ex T.cc T.cg T.tk T.mo
  exact PySem.W.kia_one Z I.kIn J e (fun z => by cases z) fun tk => ⟨.bl b, H, I.tok tk, rfl, q⟩
theorem call_isXX {X : Cx} {a : Addr} {cls : Value} {d : Option Addr} {oe : Obj} {pn : List (Addr × Obj)} (hz : Zc cls d oe) (hf : ∃ vs, oe.data = .fields vs) :
    CallR (X.suite a ((a, oe) :: pn)) (.builtin "isinstance") (fun xs H Q => rIsX X.K cls d a xs H Q ∨ rIsX0 X.K cls d a xs H Q) := by
  intro pins s σ H xs us Q I r h
  rcases h with h | h
  · exact call_isX hz hf pins s σ H xs us Q I r h
  · exact call_isX0 hz hf pins s σ H xs us Q I r h
end KX

end
section
set_option Elab.async false
set_option linter.all false
/- trees: spans, their depths, the sides of a link -/
namespace TM
open Kit KI RM
theorem nodup_len {α : Type} [DecidableEq α] : ∀ (L T : List α), L.Nodup → (∀ x ∈ L, x ∈ T) → L.length ≤ T.length
  | [], _, _, _ => Nat.zero_le _
  | a :: l, T, h, s => by
    obtain ⟨h1, h2⟩ := List.nodup_cons.mp h
    have ma := s a List.mem_cons_self
    have ih := nodup_len l (T.erase a) h2 fun x hx => by
      have ne : x ≠ a := fun z => h1 (z ▸ hx)
      exact (List.mem_erase_of_ne ne).mpr (s x (List.mem_cons_of_mem _ hx))
    rw [List.length_erase_of_mem ma] at ih
    have := List.length_pos_of_mem ma
    rw [List.length_cons]
    omega
theorem nodup_all {α : Type} [DecidableEq α] {L T : List α} (h : L.Nodup) (s : ∀ x ∈ L, x ∈ T) (e : T.length ≤ L.length) : ∀ x ∈ T, x ∈ L := fun z hz => by
  by_cases m : z ∈ L
  · exact m
  · have := nodup_len (z :: L) T (List.nodup_cons.mpr ⟨m, h⟩) fun x hx => (List.mem_cons.mp hx).elim (fun q => q ▸ hz) (s x)
    rw [List.length_cons] at this
    omega
/-- what has been found from r: by whom, how far -/
structure Grow (n : Nat) (R : Rel) (r : Nat) (D : Nat → Bool) (p d : Nat → Nat) : Prop where
  hr : r < n
  dr : D r = true
  d0 : d r = 0
  st : ∀ x, x < n → D x = true → x ≠ r → p x < n ∧ D (p x) = true ∧ R (p x) x = true ∧ d x = d (p x) + 1
theorem Grow.init {n : Nat} {R : Rel} {r : Nat} {D : Nat → Bool} (hr : r < n) (h : ∀ x, D x = true ↔ x = r) : Grow n R r D (fun _ => 0) (fun _ => 0) :=
  ⟨hr, (h r).mpr rfl, rfl, fun x _ d ne => absurd ((h x).mp d) ne⟩
def put (f : Nat → Nat) (y v : Nat) : Nat → Nat := fun x => if x = y then v else f x
theorem Grow.mark {n : Nat} {R : Rel} {r : Nat} {D : Nat → Bool} {p d : Nat → Nat} (h : Grow n R r D p d) {x y : Nat} (hx : x < n) (dx : D x = true) (dy : D y = false) (e : R x y = true) : Grow n R r (on D y) (put p y x) (put d y (d x + 1)) := by
  have o : ∀ z, on D y z = true ↔ D z = true ∨ z = y := fun z => by
    unfold on
    rw [Bool.or_eq_true, decide_eq_true_iff]
  have ne : ∀ z, D z = true → z ≠ y := fun z dz q => by rw [q, dy] at dz; cases dz
  have pd : ∀ z, D z = true → put d y (d x + 1) z = d z := fun z dz => if_neg (ne z dz)
  refine ⟨h.hr, (o r).mpr (.inl h.dr), by rw [pd r h.dr]; exact h.d0, fun z hz dz nr => ?_⟩
  by_cases q : z = y
  · subst q
    have e1 : put p z x z = x := if_pos rfl
    have e2 : put d z (d x + 1) z = d x + 1 := if_pos rfl
    rw [e1, e2, pd x dx]
    exact ⟨hx, (o x).mpr (.inl dx), e, rfl⟩
  · have dz' : D z = true := ((o z).mp dz).resolve_right q
    obtain ⟨a1, a2, a3, a4⟩ := h.st z hz dz' nr
    have e1 : put p y x z = p z := if_neg q
    rw [e1, pd z dz', pd _ a2]
    exact ⟨a1, (o _).mpr (.inl a2), a3, a4⟩
/-- all have been found -/
structure Span (n : Nat) (R : Rel) (r : Nat) (p d : Nat → Nat) : Prop where
  hr : r < n
  d0 : d r = 0
  st : ∀ x, x < n → x ≠ r → p x < n ∧ R (p x) x = true ∧ d x = d (p x) + 1
theorem Grow.span {n : Nat} {R : Rel} {r : Nat} {D : Nat → Bool} {p d : Nat → Nat} (h : Grow n R r D p d) (all : ∀ x, x < n → D x = true) : Span n R r p d :=
  ⟨h.hr, h.d0, fun x hx ne => let ⟨a, _, c, e⟩ := h.st x hx (all x hx) ne; ⟨a, c, e⟩⟩
def Two (n : Nat) (R : Rel) : Prop := ∀ x y, x < n → y < n → R x y = true → R y x = true
/-- two-way, and no link too many -/
structure Few (n : Nat) (R : Rel) : Prop where
  two : Two n R
  ir : ∀ x y, x < n → y < n → R x y = true → x ≠ y
  few : (ties n R).length ≤ 2 * (n - 1)
theorem mem_others {n r x : Nat} : x ∈ (List.range n).erase r ↔ x ≠ r ∧ x < n := by
  rw [List.Nodup.mem_erase_iff List.nodup_range, List.mem_range]
def up (p : Nat → Nat) (x : Nat) : Int × Int := ((x : Int), (p x : Int))
def dn (p : Nat → Nat) (x : Nat) : Int × Int := ((p x : Int), (x : Int))
/-- each link leads from one to the one by whom it was found, or back -/
theorem Span.links {n : Nat} {R : Rel} {r : Nat} {p d : Nat → Nat} (h : Span n R r p d) (w : Few n R) : ∀ x y, x < n → y < n → R x y = true → (x ≠ r ∧ p x = y) ∨ (y ≠ r ∧ p y = x) := by
  have nd0 : ((List.range n).erase r).Nodup := List.Nodup.erase _ List.nodup_range
  have ln : ((List.range n).erase r).length = n - 1 := by rw [List.length_erase_of_mem (List.mem_range.mpr h.hr), List.length_range]
  let E := (List.range n).erase r
  have nd1 : (E.map (up p)).Nodup := List.Pairwise.map (S := fun a b => a ≠ b) _ (fun a b (q : a ≠ b) z => q (by have := congrArg Prod.fst z; unfold up at this; omega)) nd0
  have nd2 : (E.map (dn p)).Nodup := List.Pairwise.map (S := fun a b => a ≠ b) _ (fun a b (q : a ≠ b) z => q (by have := congrArg Prod.snd z; unfold dn at this; omega)) nd0
  have nd : (E.map (up p) ++ E.map (dn p)).Nodup := List.nodup_append.mpr ⟨nd1, nd2, fun a ha b hb z => by
    obtain ⟨x, hx, e1⟩ := List.mem_map.mp ha
    obtain ⟨y, hy, e2⟩ := List.mem_map.mp hb
    obtain ⟨x1, x2⟩ := mem_others.mp hx
    obtain ⟨y1, y2⟩ := mem_others.mp hy
    have z : up p x = dn p y := by rw [e1, e2, z]
    have z1 : (x : Int) = (p y : Int) := congrArg Prod.fst z
    have z2 : (p x : Int) = (y : Int) := congrArg Prod.snd z
    have z1 : x = p y := by omega
    have z2 : p x = y := by omega
    obtain ⟨_, _, a⟩ := h.st x x2 x1
    obtain ⟨_, _, b⟩ := h.st y y2 y1
    rw [z2] at a
    rw [← z1] at b
    omega⟩
  have sub : ∀ z ∈ E.map (up p) ++ E.map (dn p), z ∈ ties n R := fun z hz => by
    rcases List.mem_append.mp hz with m | m
    · obtain ⟨x, hx, e⟩ := List.mem_map.mp m
      obtain ⟨x1, x2⟩ := mem_others.mp hx
      obtain ⟨a1, a2, _⟩ := h.st x x2 x1
      exact mem_ties.mpr ⟨x, p x, x2, a1, w.two _ _ a1 x2 a2, e.symm⟩
    · obtain ⟨x, hx, e⟩ := List.mem_map.mp m
      obtain ⟨x1, x2⟩ := mem_others.mp hx
      obtain ⟨a1, a2, _⟩ := h.st x x2 x1
      exact mem_ties.mpr ⟨p x, x, a1, x2, a2, e.symm⟩
  have all := nodup_all nd sub (by
    rw [List.length_append, List.length_map, List.length_map]
    have := w.few
    show _ ≤ ((List.range n).erase r).length + ((List.range n).erase r).length
    rw [ln]
    omega)
  intro x y hx hy e
  rcases List.mem_append.mp (all _ (mem_ties.mpr ⟨x, y, hx, hy, e, rfl⟩)) with m | m
  · obtain ⟨z, hz, q⟩ := List.mem_map.mp m
    obtain ⟨z1, z2⟩ := mem_others.mp hz
    have q1 : (z : Int) = (x : Int) := congrArg Prod.fst q
    have q2 : (p z : Int) = (y : Int) := congrArg Prod.snd q
    have q1 : z = x := by omega
    subst q1
    exact .inl ⟨z1, by omega⟩
  · obtain ⟨z, hz, q⟩ := List.mem_map.mp m
    obtain ⟨z1, z2⟩ := mem_others.mp hz
    have q1 : (p z : Int) = (x : Int) := congrArg Prod.fst q
    have q2 : (z : Int) = (y : Int) := congrArg Prod.snd q
    have q2 : z = y := by omega
    subst q2
    exact .inr ⟨z1, by omega⟩
theorem Span.near {n : Nat} {R : Rel} {r : Nat} {p d : Nat → Nat} (h : Span n R r p d) (w : Few n R) {x y : Nat} (hx : x < n) (hy : y < n) (e : R x y = true) : d x ≤ d y + 1 := by
  rcases h.links w x y hx hy e with ⟨a, b⟩ | ⟨a, b⟩
  · obtain ⟨_, _, c⟩ := h.st x hx a
    rw [b] at c
    omega
  · obtain ⟨_, _, c⟩ := h.st y hy a
    rw [b] at c
    omega
theorem Span.zero {n : Nat} {R : Rel} {r : Nat} {p d : Nat → Nat} (h : Span n R r p d) {x : Nat} (hx : x < n) (e : d x = 0) : x = r := by
  by_cases q : x = r
  · exact q
  · obtain ⟨_, _, c⟩ := h.st x hx q
    omega
/-- along the second span's ways -/
theorem Span.walk {n : Nat} {R : Rel} {r s : Nat} {p d q f : Nat → Nat} (h : Span n R r p d) (g : Span n R s q f) (w : Few n R) : ∀ (k x : Nat), x < n → f x = k → d s ≤ d x + k ∧ d x ≤ d s + k
  | 0, x, hx, e => by
    rw [g.zero hx e]
    omega
  | k + 1, x, hx, e => by
    have ne : x ≠ s := fun z => by rw [z, g.d0] at e; cases e
    obtain ⟨a1, a2, a3⟩ := g.st x hx ne
    have ih := Span.walk h g w k (q x) a1 (by omega)
    have n1 := h.near w a1 hx a2
    have n2 := h.near w hx a1 (w.two _ _ a1 hx a2)
    omega
/-- as far there as back -/
theorem Span.back {n : Nat} {R : Rel} {r s : Nat} {p d q f : Nat → Nat} (h : Span n R r p d) (g : Span n R s q f) (w : Few n R) : d s = f r := by
  have a := Span.walk h g w _ r h.hr rfl
  have b := Span.walk g h w _ s g.hr rfl
  rw [h.d0] at a
  rw [g.d0] at b
  omega
/-- one root, one depth -/
theorem Span.same {n : Nat} {R : Rel} {r : Nat} {p d q f : Nat → Nat} (h : Span n R r p d) (g : Span n R r q f) (w : Few n R) {x : Nat} (hx : x < n) : d x = f x := by
  have a := Span.walk h g w _ x hx rfl
  have b := Span.walk g h w _ x hx rfl
  rw [h.d0] at a
  rw [g.d0] at b
  omega
/-- behind t, seen from s -/
inductive Sub (q : Nat → Nat) (s t : Nat) : Nat → Prop
  | root : Sub q s t t
  | step {x : Nat} : x ≠ s → Sub q s t (q x) → Sub q s t x
theorem Sub.not {q : Nat → Nat} {s t : Nat} (ne : s ≠ t) (h : Sub q s t s) : False := by
  cases h with
  | root => exact ne rfl
  | step a _ => exact a rfl
theorem Sub.iff {q : Nat → Nat} {s t x : Nat} (h1 : x ≠ s) (h2 : x ≠ t) : Sub q s t x ↔ Sub q s t (q x) := by
  constructor
  · intro h
    cases h with
    | root => exact absurd rfl h2
    | step _ h => exact h
  · exact Sub.step h1
open Classical in
noncomputable def flip (q f : Nat → Nat) (s t : Nat) : Nat → Nat := fun x => if Sub q s t x then f x - 1 else f x + 1
theorem Span.flip {n : Nat} {R : Rel} {s t : Nat} {q f : Nat → Nat} (h : Span n R s q f) (w : Few n R) (ht : t < n) (e : R s t = true) : Span n R t (fun x => if x = s then t else q x) (flip q f s t) ∧ t ≠ s ∧ ∀ x, x < n → Sub q s t x → 1 ≤ f x := by
  have ne : s ≠ t := w.ir s t h.hr ht e
  have qt : q t = s := by
    rcases h.links w s t h.hr ht e with ⟨a, _⟩ | ⟨_, b⟩
    · exact absurd rfl a
    · exact b
  have ft : f t = 1 := by
    obtain ⟨_, _, c⟩ := h.st t ht ne.symm
    rw [qt, h.d0] at c
    exact c
  have pos : ∀ x, x < n → Sub q s t x → 1 ≤ f x := fun x hx sx => by
    by_cases z : x = s
    · rw [z] at sx
      exact (sx.not ne).elim
    · obtain ⟨_, _, c⟩ := h.st x hx z
      omega
  refine ⟨⟨ht, ?_, fun x hx nt => ?_⟩, ne.symm, pos⟩
  · unfold TM.flip
    rw [if_pos Sub.root, ft]
  · by_cases z : x = s
    · subst z
      rw [if_pos rfl]
      refine ⟨ht, w.two _ _ h.hr ht e, ?_⟩
      unfold TM.flip
      rw [if_neg fun k => k.not ne, if_pos Sub.root, h.d0, ft]
    · rw [if_neg z]
      obtain ⟨a1, a2, a3⟩ := h.st x hx z
      refine ⟨a1, a2, ?_⟩
      unfold TM.flip
      by_cases k : Sub q s t x
      · have k2 := (Sub.iff z nt).mp k
        rw [if_pos k, if_pos k2]
        have := pos _ a1 k2
        omega
      · rw [if_neg k, if_neg fun k2 => k ((Sub.iff z nt).mpr k2)]
        omega
/-- nearer to s than to t: not behind t -/
theorem Span.side {n : Nat} {R : Rel} {s t : Nat} {q f q2 f2 : Nat → Nat} (h : Span n R s q f) (g : Span n R t q2 f2) (w : Few n R) (ht : t < n) (e : R s t = true) {x : Nat} (hx : x < n) : f x < f2 x ↔ ¬ Sub q s t x := by
  obtain ⟨k, _, pos⟩ := h.flip w ht e
  rw [← k.same g w hx]
  unfold TM.flip
  by_cases z : Sub q s t x
  · have := pos x hx z
    rw [if_pos z]
    exact ⟨fun a => by omega, fun a => absurd z a⟩
  · rw [if_neg z]
    exact ⟨fun _ => z, fun _ => by omega⟩
/-- reached from s without t: not behind t -/
theorem Span.reach {n : Nat} {R : Rel} {s t : Nat} {q f : Nat → Nat} {A : List Int} (h : Span n R s q f) (w : Few n R) (ht : t < n) (e : R s t = true) (hA : ∀ x : Nat, x < n → ((x : Int) ∈ A ↔ x ≠ t)) {x : Nat} (hx : x < n) : Rch n R [(s : Int)] A x ↔ ¬ Sub q s t x := by
  have ne : s ≠ t := w.ir s t h.hr ht e
  constructor
  · intro r
    refine Rch.least (D := fun x => x < n → ¬ Sub q s t x) (fun z hz a _ _ => ?_) (fun a b ha ih hb r m _ => ?_) r hx
    · have a : (z : Int) = (s : Int) := List.mem_singleton.mp a
      have a : z = s := by omega
      rw [a]
      exact fun k => k.not ne
    · have nb := (hA b hb).mp m
      have ia := ih ha
      intro k
      rcases h.links w a b ha hb r with ⟨p1, p2⟩ | ⟨p1, p2⟩
      · rw [← p2] at k
        exact ia (Sub.step p1 k)
      · have k2 := (Sub.iff p1 nb).mp k
        rw [p2] at k2
        exact ia k2
  · have go : ∀ (m x : Nat), x < n → f x = m → ¬ Sub q s t x → Rch n R [(s : Int)] A x := fun m => by
      induction m with
      | zero =>
        intro x hx e k
        rw [h.zero hx e]
        exact .start h.hr (List.mem_singleton.mpr rfl) ((hA s h.hr).mpr ne)
      | succ m ih =>
        intro x hx e k
        have nx : x ≠ s := fun z => by rw [z, h.d0] at e; cases e
        have nt : x ≠ t := fun z => k (z ▸ Sub.root)
        obtain ⟨a1, a2, a3⟩ := h.st x hx nx
        exact .step (ih (q x) a1 (by omega) fun z => k (Sub.step nx z)) hx a2 ((hA x hx).mpr nt)
    exact go _ x hx rfl
end TM

end
section
set_option Elab.async false
set_option linter.all false
set_option maxRecDepth 100000
set_option maxHeartbeats 4000000
namespace K02
open PySem L2 Kit KR KX KI RM
local macro_rules | `(tactic| fail "om") => `(tactic| first | omega | (simp only [List.length_map, List.length_append, List.length_cons, List.length_nil]; omega) | (simp only [List.length_map, List.length_append, List.length_cons, List.length_nil] at *; omega) | assumption | decide | (simp only [List.length_take, List.length_drop]; omega) | (rw [every_len]; omega) | fail "no om")
local macro_rules | `(tactic| fail "nz") => `(tactic| first | decide | omega | fail "no nz")
local macro_rules | `(tactic| fail "dv") => `(tactic| exact ⟨by first | decide | omega, by first | decide | omega⟩)
local macro_rules | `(tactic| fail "mul") => `(tactic| first | exact .inr ⟨by decide, by decide⟩ | exact .inl ⟨by decide, by decide⟩ | exact mulF (by decide) (by decide) | exact .inl ⟨by omega, by omega⟩ | exact .inr ⟨by omega, by omega⟩ | fail "no mul")
local macro_rules | `(tactic| fail "sz") => `(tactic| first | assumption | exact Nat.zero_le _ | (show 1 ≤ sizeLine; decide) | (show 2 ≤ sizeLine; decide) | (show 3 ≤ sizeLine; decide) | (show 4 ≤ sizeLine; decide) | (show 5 ≤ sizeLine; decide) | exact Evl.sz_of (by omega) | (refine Evl.sz_of ?_; simp only [List.length_append, List.length_map, List.length_cons, List.length_nil]; omega) | (refine Evl.sz_of ?_; simp only [List.length_append, List.length_map, List.length_cons, List.length_nil, List.length_take, List.length_drop]; omega) | fail "no sz")
local macro_rules | `(tactic| fail "szl") => `(tactic| first | exact Evl.sz_lt (by omega) | (refine Evl.sz_lt ?_; simp only [List.length_append, List.length_map, List.length_cons, List.length_nil]; omega) | fail "no szl")
local macro_rules | `(tactic| fail "ix") => `(tactic| first | assumption | exact ix0 | exact ix1 | exact ix2 | exact at_ref (by assumption) (by omega) | exact at_int (by assumption) (by omega) | exact at_drawn (by assumption) (by assumption) | exact at_lit (by first | assumption | omega) (by fail "om") | rfl | fail "no ix")
local macro_rules | `(tactic| fail "ixn") => `(tactic| first | rfl | assumption | fail "no ixn")
local macro_rules | `(tactic| fail "nb") => `(tactic| first | assumption | exact nb_tup | exact nb_nil | exact nb_ints | exact nb_refs | exact nb_ins | exact nb_dT | exact nb_frz | fail "no nb")
local macro_rules | `(tactic| fail "ne") => `(tactic| first | assumption | exact Ne.symm (by assumption) | exact ne_of_none (by assumption) (by assumption) | exact (ne_of_none (by assumption) (by assumption)).symm | exact ne_of (by assumption) (by assumption) (by intro q; cases q) | exact ne_of (by assumption) (by assumption) (by simp) | fail "no ne")
local macro_rules | `(tactic| fail "hp") => `(tactic| first | assumption | exact upd_same | exact lit0 | exact lit1 | exact lit3 | exact lit2 | (refine' Tk.get (by assumption) ?k1; (case k1 => fail "tk")) | (with_reducible refine' upd_new ?h1 ?n1; (case n1 => assumption); (case h1 => fail "hp")) | (refine' Same.get (by assumption) ?h1; (case h1 => fail "hp")) | (refine' Kp.get (by assumption) (by fail "bx") ?h1 ?d1; (case h1 => fail "hp"); (case d1 => fail "nb")) | (with_reducible refine' upd_oth ?h1 ?n1; (case n1 => fail "ne"); (case h1 => fail "hp")) | (with_reducible refine' upd_oth ?h1 ?n1; (case h1 => fail "hp"); (case n1 => fail "ne")) | (refine' Kq.get (by assumption) (by fail "bx") ?h1 ?d1 (by fail "ne"); (case h1 => fail "hp"); (case d1 => fail "nb")) | fail "no hp")
local macro_rules | `(tactic| fail "bx") => `(tactic| first | assumption | (with_reducible refine' BoxOk.new ?h1 ?n1; (case n1 => assumption); (case h1 => fail "bx")) | (refine' BoxOk.same (by assumption) ?h1; (case h1 => fail "bx")) | (with_reducible refine' BoxOk.mut ?h1 ?h2 ?n1; (case n1 => assumption); (case h2 => assumption); (case h1 => fail "bx")) | fail "no bx")
local macro_rules | `(tactic| fail "kp") => `(tactic| first | assumption | exact Kp.refl | (with_reducible refine' Kp.at ?h1; (case h1 => fail "kp")) | (with_reducible refine' Kp.new ?h1 ?n1; (case n1 => assumption); (case h1 => fail "kp")) | (with_reducible refine' Kp.mut ?h1 ?n1; (case n1 => assumption); (case h1 => fail "kp")) | (refine' Kp.tr (by assumption) ?h1; (case h1 => fail "kp")) | (refine' Kp.tr (Kp.of (by assumption)) ?h1; (case h1 => fail "kp")) | (refine' Kq.kp (by assumption) ?h1 (by assumption); (case h1 => fail "kp")) | fail "no kp")
local macro_rules | `(tactic| fail "ite") => `(tactic| first | refine iteT ?_ | refine iteF ?_)
local macro_rules | `(tactic| fail "tt") => `(tactic| first | rfl | exact decide_eq_true (by first | rfl | omega | assumption) | exact decide_eq_true (congrArg V.int (by first | rfl | omega)) | fail "no tt")
local macro_rules | `(tactic| fail "cv") => `(tactic| first | exact .ty _ | exact .own _)
local macro_rules | `(tactic| fail "tx") => `(tactic| first | exact .base (.int _) | exact .base (.bl _) | exact .base .non | exact .base (.lst (by fail "hp")) | exact .base (.tup (by fail "hp")) | fail "no tx")
local macro_rules | `(tactic| fail "dead") => `(tactic| (exfalso; first | omega | contradiction | simp_all))
local macro_rules | `(tactic| fail "dp") => `(tactic| first | exact .tup (SqT.of (by fail "hp")) (.cons (.int _) (.cons (.int _) .nil)) | exact .lst (SqL.of (by fail "hp")) (dpPrs (by fail "pr")) | exact .lst (SqL.of (by fail "hp")) (dpInts _) | exact .lst (SqL.of (by fail "hp")) .nil | fail "no dp")
local macro_rules | `(tactic| fail "shp") => `(tactic| first | assumption | exact prD_shaped _ | exact PySem.W.ke_shaped_ints _ | rfl | fail "no shp")
local macro_rules | `(tactic| fail "pr") => `(tactic| first | assumption | exact PrT.mono (by assumption) (by fail "tk") | fail "no pr")
local macro_rules | `(tactic| fail "tk") => `(tactic| first | assumption | exact Tk.refl | (with_reducible refine' Tk.new ?h1 ?n1; (case n1 => assumption); (case h1 => fail "tk")) | (refine' Tk.tr (Kp.tk (by assumption) (by fail "bx")) ?h1; (case h1 => fail "tk")) | (refine' Tk.tr (Same.tk (by assumption)) ?h1; (case h1 => fail "tk")) | (with_reducible refine' Tk.lst ?h1 ?n1; (case n1 => fail "hp"); (case h1 => fail "tk")) | fail "no tk")
local macro_rules | `(tactic| fail "lk") => `(tactic| first | exact netF_count _ _ | exact netF_links _ _ | exact netF_no _ _ (by decide +kernel) (by decide +kernel) | fail "no lk")
local macro_rules | `(tactic| fail "kt") => `(tactic| first | exact upd_same | assumption | fail "hp")
local macro_rules | `(tactic| fail "na") => `(tactic| first | assumption | (with_reducible refine' NetAt.new ?h1 ?n1; (case n1 => assumption); (case h1 => fail "na")) | (refine' NetAt.same (by assumption) ?h1; (case h1 => fail "na")) | (refine' NetAt.kp (by assumption) (by fail "bx") ?h1; (case h1 => fail "na")) | (with_reducible refine' NetAt.lst ?h1 ?n1; (case n1 => fail "hp"); (case h1 => fail "na")) | fail "no na")
local macro_rules | `(tactic| fail "mono") => `(tactic| first | exact fun _ _ _ _ h q => h _ _ q | exact fun _ _ _ _ h q => (let ⟨v, e, z⟩ := q; ⟨v, e, h _ _ z⟩) | exact fun _ _ _ _ h q => (let ⟨v, e, u, f, z⟩ := q; ⟨v, e, u, f, h _ _ z⟩) | fail "no mono")
local macro_rules | `(tactic| fail "sm") => `(tactic| first | assumption | exact Same.refl _ | (with_reducible refine' Same.new ?h1 ?n1; (case n1 => assumption); (case h1 => fail "sm")) | (refine' Same.tr (by assumption) ?h1; (case h1 => fail "sm")) | fail "no sm")
local macro_rules | `(tactic| fail "fld") => `(tactic| first | (show 0 < 1000; decide) | (show 1 < 1000; decide) | fail "no fld")
local macro_rules | `(tactic| fail "kq") => `(tactic| first | assumption | exact Kq.refl | (with_reducible refine' Kq.at ?h1; (case h1 => fail "kq")) | (with_reducible refine' Kq.new ?h1 ?n1; (case n1 => assumption); (case h1 => fail "kq")) | (refine' Kq.trans ?h1 (by assumption); (case h1 => fail "kq")) | (refine' Kq.trans ?h1 (Kq.of (by assumption)); (case h1 => fail "kq")) | (refine' Kq.trans ?h1 (Kq.ofS (by assumption)); (case h1 => fail "kq")) | fail "no kq")
local macro_rules | `(tactic| fail "mo") => `(tactic| first | assumption | exact MemOk.take (by assumption) _ | exact MemOk.drop (by assumption) _ | exact every_ok _ | fail "no mo")

section
variable {P : Program} {w : World} {K : PySem.W.Frag} {mg : Str → Option Value} {base : Heap} {CN CI CU CL CT CS Pt : Addr} {mc mu : Value}

theorem val_new {kvs : List (Key × V)} {k : Key} {v : V} (h : valV kvs k = none) (j : Key) : valV (putK kvs k v) j = if j = k then some v else valV kvs j := by
  have na : (kvs.any fun kv => decide (kv.1 = k)) = false := by
    rw [Bool.eq_false_iff]
    intro z
    obtain ⟨kv, m, e⟩ := List.any_eq_true.mp z
    unfold valV at h
    rw [Option.map_eq_none_iff] at h
    have := List.find?_eq_none.mp h kv m
    exact this e
  have e : putK kvs k v = kvs ++ [(k, v)] := by
    unfold putK
    rw [na]
    rfl
  rw [e]
  unfold valV
  rw [List.find?_append]
  by_cases q : j = k
  · subst q
    rw [if_pos rfl]
    unfold valV at h
    rw [Option.map_eq_none_iff] at h
    rw [h]
    show ([((j : Key), v)].find? fun kv => decide (kv.1 = j)).map (·.2) = some v
    rw [List.find?_cons_of_pos (by exact decide_eq_true rfl)]
    rfl
  · rw [if_neg q]
    have n1 : [((k : Key), v)].find? (fun kv => decide (kv.1 = j)) = none := by
      rw [List.find?_cons_of_neg (by rw [decide_eq_false (fun z : k = j => q z.symm)]; exact Bool.false_ne_true)]
      rfl
    rw [n1, Option.or_none]
/-- the next on the way to r, as a dict tells it -/
def nxt (r : Nat) (p : Nat → Nat) (x : Nat) : Nat := if x = r then r else p x
def Tow (kvs : List (Key × V)) (D : Nat → Bool) (r : Nat) (p : Nat → Nat) : Prop := ∀ x : Nat, valV kvs (.inl (x : Int)) = if D x = true then some (V.int (nxt r p x : Int)) else none
theorem Tow.put {kvs : List (Key × V)} {D : Nat → Bool} {r x y : Nat} {p : Nat → Nat} (h : Tow kvs D r p) (ny : D y = false) (nr : y ≠ r) : Tow (putK kvs (.inl (y : Int)) (V.int (x : Int))) (on D y) r (TM.put p y x) := fun z => by
  rw [val_new (by rw [h y, ny]; rfl)]
  unfold on
  by_cases e : z = y
  · subst e
    rw [if_pos rfl, decide_eq_true rfl, Bool.or_true, if_pos rfl]
    unfold nxt TM.put
    rw [if_neg nr, if_pos rfl]
  · have ne : ¬ ((.inl (z : Int) : Key) = .inl (y : Int)) := fun q => e (by have := Sum.inl.inj q; omega)
    rw [if_neg ne, decide_eq_false e, Bool.or_false, h z]
    unfold nxt TM.put
    rw [if_neg e]
def spSteps (CN : Addr) : Sp := fun vs H Q _ => ∃ (a : Addr) (n r : Nat) (R : Rel), vs = [.ref a, .int (r : Int)] ∧ NetAt CN H a n R ∧ r < n ∧ (∀ y, y < n → Rch n R [(r : Int)] (every n) y) ∧
  ∀ (p : Addr) (kvs : List (Key × V)) (pf df : Nat → Nat) (H' : Hp), TM.Span n R r pf df → H p = none → Same H H' → H' p = some (.dK kvs) → (∀ x, x < n → valV kvs (.inl (x : Int)) = some (V.int (nxt r pf x : Int))) → Q (.ref p) H'
abbrev sSteps : Stmt := top 21
theorem scSteps : FnScope ["net", "last", "toward", "waiting", "replica", "neighbour"] ["net", "last"] (defScope sSteps) := ⟨rfl, rfl, rfl, by decide +kernel, rfl, by decide +kernel, by decide +kernel⟩
theorem ok_Steps (D : Df K mg "steps_toward" sSteps ["net", "last"]) (T : NTx K mg CN mc mu) (Nreaders : MetX P w K mg base 5 CN "readers" (spReaders CN CU)) : CalX P w K mg base 6 "steps_toward" (spSteps CN) := by
  obtain ⟨f, fd, F, hm, hb⟩ := D
  refine ⟨f, fd, ["net", "last"], F.okN scSteps (fun vs H Q E h => ?_) (fun cdv A outer s H vs Q E hr h => ?_), hm, F.kp, hb⟩
  · obtain ⟨a, n, r, R, rfl, na, hr_, str, k⟩ := h
    rfl
  · obtain ⟨a, n, r, R, rfl, na, hr_, str, k⟩ := h
    have na2 := na
    obtain ⟨⟨dx, d, ha, hd⟩, b1, b2, ir⟩ := na2
    refine ⟨_, (pss_cons (ps_set (i := 2) scSteps.nd rfl (Or.inl rfl) (pe_disp (pps_cons (pv 1) (pv 1) pps_nil) rfl rfl (by simp) (by decide)))
      (pss_cons (ps_set (i := 3) scSteps.nd rfl (Or.inl rfl) (pe_lst (pa_cons (pv 1) pa_nil)))
      (pss_cons (ps_while (passes_of rfl) (pt_truth (pv 3) (by intro _; rfl))
        (pss_cons (ps_set (i := 4) scSteps.nd rfl (Or.inl rfl) (pe_bm0 PySem.F.plainAttrs_list PySem.F.slot_list_pop PySem.F.type_list_pop mt_popL (pv 3)))
        (pss_one (ps_for (passes_of rfl) rfl (pi_list (pe_mx Nreaders hr (by decide) (L2N.passes_call (L2N.takes_of rfl rfl rfl rfl) fun _ _ _ _ h => h) (pv 0) (pa_cons (pv 4) pa_nil))) (pg_name (i := 5) scSteps.nd rfl (Or.inl rfl))
          (pss_one (ps_if (pt_cmp (pc_dnotin (hu1 hr) (pv 5) (pv 2)) rfl)
            (pss_cons (ps_asg (pv 4) (pg_sub (pv 2) (pv 5) (set_dict (hu1 hr))))
            (pss_one (ps_expr (pe_bm PySem.F.plainAttrs_list PySem.F.slot_list_append PySem.F.type_list_append mt_appendI (pv 3) (pa_cons (pv 5) pa_nil)))))
            pss_nil))))))
      (pss_one (ps_ret (pv 2)))))), ?_⟩
    -- toward = {last: last}
    refine fun D1 nD1 => ⟨_, rfl, _, rfl, upd_same, [(.inl (r : Int), V.int (r : Int))], rfl, (show 1 ≤ 15 by decide), ?_⟩
    -- waiting = [last]
    refine ⟨_, rfl, (by fail "sz"), fun p1 np1 => ?_⟩
    obtain ⟨D2, eD2⟩ : ∃ p, p = p1 := ⟨_, rfl⟩
    subst eD2
    have ndd : D2 ≠ D1 := (ne_of_none (upd_same (H := upd H D1 (.dK [])) (a := D1) (o := .dK (mergeK [] [(.inl (r : Int), V.int (r : Int))]))) np1).symm
    have nD2 : H D2 = none := by rw [upd_ne ndd, upd_ne ndd] at np1; exact np1
    have sm0 : Same H (upd (upd (upd H D1 (.dK [])) D1 (.dK (mergeK [] [(.inl (r : Int), V.int (r : Int))]))) D2 (.lst [V.int (r : Int)])) := Same.mut (Same.mut (Same.mut (Same.refl H) nD1) nD1) nD2
    have hm : (upd (upd (upd H D1 (.dK [])) D1 (.dK (mergeK [] [(.inl (r : Int), V.int (r : Int))]))) D2 (.lst [V.int (r : Int)])) D1 = some (.dK [(.inl (r : Int), V.int (r : Int))]) := by rw [upd_ne ndd.symm, upd_same]; rfl
    have dI : ∀ x : Nat, decide (x = r) = true ↔ x = r := fun x => decide_eq_true_iff
    have rE : (r : Int) ∈ every n := mem_every.mpr ⟨by omega, by omega⟩
    have sr0 : Srch n R [(r : Int)] (every n) (fun x => decide (x = r)) [(r : Int)] none := ⟨fun x hx d => by rw [(dI x).mp d]; exact .start hr_ (List.mem_singleton.mpr rfl) rE, fun x hx m _ => (dI x).mpr (by have := List.mem_singleton.mp m; omega), fun z hz => ⟨r, List.mem_singleton.mp hz, hr_, (dI r).mpr rfl⟩, fun x hx d nw => absurd (by rw [(dI x).mp d]; exact List.mem_singleton.mpr rfl) nw, fun _ z => nomatch z⟩
    have gr0 : TM.Grow n R r (fun x => decide (x = r)) (fun _ => 0) (fun _ => 0) := TM.Grow.init hr_ dI
    have tw0 : Tow [(.inl (r : Int), V.int (r : Int))] (fun x => decide (x = r)) r (fun _ => 0) := fun x => by
      by_cases e : x = r
      · subst e
        have q : valV [((.inl (x : Int) : Key), V.int (x : Int))] (.inl (x : Int)) = some (V.int (x : Int)) := by
          unfold valV
          rw [List.find?_cons_of_pos (by exact decide_eq_true rfl)]
          rfl
        rw [q]
        show _ = if decide (x = x) = true then _ else _
        rw [decide_eq_true rfl, if_pos rfl]
        unfold nxt
        rw [if_pos rfl]
      · have ne : ¬ ((.inl (r : Int) : Key) = .inl (x : Int)) := fun q => e (by have := Sum.inl.inj q; omega)
        show _ = if decide (x = r) = true then _ else _
        rw [decide_eq_false e]
        unfold valV
        rw [List.find?_cons_of_neg (by rw [decide_eq_false ne]; exact Bool.false_ne_true)]
        rfl
    have um0 : unm n (fun x => decide (x = r)) + 1 = n := by
      have q := unm_on (n := n) (y := r) (D := fun _ => false) hr_ rfl
      have e0 : unm n (fun _ => false) = n := by
        unfold unm
        have fe : (List.range n).filter (fun x => !(fun (_ : Nat) => false) x) = List.range n := List.filter_eq_self.mpr fun _ _ => rfl
        rw [fe, List.length_range]
      have e1 : unm n (on (fun _ => false) r) = unm n (fun x => decide (x = r)) := by
        congr 1
      rw [e0, e1] at q
      exact q
    -- while waiting:
    refine ⟨fun m σ' Hw => (∃ (v u1 : Option V) (D : Nat → Bool) (pf df : Nat → Nat) (kvs : List (Key × V)) (us : List Int), σ' = [some (.ref a), some (.int (r : Int)), some (.ref D1), some (.ref D2), v, u1] ∧ Same H Hw ∧ Hw D1 = some (.dK kvs) ∧ Hw D2 = some (.lst (us.map V.int)) ∧ Srch n R [(r : Int)] (every n) D us none ∧ TM.Grow n R r D pf df ∧ Tow kvs D r pf ∧ kvs.length + unm n D ≤ n ∧ 2 * unm n D + us.length = m ∧ m ≤ 72), ⟨_, _, _, _, _, _, _, _, rfl, sm0, hm, upd_same, sr0, gr0, tw0, by show 1 + _ ≤ n; omega, rfl, by show 2 * _ + 1 ≤ 72; omega⟩, fun m σ Hw z => ?_⟩
    obtain ⟨v3, u1, D, pf, df, kvs, us, rfl, smw, hw1, hw2, sr, gr, tw, lk, em, lm⟩ := z
    refine ⟨_, rfl, _, .inl ⟨_, SqL.of (by fail "hp"), rfl⟩, ?_⟩
    refine ifB (fun g2 => ?_) (fun g2 => ?_)
    · refine ⟨fun σ' H' => ∃ m', m' < m ∧ (∃ (v u1 : Option V) (D : Nat → Bool) (pf df : Nat → Nat) (kvs : List (Key × V)) (us : List Int), σ' = [some (.ref a), some (.int (r : Int)), some (.ref D1), some (.ref D2), v, u1] ∧ Same H H' ∧ H' D1 = some (.dK kvs) ∧ H' D2 = some (.lst (us.map V.int)) ∧ Srch n R [(r : Int)] (every n) D us none ∧ TM.Grow n R r D pf df ∧ Tow kvs D r pf ∧ kvs.length + unm n D ≤ n ∧ 2 * unm n D + us.length = m' ∧ m' ≤ 72), fun _ _ z => z, ?_⟩
      obtain ⟨vs, z0, rfl⟩ : ∃ vs z0, us = vs ++ [z0] := by
        have ne : us ≠ [] := fun z => by rw [z] at g2; cases g2
        exact ⟨us.dropLast, us.getLast ne, (List.dropLast_concat_getLast ne).symm⟩
      obtain ⟨x, rfl, hx, sr2⟩ := sr.pop
      have hwl : vs.length + 1 + 2 * unm n D = m := by rw [← em, List.length_append]; show _ = _ + (vs.length + 1); omega
      have smp := Same.mut (o := .lst (vs.map V.int)) smw nD2
      have hap := smp _ _ ha
      -- replica = waiting.pop()
      refine ⟨_, rfl, .inl ⟨rfl, _, SqL.of (by fail "hp")⟩, _, _, _, rfl, rfl, (by fail "hp"), ?_⟩
      have hx1 : (upd Hw D2 (.lst (vs.map V.int))) D1 = some (.dK kvs) := by rw [upd_ne ndd.symm]; exact hw1
      have hx2 : (upd Hw D2 (.lst (vs.map V.int))) D2 = some (.lst (vs.map V.int)) := upd_same
      have nap : NetAt CN (upd Hw D2 (.lst (vs.map V.int))) a n R := NetAt.same smp na
      -- for neighbour in net.readers(replica):
      refine ⟨_, rfl, _, _, _, rfl, (by fail "hp"), (by fail "lk"), _, rfl, _, _, _, _, rfl, (by fail "na"), fun gd3 p3 H3 np3 sm3 hp3 => ⟨_, rfl, ⟨_, SqL.of (by fail "hp")⟩, for_list (K := K) (a := p3) (xs := (rowI R x n).map V.int) (fun j σ Hj => ∃ (u2 : Option V) (Dj : Nat → Bool) (pj dj : Nat → Nat) (kj : List (Key × V)) (vj : List Int), σ = [some (.ref a), some (.int (r : Int)), some (.ref D1), some (.ref D2), some (.int (x : Int)), u2] ∧ Same H Hj ∧ Hj D1 = some (.dK kj) ∧ Hj D2 = some (.lst (vj.map V.int)) ∧ Hj p3 = some (.lst ((rowI R x n).map V.int)) ∧ Srch n R [(r : Int)] (every n) Dj vj (some (x, (rowI R x n).take j)) ∧ TM.Grow n R r Dj pj dj ∧ Tow kj Dj r pj ∧ kj.length + unm n Dj ≤ n ∧ Dj x = true ∧ 2 * unm n Dj + vj.length < m) ⟨_, D, pf, df, kvs, vs, rfl, smp.trans sm3, sm3 _ _ hx1, sm3 _ _ hx2, hp3, sr2, gr, tw, lk, (sr2.cu _ rfl).2.1, by omega⟩ (fun j σ Hj _ z => by obtain ⟨_, _, _, _, _, _, _, _, _, _, h, _⟩ := z; exact SqL.of h) ?_ ?_⟩, fun z => absurd ⟨by omega, by omega⟩ z⟩
      · rintro j y0 σ Hj hy0 ⟨u2, Dj, pj, dj, kj, vj, rfl, smj, hj1, hj2, hj4, srj, grj, twj, lkj, dxj, lj⟩
        obtain ⟨y1, ey, rfl⟩ := item_of hy0
        obtain ⟨y, hy, ry, rfl⟩ := of_rowI (List.mem_of_getElem? ey)
        have tk := take_at ey
        have n32 : p3 ≠ D2 := (ne_of_none hx2 np3).symm
        have n31 : p3 ≠ D1 := (ne_of_none hx1 np3).symm
        have tyj := twj y
        -- if neighbour not in toward:
        refine ⟨_, rfl, _, rfl, _, _, rfl, .inl ⟨kj, .inl (y : Int), .inl hj1, rfl, rfl⟩, _, rfl, ?_⟩
        refine nifB (fun g4 => ?_) (fun g4 => ?_)
        · -- toward[neighbour] = replica
          refine ⟨_, rfl, _, rfl, _, rfl, _, _, rfl, .inl ⟨kj, .inl (y : Int), hj1, rfl, by have := Evl.sz_lt (n := kj.length) (by omega); exact this, rfl⟩, ?_⟩
          -- waiting.append(neighbour)
          refine ⟨_, rfl, .inl ⟨rfl, _, SqL.of (by fail "hp")⟩, _, rfl, _, _, _, rfl, rfl, (by fail "hp"), (by fail "szl"), ?_⟩
          have fr : Dj y = false := by
            cases q : Dj y
            · rfl
            · rw [q] at tyj
              rw [tyj] at g4
              cases g4
          have nr : y ≠ r := fun z => by rw [z, grj.dr] at fr; cases fr
          have um := unm_on hy fr
          have mm : (y : Int) ∈ every n := mem_every.mpr ⟨by omega, by omega⟩
          have lp := length_putK kj (.inl (y : Int)) (V.int (x : Int))
          refine ⟨_, on Dj y, TM.put pj y x, TM.put dj y (dj x + 1), putK kj (.inl (y : Int)) (V.int (x : Int)), vj ++ [(y : Int)], rfl, Same.mut (Same.mut smj nD1) nD2, ?_, upd_same, ?_, ?_, grj.mark hx dxj fr ry, twj.put fr nr, by omega, ?_, ?_⟩
          · rw [upd_ne ndd.symm]; exact upd_same
          · rw [upd_ne n32, upd_ne n31]; exact hj4
          · rw [tk]; exact srj.mark hy ry mm
          · unfold on; rw [dxj, Bool.true_or]
          · rw [List.length_append]; show _ + (_ + 1) < _; omega
        · refine ⟨_, Dj, pj, dj, kj, vj, rfl, smj, hj1, hj2, hj4, ?_, grj, twj, lkj, dxj, lj⟩
          rw [tk]
          refine srj.pass fun _ => ?_
          cases q : Dj y
          · rw [q] at tyj
            rw [tyj] at g4
            cases g4
          · rfl
      · rintro σ Hj ⟨u2, Dj, pj, dj, kj, vj, rfl, smj, hj1, hj2, hj4, srj, grj, twj, lkj, dxj, lj⟩
        exact ⟨_, by show 2 * unm n Dj + vj.length < m; omega, _, _, Dj, pj, dj, kj, vj, rfl, smj, hj1, hj2, srj.end (fun y hy r => by rw [List.length_map, List.take_length]; exact to_rowI hy r), grj, twj, lkj, rfl, by omega⟩
    · obtain rfl : us = [] := by
        cases us with
        | nil => rfl
        | cons _ _ => cases g2
      have hp := sr.done
      have all : ∀ x, x < n → D x = true := fun x hx => by rw [hp x hx]; exact rchB_iff.mpr (str x hx)
      -- return toward
      refine ⟨_, rfl, ?_⟩
      exact k D1 kvs pf df Hw (gr.span all) nD1 smw hw1 (fun x hx => by rw [tw x, if_pos (all x hx)])
end
end K02

end
section
set_option Elab.async false
set_option linter.all false
set_option maxRecDepth 100000
set_option maxHeartbeats 4000000
namespace K02
open PySem L2 Kit KR KX KI RM
local macro_rules | `(tactic| fail "om") => `(tactic| first | omega | (simp only [List.length_map, List.length_append, List.length_cons, List.length_nil]; omega) | (simp only [List.length_map, List.length_append, List.length_cons, List.length_nil] at *; omega) | assumption | decide | (simp only [List.length_take, List.length_drop]; omega) | (rw [every_len]; omega) | fail "no om")
local macro_rules | `(tactic| fail "nz") => `(tactic| first | decide | omega | fail "no nz")
local macro_rules | `(tactic| fail "dv") => `(tactic| exact ⟨by first | decide | omega, by first | decide | omega⟩)
local macro_rules | `(tactic| fail "mul") => `(tactic| first | exact .inr ⟨by decide, by decide⟩ | exact .inl ⟨by decide, by decide⟩ | exact mulF (by decide) (by decide) | exact .inl ⟨by omega, by omega⟩ | exact .inr ⟨by omega, by omega⟩ | fail "no mul")
local macro_rules | `(tactic| fail "sz") => `(tactic| first | assumption | exact Nat.zero_le _ | (show 1 ≤ sizeLine; decide) | (show 2 ≤ sizeLine; decide) | (show 3 ≤ sizeLine; decide) | (show 4 ≤ sizeLine; decide) | (show 5 ≤ sizeLine; decide) | exact Evl.sz_of (by omega) | (refine Evl.sz_of ?_; simp only [List.length_append, List.length_map, List.length_cons, List.length_nil]; omega) | (refine Evl.sz_of ?_; simp only [List.length_append, List.length_map, List.length_cons, List.length_nil, List.length_take, List.length_drop]; omega) | fail "no sz")
local macro_rules | `(tactic| fail "szl") => `(tactic| first | exact Evl.sz_lt (by omega) | (refine Evl.sz_lt ?_; simp only [List.length_append, List.length_map, List.length_cons, List.length_nil]; omega) | fail "no szl")
local macro_rules | `(tactic| fail "ix") => `(tactic| first | assumption | exact ix0 | exact ix1 | exact ix2 | exact at_ref (by assumption) (by omega) | exact at_int (by assumption) (by omega) | exact at_drawn (by assumption) (by assumption) | exact at_lit (by first | assumption | omega) (by fail "om") | rfl | fail "no ix")
local macro_rules | `(tactic| fail "ixn") => `(tactic| first | rfl | assumption | fail "no ixn")
local macro_rules | `(tactic| fail "nb") => `(tactic| first | assumption | exact nb_tup | exact nb_nil | exact nb_ints | exact nb_refs | exact nb_ins | exact nb_dT | exact nb_frz | fail "no nb")
local macro_rules | `(tactic| fail "ne") => `(tactic| first | assumption | exact Ne.symm (by assumption) | exact ne_of_none (by assumption) (by assumption) | exact (ne_of_none (by assumption) (by assumption)).symm | exact ne_of (by assumption) (by assumption) (by intro q; cases q) | exact ne_of (by assumption) (by assumption) (by simp) | fail "no ne")
local macro_rules | `(tactic| fail "hp") => `(tactic| first | assumption | exact upd_same | exact lit0 | exact lit1 | exact lit3 | exact lit2 | (refine' Tk.get (by assumption) ?k1; (case k1 => fail "tk")) | (with_reducible refine' upd_new ?h1 ?n1; (case n1 => assumption); (case h1 => fail "hp")) | (refine' Same.get (by assumption) ?h1; (case h1 => fail "hp")) | (refine' Kp.get (by assumption) (by fail "bx") ?h1 ?d1; (case h1 => fail "hp"); (case d1 => fail "nb")) | (with_reducible refine' upd_oth ?h1 ?n1; (case n1 => fail "ne"); (case h1 => fail "hp")) | (with_reducible refine' upd_oth ?h1 ?n1; (case h1 => fail "hp"); (case n1 => fail "ne")) | (refine' Kq.get (by assumption) (by fail "bx") ?h1 ?d1 (by fail "ne"); (case h1 => fail "hp"); (case d1 => fail "nb")) | fail "no hp")
local macro_rules | `(tactic| fail "bx") => `(tactic| first | assumption | (with_reducible refine' BoxOk.new ?h1 ?n1; (case n1 => assumption); (case h1 => fail "bx")) | (refine' BoxOk.same (by assumption) ?h1; (case h1 => fail "bx")) | (with_reducible refine' BoxOk.mut ?h1 ?h2 ?n1; (case n1 => assumption); (case h2 => assumption); (case h1 => fail "bx")) | fail "no bx")
local macro_rules | `(tactic| fail "kp") => `(tactic| first | assumption | exact Kp.refl | (with_reducible refine' Kp.at ?h1; (case h1 => fail "kp")) | (with_reducible refine' Kp.new ?h1 ?n1; (case n1 => assumption); (case h1 => fail "kp")) | (with_reducible refine' Kp.mut ?h1 ?n1; (case n1 => assumption); (case h1 => fail "kp")) | (refine' Kp.tr (by assumption) ?h1; (case h1 => fail "kp")) | (refine' Kp.tr (Kp.of (by assumption)) ?h1; (case h1 => fail "kp")) | (refine' Kq.kp (by assumption) ?h1 (by assumption); (case h1 => fail "kp")) | fail "no kp")
local macro_rules | `(tactic| fail "ite") => `(tactic| first | refine iteT ?_ | refine iteF ?_)
local macro_rules | `(tactic| fail "tt") => `(tactic| first | rfl | exact decide_eq_true (by first | rfl | omega | assumption) | exact decide_eq_true (congrArg V.int (by first | rfl | omega)) | fail "no tt")
local macro_rules | `(tactic| fail "cv") => `(tactic| first | exact .ty _ | exact .own _)
local macro_rules | `(tactic| fail "tx") => `(tactic| first | exact .base (.int _) | exact .base (.bl _) | exact .base .non | exact .base (.lst (by fail "hp")) | exact .base (.tup (by fail "hp")) | fail "no tx")
local macro_rules | `(tactic| fail "dead") => `(tactic| (exfalso; first | omega | contradiction | simp_all))
local macro_rules | `(tactic| fail "dp") => `(tactic| first | exact .tup (SqT.of (by fail "hp")) (.cons (.int _) (.cons (.int _) .nil)) | exact .lst (SqL.of (by fail "hp")) (dpPrs (by fail "pr")) | exact .lst (SqL.of (by fail "hp")) (dpInts _) | exact .lst (SqL.of (by fail "hp")) .nil | fail "no dp")
local macro_rules | `(tactic| fail "shp") => `(tactic| first | assumption | exact prD_shaped _ | exact PySem.W.ke_shaped_ints _ | rfl | fail "no shp")
local macro_rules | `(tactic| fail "pr") => `(tactic| first | assumption | exact PrT.mono (by assumption) (by fail "tk") | fail "no pr")
local macro_rules | `(tactic| fail "tk") => `(tactic| first | assumption | exact Tk.refl | (with_reducible refine' Tk.new ?h1 ?n1; (case n1 => assumption); (case h1 => fail "tk")) | (refine' Tk.tr (Kp.tk (by assumption) (by fail "bx")) ?h1; (case h1 => fail "tk")) | (refine' Tk.tr (Same.tk (by assumption)) ?h1; (case h1 => fail "tk")) | (with_reducible refine' Tk.lst ?h1 ?n1; (case n1 => fail "hp"); (case h1 => fail "tk")) | fail "no tk")
local macro_rules | `(tactic| fail "lk") => `(tactic| first | exact netF_count _ _ | exact netF_links _ _ | exact netF_no _ _ (by decide +kernel) (by decide +kernel) | fail "no lk")
local macro_rules | `(tactic| fail "kt") => `(tactic| first | exact upd_same | assumption | fail "hp")
local macro_rules | `(tactic| fail "na") => `(tactic| first | assumption | (with_reducible refine' NetAt.new ?h1 ?n1; (case n1 => assumption); (case h1 => fail "na")) | (refine' NetAt.same (by assumption) ?h1; (case h1 => fail "na")) | (refine' NetAt.kp (by assumption) (by fail "bx") ?h1; (case h1 => fail "na")) | (with_reducible refine' NetAt.lst ?h1 ?n1; (case n1 => fail "hp"); (case h1 => fail "na")) | fail "no na")
local macro_rules | `(tactic| fail "mono") => `(tactic| first | exact fun _ _ _ _ h q => h _ _ q | exact fun _ _ _ _ h q => (let ⟨v, e, z⟩ := q; ⟨v, e, h _ _ z⟩) | exact fun _ _ _ _ h q => (let ⟨v, e, u, f, z⟩ := q; ⟨v, e, u, f, h _ _ z⟩) | fail "no mono")
local macro_rules | `(tactic| fail "sm") => `(tactic| first | assumption | exact Same.refl _ | (with_reducible refine' Same.new ?h1 ?n1; (case n1 => assumption); (case h1 => fail "sm")) | (refine' Same.tr (by assumption) ?h1; (case h1 => fail "sm")) | fail "no sm")
local macro_rules | `(tactic| fail "fld") => `(tactic| first | (show 0 < 1000; decide) | (show 1 < 1000; decide) | fail "no fld")
local macro_rules | `(tactic| fail "kq") => `(tactic| first | assumption | exact Kq.refl | (with_reducible refine' Kq.at ?h1; (case h1 => fail "kq")) | (with_reducible refine' Kq.new ?h1 ?n1; (case n1 => assumption); (case h1 => fail "kq")) | (refine' Kq.trans ?h1 (by assumption); (case h1 => fail "kq")) | (refine' Kq.trans ?h1 (Kq.of (by assumption)); (case h1 => fail "kq")) | (refine' Kq.trans ?h1 (Kq.ofS (by assumption)); (case h1 => fail "kq")) | fail "no kq")
local macro_rules | `(tactic| fail "mo") => `(tactic| first | assumption | exact MemOk.take (by assumption) _ | exact MemOk.drop (by assumption) _ | exact every_ok _ | fail "no mo")

section
variable {P : Program} {w : World} {K : PySem.W.Frag} {mg : Str → Option Value} {base : Heap} {CN CI CU CL CT CS Pt : Addr} {mc mu : Value}


theorem _root_.KX.ErrN.r {X : Cx} {C : Addr} (sb : PySem.W.subIn X.K (.ref C) (.type "BaseException") = some true) (ty : PySem.W.typeIn X.K (.ref C) = some (.type "type")) : Raises X (.ref C) := raises_own sb ty
/-- an own error without an __init__ -/
structure MkN (K : PySem.W.Frag) (mg : Str → Option Value) (x : Str) (C : Addr) : Prop where
  ei : PySem.W.excIn K C [.type "ValueError", .type "Exception", .type "BaseException", .type "object"] "ValueError.__new__" = true
  gC : mg x = some (.ref C)
  kC : PySem.W.keepIn K (.ref C) = true
  sb : PySem.W.subIn K (.ref C) (.type "BaseException") = some true
  ty : PySem.W.typeIn K (.ref C) = some (.type "type")
theorem pmk0 {X : Cx} {x : Str} {C : Addr} {p pos : Pos} (m : MkN X.K X.mg x C) (hg : Gl X x) (hdb : (x == ("__debug__" : Str)) = false := by decide) : L2N.PMk X (.Call (.Name x p) [] [] pos) (fun _ H Q => Q (.ref C) none H) :=
  pmk_own0 PySem.F.excBase_ValueError m.ei m.gC m.kC (raises_own m.sb m.ty) hg hdb
def RaisesT (CT Pt : Addr) (H : Hp) (E : XK) : Prop := ∀ H', Sp1 Pt H H' → GxR.TabG H' Pt → E (.ref CT) none H'
def RaisesV (CU Pt : Addr) (r : Int) (H : Hp) (E : XK) : Prop := ∀ d H', Sp1 Pt H H' → GxR.TabG H' Pt → H' d = some (.xd [("replica", .int r)]) → E (.ref CU) (some d) H'
def RaisesM (CL Pt : Addr) (s r : Int) (H : Hp) (E : XK) : Prop := ∀ d H', Sp1 Pt H H' → GxR.TabG H' Pt → H' d = some (.xd [("reader", .int r), ("source", .int s)]) → E (.ref CL) (some d) H'
theorem RaisesV.here {CU Pt : Addr} {r : Int} {H H1 : Hp} {E : XK} (k : RaisesV CU Pt r H E) (s : Sp1 Pt H H1) (t : GxR.TabG H1 Pt) : RaisesU CU r H1 E := fun d H' _ sm xd => k d H' (s.trans (Sp1.of sm)) (tabG_same sm t) xd
theorem RaisesM.here {CL Pt : Addr} {a r : Int} {H H1 : Hp} {E : XK} (k : RaisesM CL Pt a r H E) (s : Sp1 Pt H H1) (t : GxR.TabG H1 Pt) : RaisesL CL a r H1 E := fun d H' _ sm xd => k d H' (s.trans (Sp1.of sm)) (tabG_same sm t) xd
def spCheckTree (CN CT Pt : Addr) : Sp := fun vs H Q E => ∃ (a : Addr) (n : Nat) (R : Rel), vs = [.ref a] ∧ NetAt CN H a n R ∧ GxR.TabG H Pt ∧ (Tree n R → ∀ H', Sp1 Pt H H' → GxR.TabG H' Pt → Q .non H') ∧ (¬ Tree n R → RaisesT CT Pt H E)
def it (p : Nat → Nat) : Nat → Nat → Nat
  | 0, x => x
  | j + 1, x => p (it p j x)
/-- the way from x, i steps of it -/
def pth (p : Nat → Nat) (x i : Nat) : List Int := (List.range (i + 1)).map fun j => ((it p j x : Nat) : Int)
theorem pth_succ (p : Nat → Nat) (x i : Nat) : pth p x (i + 1) = pth p x i ++ [((it p (i + 1) x : Nat) : Int)] := by
  unfold pth
  rw [List.range_succ (n := i + 1), List.map_append]
  rfl
theorem pth_len (p : Nat → Nat) (x i : Nat) : (pth p x i).length = i + 1 := by unfold pth; rw [List.length_map, List.length_range]
theorem pth_at {p : Nat → Nat} {x i j : Nat} (h : j ≤ i) : (pth p x i)[j]? = some ((it p j x : Nat) : Int) := by
  unfold pth
  rw [List.getElem?_map, List.getElem?_range (by omega)]
  rfl
theorem at_last {p : Nat → Nat} {x i : Nat} : atI ((pth p x i).map V.int) (-1) = some (V.int ((it p i x : Nat) : Int)) := by
  unfold atI ixN
  rw [List.length_map, pth_len, if_neg (by omega), if_pos (by omega)]
  show ((pth p x i).map V.int)[((-1 : Int) + ((i + 1 : Nat) : Int)).toNat]? = _
  have e : ((-1 : Int) + ((i + 1 : Nat) : Int)).toNat = i := by omega
  rw [e, List.getElem?_map, pth_at (Nat.le_refl i)]
  rfl
theorem it_span {n r : Nat} {R : Rel} {p d : Nat → Nat} (h : TM.Span n R r p d) {x : Nat} (hx : x < n) : ∀ j, j ≤ d x → it p j x < n ∧ d (it p j x) + j = d x
  | 0, _ => ⟨hx, rfl⟩
  | j + 1, hj => by
    obtain ⟨a, b⟩ := it_span h hx j (by omega)
    have ne : it p j x ≠ r := fun z => by rw [z, h.d0] at b; omega
    obtain ⟨c, _, e⟩ := h.st _ a ne
    exact ⟨c, by show d (p (it p j x)) + (j + 1) = d x; omega⟩
def spTreePath (CN CU CT Pt : Addr) : Sp := fun vs H Q E => ∃ (a : Addr) (n : Nat) (R : Rel) (x y : Int), vs = [.ref a, .int x, .int y] ∧ NetAt CN H a n R ∧ GxR.TabG H Pt ∧
  (Tree n R → ∀ (fi la : Nat), x = (fi : Int) → y = (la : Int) → fi < n → la < n → ∀ (p : Addr) (pf df : Nat → Nat) (H' : Hp), TM.Span n R la pf df → Sp1 Pt H H' → GxR.TabG H' Pt → H p = none → H' p = some (.lst ((pth pf fi (df fi)).map V.int)) → Q (.ref p) H') ∧
  (¬ Tree n R → RaisesT CT Pt H E) ∧ (Tree n R → ¬ (0 ≤ x ∧ x < (n : Int)) → RaisesV CU Pt x H E) ∧ (Tree n R → (0 ≤ x ∧ x < (n : Int)) → ¬ (0 ≤ y ∧ y < (n : Int)) → RaisesV CU Pt y H E)
theorem sp1_free {P p : Addr} {H H1 : Hp} (s : Sp1 P H H1) (t : GxR.TabG H1 P) (h : H1 p = none) : H p = none := by
  cases e : H p with
  | none => rfl
  | some o =>
    have ne : p ≠ P := fun z => by
      obtain ⟨ps, q, _⟩ := t
      rw [z, q] at h
      cases h
    rw [s p o ne e] at h
    cases h
theorem span_le {n r : Nat} {R : Rel} {p d : Nat → Nat} (h : TM.Span n R r p d) {x : Nat} (hx : x < n) (l : n ≤ 24) : d x ≤ 24 := by
  rcases Nat.lt_or_ge (d x) n with q | q
  · omega
  · exfalso
    have nd : ((List.range (n + 1)).map fun j => it p j x).Nodup := by
      refine List.pairwise_map.mpr (List.Pairwise.imp_of_mem (fun {a b} ha hb (ne : a ≠ b) z => ?_) List.nodup_range)
      have ha := List.mem_range.mp ha
      have hb := List.mem_range.mp hb
      have ea := (it_span h hx a (by omega)).2
      have eb := (it_span h hx b (by omega)).2
      rw [z] at ea
      omega
    have le := TM.nodup_len _ (List.range n) nd fun z hz => by
      obtain ⟨j, hj, e⟩ := List.mem_map.mp hz
      have hj := List.mem_range.mp hj
      rw [← e]
      exact List.mem_range.mpr (it_span h hx j (by omega)).1
    rw [List.length_map, List.length_range, List.length_range] at le
    omega
abbrev sCheckTree : Stmt := top 19
theorem scCheckTree : FnScope ["net"] ["net"] (defScope sCheckTree) := ⟨rfl, rfl, rfl, by decide +kernel, rfl, by decide +kernel, by decide +kernel⟩
theorem ok_CheckTree (D : Df K mg "check_tree" sCheckTree ["net"]) (T : NTx K mg CN mc mu) (GIsTree : C8.Cal P w K mg base 11 "is_tree" (spIsTree CN Pt) []) (MNotTree : MkN K mg "NotTree" CT) : CalX P w K mg base 12 "check_tree" (spCheckTree CN CT Pt) := by
  obtain ⟨f, fd, F, hm, hb⟩ := D
  refine ⟨f, fd, ["net"], F.okN scCheckTree (fun vs H Q E h => ?_) (fun cdv A outer s H vs Q E hr h => ?_), hm, F.kp, hb⟩
  · obtain ⟨a, n, R, rfl, na, tg, kG, kB⟩ := h
    rfl
  · obtain ⟨a, n, R, rfl, na, tg, kG, kB⟩ := h
    refine ⟨_, (pss_one (ps_if (pt_not (pt_val (C8.pe_c GIsTree hr (by decide) (by rfl) (pa_cons (pv 0) pa_nil))))
        (pss_one (L2N.ps_raise rfl (L2N.takes_of rfl rfl rfl rfl) (pmk0 MNotTree (by rfl))))
        pss_nil)), ?_⟩
    -- if not is_tree(net):
    refine ⟨_, rfl, _, _, _, rfl, (by fail "na"), (by assumption), fun b1 H1 sp1 tp1 tl1 => ⟨_, rfl, ?_⟩⟩
    refine nifB (fun g2 => ?_) (fun g2 => ?_)
    · -- raise NotTree()
      exact kB (fun z => by rw [tl1.mpr z] at g2; cases g2) H1 sp1 tp1
    · exact kG (tl1.mp g2) H1 sp1 tp1
abbrev sTreePath : Stmt := top 20
theorem scTreePath : FnScope ["net", "first", "last", "toward", "path"] ["net", "first", "last"] (defScope sTreePath) := ⟨rfl, rfl, rfl, by decide +kernel, rfl, by decide +kernel, by decide +kernel⟩
theorem ok_TreePath (D : Df K mg "tree_path" sTreePath ["net", "first", "last"]) (T : NTx K mg CN mc mu) (GCheckTree : CalX P w K mg base 12 "check_tree" (spCheckTree CN CT Pt)) (GCheckReplica : CalX P w K mg base 3 "check_replica" (spCheckReplica CN CU)) (GSteps : CalX P w K mg base 6 "steps_toward" (spSteps CN)) : CalX P w K mg base 13 "tree_path" (spTreePath CN CU CT Pt) := by
  obtain ⟨f, fd, F, hm, hb⟩ := D
  refine ⟨f, fd, ["net", "first", "last"], F.okN scTreePath (fun vs H Q E h => ?_) (fun cdv A outer s H vs Q E hr h => ?_), hm, F.kp, hb⟩
  · obtain ⟨a, n, R, x, y, rfl, na, tg, kG, kT, kU, kV⟩ := h
    rfl
  · obtain ⟨a, n, R, x, y, rfl, na, tg, kG, kT, kU, kV⟩ := h
    have na2 := na
    obtain ⟨⟨dx, d, ha, hd⟩, b1, b2, ir⟩ := na2
    refine ⟨_, (pss_cons (ps_expr (pe_cX GCheckTree hr (by decide) (by rfl) (L2N.passes_call (L2N.takes_of rfl rfl rfl rfl) fun _ _ _ _ h => h) (pa_cons (pv 0) pa_nil)))
      (pss_cons (ps_expr (pe_cX GCheckReplica hr (by decide) (by rfl) (L2N.passes_call (L2N.takes_of rfl rfl rfl rfl) fun _ _ _ _ h => h) (pa_cons (pv 0) (pa_cons (pv 1) pa_nil))))
      (pss_cons (ps_expr (pe_cX GCheckReplica hr (by decide) (by rfl) (L2N.passes_call (L2N.takes_of rfl rfl rfl rfl) fun _ _ _ _ h => h) (pa_cons (pv 0) (pa_cons (pv 2) pa_nil))))
      (pss_cons (ps_set (i := 3) scTreePath.nd rfl (Or.inl rfl) (pe_cX GSteps hr (by decide) (by rfl) (L2N.passes_call (L2N.takes_of rfl rfl rfl rfl) fun _ _ _ _ h => h) (pa_cons (pv 0) (pa_cons (pv 2) pa_nil))))
      (pss_cons (ps_set (i := 4) scTreePath.nd rfl (Or.inl rfl) (pe_lst (pa_cons (pv 1) pa_nil)))
      (pss_cons (ps_while (passes_of rfl) (pt_cmpR op_ne (pe_ix ix_I (pv 4) (pe_un un_neg pe_int) (fun _ _ => rfl)) (pv 2) (nomark _))
        (pss_one (ps_expr (pe_bm PySem.F.plainAttrs_list PySem.F.slot_list_append PySem.F.type_list_append mt_appendI (pv 4) (pa_cons (pe_dget (hu1 hr) (pv 3) (pe_ix ix_I (pv 4) (pe_un un_neg pe_int) (fun _ _ => rfl)) (fun _ _ => rfl)) pa_nil)))))
      (pss_one (ps_ret (pv 4))))))))), ?_⟩
    -- check_tree(net)
    refine ⟨_, rfl, _, _, _, rfl, (by fail "na"), (by assumption), fun tr1 H1 sp1 tp1 => ?_, fun z => kT z⟩
    have na1 := Sp1.net sp1 tg na
    -- check_replica(net, first)
    refine ⟨_, rfl, _, rfl, _, _, _, _, rfl, (by fail "na"), fun gd2 H2 sm2 => ?_, (fun z => (kU tr1 z).here sp1 tp1)⟩
    -- check_replica(net, last)
    refine ⟨_, rfl, _, rfl, _, _, _, _, rfl, (by fail "na"), fun gd3 H3 sm3 => ?_, (fun z => (kV tr1 gd2 z).here (sp1.trans (Sp1.of sm2)) (tabG_same sm2 tp1))⟩
    obtain ⟨fi, rfl, hfi⟩ := toN gd2.1 gd2.2
    obtain ⟨la, rfl, hla⟩ := toN gd3.1 gd3.2
    have str : ∀ z, z < n → Rch n R [(la : Int)] (every n) z := fun z hz => tr1.2.2 la z hla hz
    -- toward = steps_toward(net, last)
    refine ⟨_, rfl, _, rfl, _, _, _, _, rfl, (by fail "na"), (by assumption), (by assumption), fun p4 kvs pf df H4 spn np4 sm4 hp4 tow => ?_⟩
    have sA : Sp1 Pt H H4 := sp1.trans (Sp1.of (sm2.trans (sm3.trans sm4)))
    have tA : GxR.TabG H4 Pt := tabG_same (sm2.trans (sm3.trans sm4)) tp1
    -- path = [first]
    refine ⟨_, rfl, (by fail "sz"), fun p5 np5 => ?_⟩
    obtain ⟨D, eD⟩ : ∃ q, q = p5 := ⟨_, rfl⟩
    subst eD
    have nDh : H D = none := sp1_free sA tA np5
    have hp5 := upd_new (o := .lst [V.int (fi : Int)]) hp4 np5
    have ne45 : p4 ≠ D := ne_of_none hp4 np5
    -- while path[-1] != last:
    refine ⟨fun m σ' Hw => ∃ i : Nat, σ' = [some (.ref a), some (.int (fi : Int)), some (.int (la : Int)), some (.ref p4), some (.ref D)] ∧ Same H4 Hw ∧ Hw D = some (.lst ((pth pf fi i).map V.int)) ∧ i ≤ df fi ∧ m + i = df fi, ⟨df fi, 0, rfl, Same.new (Same.refl _) np5, upd_same, Nat.zero_le _, rfl⟩, fun m σ Hw z => ?_⟩
    obtain ⟨i, rfl, smw, hw, li, em⟩ := z
    obtain ⟨ci, cd⟩ := it_span spn hfi i li
    have ixm := at_last (p := pf) (x := fi) (i := i)
    have dl : df fi ≤ 24 := span_le spn hfi b2
    refine ⟨_, rfl, _, rfl, _, _, _, _, rfl, rfl, (by fail "hp"), (by fail "ix"), _, rfl, rfl, _, rfl, ?_⟩
    refine ifNeI (fun g6 => ?_) (fun g6 => ?_)
    · refine ⟨fun σ' H' => ∃ m', m' < m ∧ ∃ i : Nat, σ' = [some (.ref a), some (.int (fi : Int)), some (.int (la : Int)), some (.ref p4), some (.ref D)] ∧ Same H4 H' ∧ H' D = some (.lst ((pth pf fi i).map V.int)) ∧ i ≤ df fi ∧ m' + i = df fi, fun _ _ z => z, ?_⟩
      have ne : it pf i fi ≠ la := fun z => g6 (by rw [z])
      have pos : i < df fi := by
        rcases Nat.lt_or_ge i (df fi) with q | q
        · exact q
        · exact absurd (spn.zero ci (by omega)) ne
      have lp := pth_len pf fi i
      have tv := tow _ ci
      have nv : nxt la pf (it pf i fi) = it pf (i + 1) fi := if_neg ne
      rw [nv] at tv
      have hw4 := smw _ _ hp4
      -- path.append(toward[path[-1]])
      refine ⟨_, rfl, .inl ⟨rfl, _, SqL.of (by fail "hp")⟩, _, rfl, _, rfl, _, rfl, _, _, _, _, rfl, rfl, (by fail "hp"), (by fail "ix"), _, _, rfl, .inl ⟨kvs, .inl ((it pf i fi : Nat) : Int), .inl hw4, rfl, tv.symm⟩, _, _, _, rfl, rfl, (by fail "hp"), (by fail "szl"), ?_⟩
      exact ⟨m - 1, by omega, i + 1, rfl, Same.mut smw np5, by rw [upd_same, pth_succ], by omega, by omega⟩
    · have z := spn.zero (x := it pf i fi) ci
      have e : i = df fi := by
        have := spn.d0
        have q : it pf i fi = la := by omega
        rw [q, this] at cd
        omega
      -- return path
      refine ⟨_, rfl, ?_⟩
      rw [e] at hw
      exact kG tr1 fi la rfl rfl hfi hla D pf df Hw spn (sA.trans (Sp1.of smw)) (tabG_same smw tA) nDh hw

end
end K02

end
section
set_option Elab.async false
set_option linter.all false
set_option maxRecDepth 100000
set_option maxHeartbeats 4000000
namespace K02
open PySem L2 Kit KR KX KI RM
local macro_rules | `(tactic| fail "om") => `(tactic| first | omega | (simp only [List.length_map, List.length_append, List.length_cons, List.length_nil]; omega) | (simp only [List.length_map, List.length_append, List.length_cons, List.length_nil] at *; omega) | assumption | decide | (simp only [List.length_take, List.length_drop]; omega) | (rw [every_len]; omega) | fail "no om")
local macro_rules | `(tactic| fail "nz") => `(tactic| first | decide | omega | fail "no nz")
local macro_rules | `(tactic| fail "dv") => `(tactic| exact ⟨by first | decide | omega, by first | decide | omega⟩)
local macro_rules | `(tactic| fail "mul") => `(tactic| first | exact .inr ⟨by decide, by decide⟩ | exact .inl ⟨by decide, by decide⟩ | exact mulF (by decide) (by decide) | exact .inl ⟨by omega, by omega⟩ | exact .inr ⟨by omega, by omega⟩ | fail "no mul")
local macro_rules | `(tactic| fail "sz") => `(tactic| first | assumption | exact Nat.zero_le _ | (show 1 ≤ sizeLine; decide) | (show 2 ≤ sizeLine; decide) | (show 3 ≤ sizeLine; decide) | (show 4 ≤ sizeLine; decide) | (show 5 ≤ sizeLine; decide) | exact Evl.sz_of (by omega) | (refine Evl.sz_of ?_; simp only [List.length_append, List.length_map, List.length_cons, List.length_nil]; omega) | (refine Evl.sz_of ?_; simp only [List.length_append, List.length_map, List.length_cons, List.length_nil, List.length_take, List.length_drop]; omega) | fail "no sz")
local macro_rules | `(tactic| fail "szl") => `(tactic| first | exact Evl.sz_lt (by omega) | (refine Evl.sz_lt ?_; simp only [List.length_append, List.length_map, List.length_cons, List.length_nil]; omega) | fail "no szl")
local macro_rules | `(tactic| fail "ix") => `(tactic| first | assumption | exact ix0 | exact ix1 | exact ix2 | exact at_ref (by assumption) (by omega) | exact at_int (by assumption) (by omega) | exact at_drawn (by assumption) (by assumption) | exact at_lit (by first | assumption | omega) (by fail "om") | rfl | fail "no ix")
local macro_rules | `(tactic| fail "ixn") => `(tactic| first | rfl | assumption | fail "no ixn")
local macro_rules | `(tactic| fail "nb") => `(tactic| first | assumption | exact nb_tup | exact nb_nil | exact nb_ints | exact nb_refs | exact nb_ins | exact nb_dT | exact nb_frz | fail "no nb")
local macro_rules | `(tactic| fail "ne") => `(tactic| first | assumption | exact Ne.symm (by assumption) | exact ne_of_none (by assumption) (by assumption) | exact (ne_of_none (by assumption) (by assumption)).symm | exact ne_of (by assumption) (by assumption) (by intro q; cases q) | exact ne_of (by assumption) (by assumption) (by simp) | fail "no ne")
local macro_rules | `(tactic| fail "hp") => `(tactic| first | assumption | exact upd_same | exact lit0 | exact lit1 | exact lit3 | exact lit2 | (refine' Tk.get (by assumption) ?k1; (case k1 => fail "tk")) | (with_reducible refine' upd_new ?h1 ?n1; (case n1 => assumption); (case h1 => fail "hp")) | (refine' Same.get (by assumption) ?h1; (case h1 => fail "hp")) | (refine' Kp.get (by assumption) (by fail "bx") ?h1 ?d1; (case h1 => fail "hp"); (case d1 => fail "nb")) | (with_reducible refine' upd_oth ?h1 ?n1; (case n1 => fail "ne"); (case h1 => fail "hp")) | (with_reducible refine' upd_oth ?h1 ?n1; (case h1 => fail "hp"); (case n1 => fail "ne")) | (refine' Kq.get (by assumption) (by fail "bx") ?h1 ?d1 (by fail "ne"); (case h1 => fail "hp"); (case d1 => fail "nb")) | fail "no hp")
local macro_rules | `(tactic| fail "bx") => `(tactic| first | assumption | (with_reducible refine' BoxOk.new ?h1 ?n1; (case n1 => assumption); (case h1 => fail "bx")) | (refine' BoxOk.same (by assumption) ?h1; (case h1 => fail "bx")) | (with_reducible refine' BoxOk.mut ?h1 ?h2 ?n1; (case n1 => assumption); (case h2 => assumption); (case h1 => fail "bx")) | fail "no bx")
local macro_rules | `(tactic| fail "kp") => `(tactic| first | assumption | exact Kp.refl | (with_reducible refine' Kp.at ?h1; (case h1 => fail "kp")) | (with_reducible refine' Kp.new ?h1 ?n1; (case n1 => assumption); (case h1 => fail "kp")) | (with_reducible refine' Kp.mut ?h1 ?n1; (case n1 => assumption); (case h1 => fail "kp")) | (refine' Kp.tr (by assumption) ?h1; (case h1 => fail "kp")) | (refine' Kp.tr (Kp.of (by assumption)) ?h1; (case h1 => fail "kp")) | (refine' Kq.kp (by assumption) ?h1 (by assumption); (case h1 => fail "kp")) | fail "no kp")
local macro_rules | `(tactic| fail "ite") => `(tactic| first | refine iteT ?_ | refine iteF ?_)
local macro_rules | `(tactic| fail "tt") => `(tactic| first | rfl | exact decide_eq_true (by first | rfl | omega | assumption) | exact decide_eq_true (congrArg V.int (by first | rfl | omega)) | fail "no tt")
local macro_rules | `(tactic| fail "cv") => `(tactic| first | exact .ty _ | exact .own _)
local macro_rules | `(tactic| fail "tx") => `(tactic| first | exact .base (.int _) | exact .base (.bl _) | exact .base .non | exact .base (.lst (by fail "hp")) | exact .base (.tup (by fail "hp")) | fail "no tx")
local macro_rules | `(tactic| fail "dead") => `(tactic| (exfalso; first | omega | contradiction | simp_all))
local macro_rules | `(tactic| fail "dp") => `(tactic| first | exact .tup (SqT.of (by fail "hp")) (.cons (.int _) (.cons (.int _) .nil)) | exact .lst (SqL.of (by fail "hp")) (dpPrs (by fail "pr")) | exact .lst (SqL.of (by fail "hp")) (dpInts _) | exact .lst (SqL.of (by fail "hp")) .nil | fail "no dp")
local macro_rules | `(tactic| fail "shp") => `(tactic| first | assumption | exact prD_shaped _ | exact PySem.W.ke_shaped_ints _ | rfl | fail "no shp")
local macro_rules | `(tactic| fail "pr") => `(tactic| first | assumption | exact PrT.mono (by assumption) (by fail "tk") | fail "no pr")
local macro_rules | `(tactic| fail "tk") => `(tactic| first | assumption | exact Tk.refl | (with_reducible refine' Tk.new ?h1 ?n1; (case n1 => assumption); (case h1 => fail "tk")) | (refine' Tk.tr (Kp.tk (by assumption) (by fail "bx")) ?h1; (case h1 => fail "tk")) | (refine' Tk.tr (Same.tk (by assumption)) ?h1; (case h1 => fail "tk")) | (with_reducible refine' Tk.lst ?h1 ?n1; (case n1 => fail "hp"); (case h1 => fail "tk")) | fail "no tk")
local macro_rules | `(tactic| fail "lk") => `(tactic| first | exact netF_count _ _ | exact netF_links _ _ | exact netF_no _ _ (by decide +kernel) (by decide +kernel) | fail "no lk")
local macro_rules | `(tactic| fail "kt") => `(tactic| first | exact upd_same | assumption | fail "hp")
local macro_rules | `(tactic| fail "na") => `(tactic| first | assumption | (with_reducible refine' NetAt.new ?h1 ?n1; (case n1 => assumption); (case h1 => fail "na")) | (refine' NetAt.same (by assumption) ?h1; (case h1 => fail "na")) | (refine' NetAt.kp (by assumption) (by fail "bx") ?h1; (case h1 => fail "na")) | (with_reducible refine' NetAt.lst ?h1 ?n1; (case n1 => fail "hp"); (case h1 => fail "na")) | fail "no na")
local macro_rules | `(tactic| fail "mono") => `(tactic| first | exact fun _ _ _ _ h q => h _ _ q | exact fun _ _ _ _ h q => (let ⟨v, e, z⟩ := q; ⟨v, e, h _ _ z⟩) | exact fun _ _ _ _ h q => (let ⟨v, e, u, f, z⟩ := q; ⟨v, e, u, f, h _ _ z⟩) | fail "no mono")
local macro_rules | `(tactic| fail "sm") => `(tactic| first | assumption | exact Same.refl _ | (with_reducible refine' Same.new ?h1 ?n1; (case n1 => assumption); (case h1 => fail "sm")) | (refine' Same.tr (by assumption) ?h1; (case h1 => fail "sm")) | fail "no sm")
local macro_rules | `(tactic| fail "fld") => `(tactic| first | (show 0 < 1000; decide) | (show 1 < 1000; decide) | fail "no fld")
local macro_rules | `(tactic| fail "kq") => `(tactic| first | assumption | exact Kq.refl | (with_reducible refine' Kq.at ?h1; (case h1 => fail "kq")) | (with_reducible refine' Kq.new ?h1 ?n1; (case n1 => assumption); (case h1 => fail "kq")) | (refine' Kq.trans ?h1 (by assumption); (case h1 => fail "kq")) | (refine' Kq.trans ?h1 (Kq.of (by assumption)); (case h1 => fail "kq")) | (refine' Kq.trans ?h1 (Kq.ofS (by assumption)); (case h1 => fail "kq")) | fail "no kq")
local macro_rules | `(tactic| fail "mo") => `(tactic| first | assumption | exact MemOk.take (by assumption) _ | exact MemOk.drop (by assumption) _ | exact every_ok _ | fail "no mo")

section
variable {P : Program} {w : World} {K : PySem.W.Frag} {mg : Str → Option Value} {base : Heap} {CN CI CU CL CT CS Pt : Addr} {mc mu : Value}



def spTreeDist (CN CU CT Pt : Addr) : Sp := fun vs H Q E => ∃ (a : Addr) (n : Nat) (R : Rel) (x y : Int), vs = [.ref a, .int x, .int y] ∧ NetAt CN H a n R ∧ GxR.TabG H Pt ∧
  (Tree n R → ∀ (fi la : Nat), x = (fi : Int) → y = (la : Int) → fi < n → la < n → ∀ (pf df : Nat → Nat) (H' : Hp), TM.Span n R la pf df → Sp1 Pt H H' → GxR.TabG H' Pt → Q (.int (df fi : Int)) H') ∧
  (¬ Tree n R → RaisesT CT Pt H E) ∧ (Tree n R → ¬ (0 ≤ x ∧ x < (n : Int)) → RaisesV CU Pt x H E) ∧ (Tree n R → (0 ≤ x ∧ x < (n : Int)) → ¬ (0 ≤ y ∧ y < (n : Int)) → RaisesV CU Pt y H E)
def others (n t : Nat) : List Int := tells (fun z => decide (z ≠ t)) n
theorem mem_others {n t x : Nat} (h : x < n) : (x : Int) ∈ others n t ↔ x ≠ t := by
  unfold others
  rw [mem_tells, decide_eq_true_iff]
  exact ⟨fun q => q.2, fun q => ⟨h, q⟩⟩
theorem odd_all {n : Nat} {xs : List Int} (h : ∀ x ∈ xs, 0 ≤ x ∧ x < (n : Int)) : odd n xs = [] := by
  unfold odd
  refine List.filter_eq_nil_iff.mpr fun x hx => ?_
  rw [decide_eq_true (h x hx)]
  exact Bool.false_ne_true
theorem tells_rg {D : Nat → Bool} {n : Nat} {z : Int} (h : z ∈ tells D n) : 0 ≤ z ∧ z < (n : Int) := by
  obtain ⟨i, hi⟩ := List.getElem?_of_mem h
  unfold tells at h
  obtain ⟨x, hx, e⟩ := List.mem_map.mp h
  have := List.mem_range.mp (List.mem_filter.mp hx).1
  omega
theorem odd_side {n s t : Nat} (hs : s < n) : odd n ([(s : Int)] ++ others n t) = [] := odd_all fun x hx => (List.mem_append.mp hx).elim (fun q => by have := List.mem_singleton.mp q; omega) fun q => tells_rg q
def spTreeSide (CN CL CT Pt : Addr) : Sp := fun vs H Q E => ∃ (a : Addr) (n : Nat) (R : Rel) (x y : Int), vs = [.ref a, .int x, .int y] ∧ NetAt CN H a n R ∧ GxR.TabG H Pt ∧
  (Tree n R → ∀ (s t : Nat), x = (s : Int) → y = (t : Int) → s < n → t < n → R s t = true → ∀ (p : Addr) (H' : Hp), Sp1 Pt H H' → GxR.TabG H' Pt → H p = none → H' p = some (.lst ((rchL n R [(s : Int)] (others n t)).map V.int)) → Q (.ref p) H') ∧
  (¬ Tree n R → RaisesT CT Pt H E) ∧ (Tree n R → ¬ (x, y) ∈ ties n R → RaisesM CL Pt x y H E)
abbrev sTreeDist : Stmt := top 22
theorem scTreeDist : FnScope ["net", "first", "last"] ["net", "first", "last"] (defScope sTreeDist) := ⟨rfl, rfl, rfl, by decide +kernel, rfl, by decide +kernel, by decide +kernel⟩
theorem ok_TreeDist (D : Df K mg "tree_distance" sTreeDist ["net", "first", "last"]) (T : NTx K mg CN mc mu) (GTreePath : CalX P w K mg base 13 "tree_path" (spTreePath CN CU CT Pt)) : CalX P w K mg base 14 "tree_distance" (spTreeDist CN CU CT Pt) := by
  obtain ⟨f, fd, F, hm, hb⟩ := D
  refine ⟨f, fd, ["net", "first", "last"], F.okN scTreeDist (fun vs H Q E h => ?_) (fun cdv A outer s H vs Q E hr h => ?_), hm, F.kp, hb⟩
  · obtain ⟨a, n, R, x, y, rfl, na, tg, kG, kT, kU, kV⟩ := h
    rfl
  · obtain ⟨a, n, R, x, y, rfl, na, tg, kG, kT, kU, kV⟩ := h
    refine ⟨_, (pss_one (ps_ret (pe_op op_sub (pe_callB call_lenI (by rfl) T.len (by decide +kernel) (pa_cons (pe_cX GTreePath hr (by decide) (by rfl) (L2N.passes_call (L2N.takes_of rfl rfl rfl rfl) fun _ _ _ _ h => h) (pa_cons (pv 0) (pa_cons (pv 1) (pa_cons (pv 2) pa_nil)))) pa_nil)) pe_int))), ?_⟩
    -- return len(tree_path(net, first, last)) - 1
    refine ⟨_, rfl, _, rfl, _, rfl, _, _, _, _, _, rfl, (by fail "na"), (by assumption), (fun tr fi la ex ey hfi hla p1 pf df H1 spn sp1 tp1 np1 hp1 => ⟨_, _, rfl, (by fail "hp"), _, _, rfl, rfl, ?_⟩), kT, kU, kV⟩
    have e : (((pth pf fi (df fi)).length : Nat) : Int) - 1 = (df fi : Int) := by rw [pth_len]; omega
    show Q (V.int ((((pth pf fi (df fi)).length : Nat) : Int) - 1)) H1
    rw [e]
    exact kG tr fi la ex ey hfi hla pf df _ spn sp1 tp1
abbrev sTreeSide : Stmt := top 23
theorem scTreeSide : FnScope ["net", "source", "reader", "replica"] ["net", "source", "reader"] (defScope sTreeSide) := ⟨rfl, rfl, rfl, by decide +kernel, rfl, by decide +kernel, by decide +kernel⟩
theorem ok_TreeSide (D : Df K mg "tree_side" sTreeSide ["net", "source", "reader"]) (T : NTx K mg CN mc mu) (GCheckTree : CalX P w K mg base 12 "check_tree" (spCheckTree CN CT Pt)) (GCheckLink : CalX P w K mg base 3 "check_link" (spCheckLink CN CL)) (GReach : CalX P w K mg base 6 "reach_within" (spReach CN CU)) : CalX P w K mg base 13 "tree_side" (spTreeSide CN CL CT Pt) := by
  obtain ⟨f, fd, F, hm, hb⟩ := D
  refine ⟨f, fd, ["net", "source", "reader"], F.okN scTreeSide (fun vs H Q E h => ?_) (fun cdv A outer s H vs Q E hr h => ?_), hm, F.kp, hb⟩
  · obtain ⟨a, n, R, x, y, rfl, na, tg, kG, kT, kL⟩ := h
    rfl
  · obtain ⟨a, n, R, x, y, rfl, na, tg, kG, kT, kL⟩ := h
    have na2 := na
    obtain ⟨⟨dx, d, ha, hd⟩, b1, b2, ir⟩ := na2
    refine ⟨_, (pss_cons (ps_expr (pe_cX GCheckTree hr (by decide) (by rfl) (L2N.passes_call (L2N.takes_of rfl rfl rfl rfl) fun _ _ _ _ h => h) (pa_cons (pv 0) pa_nil)))
      (pss_cons (ps_expr (pe_cX GCheckLink hr (by decide) (by rfl) (L2N.passes_call (L2N.takes_of rfl rfl rfl rfl) fun _ _ _ _ h => h) (pa_cons (pv 0) (pa_cons (pv 1) (pa_cons (pv 2) pa_nil)))))
      (pss_one (ps_ret (pe_cX GReach hr (by decide) (by rfl) (L2N.passes_call (L2N.takes_of rfl rfl rfl rfl) fun _ _ _ _ h => h) (pa_cons (pv 0) (pa_cons (pe_lst (pa_cons (pv 1) pa_nil)) (pa_cons (pe_lc (own := [("replica", 3)]) (g := gName 3) rfl scTreeSide.nd (pi_range1 rfl T.range (pa_cons (pe_fld (pv 0) (by rfl)) pa_nil)) (blkOk_by (N := ["net", "source", "reader", "replica"]) (sc := defScope sTreeSide) (by decide +kernel)) (fun _ _ _ _ _ => (pg_name (i := 3) scTreeSide.nd rfl (Or.inl rfl))) (fun _ _ _ _ _ => (pts_one (pt_cmpR op_ne (pv 3) (pv 2) (nomark _)))) (fun _ _ _ _ _ => (pv 3))) pa_nil)))))))), ?_⟩
    -- check_tree(net)
    refine ⟨_, rfl, _, _, _, rfl, (by fail "na"), (by assumption), fun tr1 H1 sp1 tp1 => ?_, fun z => kT z⟩
    have na1 := Sp1.net sp1 tg na
    -- check_link(net, source, reader)
    refine ⟨_, rfl, _, rfl, _, rfl, _, _, _, _, _, rfl, (by fail "na"), fun gd2 H2 sm2 => ?_, (fun z => (kL tr1 z).here sp1 tp1)⟩
    obtain ⟨s0, t0, hs, ht, rst, est⟩ := mem_ties.mp gd2
    obtain rfl : x = (s0 : Int) := congrArg Prod.fst est
    obtain rfl : y = (t0 : Int) := congrArg Prod.snd est
    have sp2 := sp1.trans (Sp1.of sm2)
    have tp2 := tabG_same sm2 tp1
    have na2b := Sp1.net sp2 tg na
    have ha2 := sp2 _ _ (tabG_ne tg ha fun _ z => nomatch z) ha
    -- return reach_within(net, [source], [replica for replica in range(net.count) if replica != reader])
    refine ⟨_, rfl, _, rfl, (by fail "sz"), fun p4 np4 => ⟨_, rfl, _, _, _, _, _, rfl, (by fail "hp"), T.cl, T.n_count, (by fail "lk"), _, rfl, (by fail "om"), (by fail "om"), fun D1 nD1 => lc_range (lo := 0) (n := ((n : Int)).toNat) (fun i H' => Same (upd H2 p4 (.lst [.int (s0 : Int)])) H' ∧ H' D1 = some (.lst ((tells (fun z => decide (z ≠ t0)) i).map V.int))) ⟨Same.new (Same.refl _) nD1, upd_same⟩ (fun i H' hi z => by
      obtain ⟨sm, hD⟩ := z
      have lt := tells_len (fun z => decide (z ≠ t0)) i
      refine ⟨rfl, ?_⟩
      refine ⟨_, rfl, _, rfl, rfl, _, rfl, ?_⟩
      rw [Int.zero_add]
      refine ifNeI (fun g => ?_) fun g => ?_
      · refine ⟨_, rfl, _, hD, Evl.sz_lt (by rw [List.length_map]; omega), Same.mut sm nD1, ?_⟩
        rw [upd_same, tells_yes (D := fun z => decide (z ≠ t0)) (decide_eq_true (by omega)), List.map_append]
        rfl
      · exact ⟨sm, by rw [tells_no (D := fun z => decide (z ≠ t0)) (decide_eq_false (by omega))]; exact hD⟩) (fun H5 z => ?_)⟩⟩
    obtain ⟨sm5, h55⟩ := z
    rw [Int.toNat_natCast] at h55
    have h54 := sm5 _ _ upd_same
    have smB : Same H2 H5 := (Same.new (Same.refl _) np4).trans sm5
    have na5 : NetAt CN H5 a n R := NetAt.same smB na2b
    refine ⟨_, _, _, _, _, _, _, rfl, (by fail "na"), (by fail "hp"), (by fail "hp"), fun od3 p3 H3 np3 sm3 hp3 => ?_, fun x r e => (nil_cons_x (odd_side hs) e).elim⟩
    exact kG tr1 s0 t0 rfl rfl hs ht rst _ _ (sp2.trans (Sp1.of (smB.trans sm3))) (tabG_same (smB.trans sm3) tp2) (sp1_free sp2 tp2 (free_back np3 smB)) hp3
end
end K02

end
section
set_option Elab.async false
set_option linter.all false
set_option maxRecDepth 100000
set_option maxHeartbeats 4000000
namespace K02
open PySem L2 Kit KR KX KI RM
local macro_rules | `(tactic| fail "om") => `(tactic| first | omega | (simp only [List.length_map, List.length_append, List.length_cons, List.length_nil]; omega) | (simp only [List.length_map, List.length_append, List.length_cons, List.length_nil] at *; omega) | assumption | decide | (simp only [List.length_take, List.length_drop]; omega) | (rw [every_len]; omega) | fail "no om")
local macro_rules | `(tactic| fail "nz") => `(tactic| first | decide | omega | fail "no nz")
local macro_rules | `(tactic| fail "dv") => `(tactic| exact ⟨by first | decide | omega, by first | decide | omega⟩)
local macro_rules | `(tactic| fail "mul") => `(tactic| first | exact .inr ⟨by decide, by decide⟩ | exact .inl ⟨by decide, by decide⟩ | exact mulF (by decide) (by decide) | exact .inl ⟨by omega, by omega⟩ | exact .inr ⟨by omega, by omega⟩ | fail "no mul")
local macro_rules | `(tactic| fail "sz") => `(tactic| first | assumption | exact Nat.zero_le _ | (show 1 ≤ sizeLine; decide) | (show 2 ≤ sizeLine; decide) | (show 3 ≤ sizeLine; decide) | (show 4 ≤ sizeLine; decide) | (show 5 ≤ sizeLine; decide) | exact Evl.sz_of (by omega) | (refine Evl.sz_of ?_; simp only [List.length_append, List.length_map, List.length_cons, List.length_nil]; omega) | (refine Evl.sz_of ?_; simp only [List.length_append, List.length_map, List.length_cons, List.length_nil, List.length_take, List.length_drop]; omega) | fail "no sz")
local macro_rules | `(tactic| fail "szl") => `(tactic| first | exact Evl.sz_lt (by omega) | (refine Evl.sz_lt ?_; simp only [List.length_append, List.length_map, List.length_cons, List.length_nil]; omega) | fail "no szl")
local macro_rules | `(tactic| fail "ix") => `(tactic| first | assumption | exact ix0 | exact ix1 | exact ix2 | exact at_ref (by assumption) (by omega) | exact at_int (by assumption) (by omega) | exact at_drawn (by assumption) (by assumption) | exact at_lit (by first | assumption | omega) (by fail "om") | rfl | fail "no ix")
local macro_rules | `(tactic| fail "ixn") => `(tactic| first | rfl | assumption | fail "no ixn")
local macro_rules | `(tactic| fail "nb") => `(tactic| first | assumption | exact nb_tup | exact nb_nil | exact nb_ints | exact nb_refs | exact nb_ins | exact nb_dT | exact nb_frz | fail "no nb")
local macro_rules | `(tactic| fail "ne") => `(tactic| first | assumption | exact Ne.symm (by assumption) | exact ne_of_none (by assumption) (by assumption) | exact (ne_of_none (by assumption) (by assumption)).symm | exact ne_of (by assumption) (by assumption) (by intro q; cases q) | exact ne_of (by assumption) (by assumption) (by simp) | fail "no ne")
local macro_rules | `(tactic| fail "hp") => `(tactic| first | assumption | exact upd_same | exact lit0 | exact lit1 | exact lit3 | exact lit2 | (refine' Tk.get (by assumption) ?k1; (case k1 => fail "tk")) | (with_reducible refine' upd_new ?h1 ?n1; (case n1 => assumption); (case h1 => fail "hp")) | (refine' Same.get (by assumption) ?h1; (case h1 => fail "hp")) | (refine' Kp.get (by assumption) (by fail "bx") ?h1 ?d1; (case h1 => fail "hp"); (case d1 => fail "nb")) | (with_reducible refine' upd_oth ?h1 ?n1; (case n1 => fail "ne"); (case h1 => fail "hp")) | (with_reducible refine' upd_oth ?h1 ?n1; (case h1 => fail "hp"); (case n1 => fail "ne")) | (refine' Kq.get (by assumption) (by fail "bx") ?h1 ?d1 (by fail "ne"); (case h1 => fail "hp"); (case d1 => fail "nb")) | fail "no hp")
local macro_rules | `(tactic| fail "bx") => `(tactic| first | assumption | (with_reducible refine' BoxOk.new ?h1 ?n1; (case n1 => assumption); (case h1 => fail "bx")) | (refine' BoxOk.same (by assumption) ?h1; (case h1 => fail "bx")) | (with_reducible refine' BoxOk.mut ?h1 ?h2 ?n1; (case n1 => assumption); (case h2 => assumption); (case h1 => fail "bx")) | fail "no bx")
local macro_rules | `(tactic| fail "kp") => `(tactic| first | assumption | exact Kp.refl | (with_reducible refine' Kp.at ?h1; (case h1 => fail "kp")) | (with_reducible refine' Kp.new ?h1 ?n1; (case n1 => assumption); (case h1 => fail "kp")) | (with_reducible refine' Kp.mut ?h1 ?n1; (case n1 => assumption); (case h1 => fail "kp")) | (refine' Kp.tr (by assumption) ?h1; (case h1 => fail "kp")) | (refine' Kp.tr (Kp.of (by assumption)) ?h1; (case h1 => fail "kp")) | (refine' Kq.kp (by assumption) ?h1 (by assumption); (case h1 => fail "kp")) | fail "no kp")
local macro_rules | `(tactic| fail "ite") => `(tactic| first | refine iteT ?_ | refine iteF ?_)
local macro_rules | `(tactic| fail "tt") => `(tactic| first | rfl | exact decide_eq_true (by first | rfl | omega | assumption) | exact decide_eq_true (congrArg V.int (by first | rfl | omega)) | fail "no tt")
local macro_rules | `(tactic| fail "cv") => `(tactic| first | exact .ty _ | exact .own _)
local macro_rules | `(tactic| fail "tx") => `(tactic| first | exact .base (.int _) | exact .base (.bl _) | exact .base .non | exact .base (.lst (by fail "hp")) | exact .base (.tup (by fail "hp")) | fail "no tx")
local macro_rules | `(tactic| fail "dead") => `(tactic| (exfalso; first | omega | contradiction | simp_all))
local macro_rules | `(tactic| fail "dp") => `(tactic| first | exact .tup (SqT.of (by fail "hp")) (.cons (.int _) (.cons (.int _) .nil)) | exact .lst (SqL.of (by fail "hp")) (dpPrs (by fail "pr")) | exact .lst (SqL.of (by fail "hp")) (dpInts _) | exact .lst (SqL.of (by fail "hp")) .nil | fail "no dp")
local macro_rules | `(tactic| fail "shp") => `(tactic| first | assumption | exact prD_shaped _ | exact PySem.W.ke_shaped_ints _ | rfl | fail "no shp")
local macro_rules | `(tactic| fail "pr") => `(tactic| first | assumption | exact PrT.mono (by assumption) (by fail "tk") | fail "no pr")
local macro_rules | `(tactic| fail "tk") => `(tactic| first | assumption | exact Tk.refl | (with_reducible refine' Tk.new ?h1 ?n1; (case n1 => assumption); (case h1 => fail "tk")) | (refine' Tk.tr (Kp.tk (by assumption) (by fail "bx")) ?h1; (case h1 => fail "tk")) | (refine' Tk.tr (Same.tk (by assumption)) ?h1; (case h1 => fail "tk")) | (with_reducible refine' Tk.lst ?h1 ?n1; (case n1 => fail "hp"); (case h1 => fail "tk")) | fail "no tk")
local macro_rules | `(tactic| fail "lk") => `(tactic| first | exact netF_count _ _ | exact netF_links _ _ | exact netF_no _ _ (by decide +kernel) (by decide +kernel) | fail "no lk")
local macro_rules | `(tactic| fail "kt") => `(tactic| first | exact upd_same | assumption | fail "hp")
local macro_rules | `(tactic| fail "na") => `(tactic| first | assumption | (with_reducible refine' NetAt.new ?h1 ?n1; (case n1 => assumption); (case h1 => fail "na")) | (refine' NetAt.same (by assumption) ?h1; (case h1 => fail "na")) | (refine' NetAt.kp (by assumption) (by fail "bx") ?h1; (case h1 => fail "na")) | (with_reducible refine' NetAt.lst ?h1 ?n1; (case n1 => fail "hp"); (case h1 => fail "na")) | fail "no na")
local macro_rules | `(tactic| fail "mono") => `(tactic| first | exact fun _ _ _ _ h q => h _ _ q | exact fun _ _ _ _ h q => (let ⟨v, e, z⟩ := q; ⟨v, e, h _ _ z⟩) | exact fun _ _ _ _ h q => (let ⟨v, e, u, f, z⟩ := q; ⟨v, e, u, f, h _ _ z⟩) | fail "no mono")
local macro_rules | `(tactic| fail "sm") => `(tactic| first | assumption | exact Same.refl _ | (with_reducible refine' Same.new ?h1 ?n1; (case n1 => assumption); (case h1 => fail "sm")) | (refine' Same.tr (by assumption) ?h1; (case h1 => fail "sm")) | fail "no sm")
local macro_rules | `(tactic| fail "fld") => `(tactic| first | (show 0 < 1000; decide) | (show 1 < 1000; decide) | fail "no fld")
local macro_rules | `(tactic| fail "kq") => `(tactic| first | assumption | exact Kq.refl | (with_reducible refine' Kq.at ?h1; (case h1 => fail "kq")) | (with_reducible refine' Kq.new ?h1 ?n1; (case n1 => assumption); (case h1 => fail "kq")) | (refine' Kq.trans ?h1 (by assumption); (case h1 => fail "kq")) | (refine' Kq.trans ?h1 (Kq.of (by assumption)); (case h1 => fail "kq")) | (refine' Kq.trans ?h1 (Kq.ofS (by assumption)); (case h1 => fail "kq")) | fail "no kq")
local macro_rules | `(tactic| fail "mo") => `(tactic| first | assumption | exact MemOk.take (by assumption) _ | exact MemOk.drop (by assumption) _ | exact every_ok _ | fail "no mo")

theorem rowI_yes {R : Rel} {x j : Nat} (h : R x j = true) : rowI R x (j + 1) = rowI R x j ++ [(j : Int)] := by
  rw [rowI_col, rowI_col, colI_yes (R := fun a b => R b a) h]
theorem rowI_no {R : Rel} {x j : Nat} (h : R x j = false) : rowI R x (j + 1) = rowI R x j := by
  rw [rowI_col, rowI_col, colI_no (R := fun a b => R b a) h]
section
variable {P : Program} {w : World} {K : PySem.W.Frag} {mg : Str → Option Value} {base : Heap}

/-- ones and noughts -/
def fr (n : Nat) (F : Nat → Bool) : List Int := (List.range n).map fun x => if F x = true then (1 : Int) else 0
theorem fr_len (n : Nat) (F : Nat → Bool) : (fr n F).length = n := by unfold fr; rw [List.length_map, List.length_range]
theorem fr_snoc (i : Nat) (F : Nat → Bool) : fr (i + 1) F = fr i F ++ [if F i = true then (1 : Int) else 0] := by
  unfold fr
  rw [List.range_succ, List.map_append]
  rfl
theorem fr_at {n x : Nat} (F : Nat → Bool) (h : x < n) : (fr n F)[x]? = some (if F x = true then (1 : Int) else 0) := by
  unfold fr
  rw [List.getElem?_map, List.getElem?_range h]
  rfl
theorem fr_ix {n x : Nat} (F : Nat → Bool) (h : x < n) : atI ((fr n F).map V.int) (x : Int) = some (V.int (if F x = true then (1 : Int) else 0)) := at_int (fr_at F h) rfl
theorem fr_congr {n : Nat} {F F' : Nat → Bool} (h : ∀ x, x < n → F x = F' x) : fr n F = fr n F' := by
  unfold fr
  exact List.map_congr_left fun x hx => by rw [h x (List.mem_range.mp hx)]
def off (F : Nat → Bool) (y : Nat) : Nat → Bool := fun x => F x && !decide (x = y)
theorem fr_set {n y : Nat} (F : Nat → Bool) (h : y < n) : (fr n F).set y 0 = fr n (off F y) := by
  refine List.ext_getElem? fun i => ?_
  by_cases e : i = y
  · subst e
    rw [List.getElem?_set_self (by rw [fr_len]; exact h), fr_at _ h]
    unfold off
    rw [decide_eq_true rfl, Bool.not_true, Bool.and_false]
    rfl
  · rw [List.getElem?_set_ne (fun z => e z.symm)]
    by_cases l : i < n
    · rw [fr_at _ l, fr_at _ l]
      unfold off
      rw [decide_eq_false e, Bool.not_false, Bool.and_true]
    · rw [List.getElem?_eq_none (by rw [fr_len]; omega), List.getElem?_eq_none (by rw [fr_len]; omega)]
theorem bit_one {b : Bool} : (if b = true then (1 : Int) else 0) = 1 ↔ b = true := by cases b <;> simp
/-- those in a list -/
def dm (rs : List Int) : Nat → Bool := fun x => decide ((x : Int) ∈ rs)
theorem dm_iff {rs : List Int} {x : Nat} : dm rs x = true ↔ (x : Int) ∈ rs := decide_eq_true_iff
theorem dm_snoc (rs : List Int) (y : Nat) : dm (rs ++ [(y : Int)]) = on (dm rs) y := by
  funext x
  rw [Bool.eq_iff_iff, dm_iff]
  unfold on
  rw [Bool.or_eq_true, dm_iff, decide_eq_true_iff, List.mem_append, List.mem_singleton]
  constructor
  · rintro (h | h)
    · exact .inl h
    · exact .inr (by omega)
  · rintro (h | h)
    · exact .inl h
    · exact .inr (by omega)
theorem dm_tells {D : Nat → Bool} {n x : Nat} (h : x < n) : dm (tells D n) x = D x := by
  rw [Bool.eq_iff_iff, dm_iff, mem_tells]
  exact ⟨fun q => q.2, fun q => ⟨h, q⟩⟩
theorem unm_congr {n : Nat} {D D' : Nat → Bool} (h : ∀ x, x < n → D x = D' x) : unm n D = unm n D' := by
  unfold unm
  congr 1
  exact List.filter_congr fun x hx => by rw [h x (List.mem_range.mp hx)]
theorem tells_unm (D : Nat → Bool) (n : Nat) : (tells D n).length + unm n D = n := by
  induction n with
  | zero => rfl
  | succ n ih =>
    rw [unm_succ]
    cases e : D n
    · rw [tells_no e]
      show _ + (_ + 1) = _
      omega
    · rw [tells_yes e, List.length_append]
      show _ + 1 + (_ + 0) = _
      omega
theorem _root_.RM.Srch.mem {n : Nat} {R : Rel} {S A : List Int} {D : Nat → Bool} {ws us : List Int} {cur : Option (Nat × List Int)} (h : Srch n R S A D ws cur) (m : ∀ q, q ∈ us ↔ q ∈ ws) : Srch n R S A D us cur :=
  ⟨h.snd, h.st, fun z hz => h.wt z ((m z).mp hz), fun x hx d nw => h.cl x hx d fun q => nw ((m _).mpr q), h.cu⟩
theorem _root_.RM.Srch.shift {n : Nat} {R : Rel} {S A : List Int} {D : Nat → Bool} {ws : List Int} {z : Int} (h : Srch n R S A D (z :: ws) none) : ∃ x : Nat, z = (x : Int) ∧ x < n ∧ Srch n R S A D ws (some (x, [])) :=
  (h.mem (us := ws ++ [z]) fun q => by rw [List.mem_append, List.mem_singleton, List.mem_cons]; exact or_comm).pop
theorem _root_.RM.Srch.dcon {n : Nat} {R : Rel} {S A : List Int} {D D' : Nat → Bool} {ws : List Int} (h : Srch n R S A D ws none) (e : ∀ x, x < n → D x = D' x) : Srch n R S A D' ws none :=
  ⟨fun x hx d => h.snd x hx (by rw [e x hx]; exact d), fun x hx a b => by rw [← e x hx]; exact h.st x hx a b, fun z hz => by obtain ⟨x, a, b, c⟩ := h.wt z hz; exact ⟨x, a, b, by rw [← e x b]; exact c⟩,
    fun x hx d nw nc y hy r m => by rw [← e y hy]; exact h.cl x hx (by rw [e x hx]; exact d) nw nc y hy r m, fun _ z => nomatch z⟩
theorem tells_at {D : Nat → Bool} {n i : Nat} {z : Int} (h : (tells D n)[i]? = some z) : ∃ x : Nat, z = (x : Int) ∧ x < n ∧ D x = true := by
  have m := List.mem_of_getElem? h
  unfold tells at m
  obtain ⟨x, hx, e⟩ := List.mem_map.mp m
  obtain ⟨h1, h2⟩ := List.mem_filter.mp hx
  exact ⟨x, e.symm, List.mem_range.mp h1, h2⟩
theorem off_dm (F : Nat → Bool) (rs : List Int) (y : Nat) : off (fun x => F x && !dm rs x) y = fun x => F x && !dm (rs ++ [(y : Int)]) x := by
  funext x
  rw [dm_snoc]
  show ((F x && !dm rs x) && !decide (x = y)) = (F x && !(dm rs x || decide (x = y)))
  cases F x <;> cases dm rs x <;> cases decide (x = y) <;> rfl
theorem drop_snoc {α : Type} {l : List α} {k : Nat} (x : α) (h : k ≤ l.length) : (l ++ [x]).drop k = l.drop k ++ [x] := List.drop_append_of_le_length h
def spLawReach : Sp := fun vs H Q _ => ∃ (t s l : Addr) (n : Nat) (M ss ws : List Int) (R : Rel), vs = [.int (n : Int), .ref t, .ref s, .ref l] ∧ n ≤ 24 ∧ H t = some (.lst (M.map V.int)) ∧ IsTab n M R ∧ H s = some (.lst (ss.map V.int)) ∧ H l = some (.lst (ws.map V.int)) ∧
  ∀ (p : Addr) (H' : Hp), H p = none → Same H H' → H' p = some (.lst ((rchL n R ss ws).map V.int)) → Q (.ref p) H'
end
end K02

end
section
set_option Elab.async false
set_option linter.all false
set_option maxRecDepth 100000
set_option maxHeartbeats 4000000
namespace K02
open PySem L2 Kit KR KX KI RM
local macro_rules | `(tactic| fail "om") => `(tactic| first | omega | (simp only [List.length_map, List.length_append, List.length_cons, List.length_nil]; omega) | (simp only [List.length_map, List.length_append, List.length_cons, List.length_nil] at *; omega) | assumption | decide | (simp only [List.length_take, List.length_drop]; omega) | (rw [every_len]; omega) | fail "no om")
local macro_rules | `(tactic| fail "nz") => `(tactic| first | decide | omega | fail "no nz")
local macro_rules | `(tactic| fail "dv") => `(tactic| exact ⟨by first | decide | omega, by first | decide | omega⟩)
local macro_rules | `(tactic| fail "mul") => `(tactic| first | exact .inr ⟨by decide, by decide⟩ | exact .inl ⟨by decide, by decide⟩ | exact mulF (by decide) (by decide) | exact .inl ⟨by omega, by omega⟩ | exact .inr ⟨by omega, by omega⟩ | fail "no mul")
local macro_rules | `(tactic| fail "sz") => `(tactic| first | assumption | exact Nat.zero_le _ | (show 1 ≤ sizeLine; decide) | (show 2 ≤ sizeLine; decide) | (show 3 ≤ sizeLine; decide) | (show 4 ≤ sizeLine; decide) | (show 5 ≤ sizeLine; decide) | exact Evl.sz_of (by omega) | (refine Evl.sz_of ?_; simp only [List.length_append, List.length_map, List.length_cons, List.length_nil]; omega) | (refine Evl.sz_of ?_; simp only [List.length_append, List.length_map, List.length_cons, List.length_nil, List.length_take, List.length_drop]; omega) | fail "no sz")
local macro_rules | `(tactic| fail "szl") => `(tactic| first | exact Evl.sz_lt (by omega) | (refine Evl.sz_lt ?_; simp only [List.length_append, List.length_map, List.length_cons, List.length_nil]; omega) | fail "no szl")
local macro_rules | `(tactic| fail "ix") => `(tactic| first | assumption | exact ix0 | exact ix1 | exact ix2 | exact at_ref (by assumption) (by omega) | exact at_int (by assumption) (by omega) | exact at_drawn (by assumption) (by assumption) | exact at_lit (by first | assumption | omega) (by fail "om") | rfl | fail "no ix")
local macro_rules | `(tactic| fail "ixn") => `(tactic| first | rfl | assumption | fail "no ixn")
local macro_rules | `(tactic| fail "nb") => `(tactic| first | assumption | exact nb_tup | exact nb_nil | exact nb_ints | exact nb_refs | exact nb_ins | exact nb_dT | exact nb_frz | fail "no nb")
local macro_rules | `(tactic| fail "ne") => `(tactic| first | assumption | exact Ne.symm (by assumption) | exact ne_of_none (by assumption) (by assumption) | exact (ne_of_none (by assumption) (by assumption)).symm | exact ne_of (by assumption) (by assumption) (by intro q; cases q) | exact ne_of (by assumption) (by assumption) (by simp) | fail "no ne")
local macro_rules | `(tactic| fail "hp") => `(tactic| first | assumption | exact upd_same | exact lit0 | exact lit1 | exact lit3 | exact lit2 | (refine' Tk.get (by assumption) ?k1; (case k1 => fail "tk")) | (with_reducible refine' upd_new ?h1 ?n1; (case n1 => assumption); (case h1 => fail "hp")) | (refine' Same.get (by assumption) ?h1; (case h1 => fail "hp")) | (refine' Kp.get (by assumption) (by fail "bx") ?h1 ?d1; (case h1 => fail "hp"); (case d1 => fail "nb")) | (with_reducible refine' upd_oth ?h1 ?n1; (case n1 => fail "ne"); (case h1 => fail "hp")) | (with_reducible refine' upd_oth ?h1 ?n1; (case h1 => fail "hp"); (case n1 => fail "ne")) | (refine' Kq.get (by assumption) (by fail "bx") ?h1 ?d1 (by fail "ne"); (case h1 => fail "hp"); (case d1 => fail "nb")) | fail "no hp")
local macro_rules | `(tactic| fail "bx") => `(tactic| first | assumption | (with_reducible refine' BoxOk.new ?h1 ?n1; (case n1 => assumption); (case h1 => fail "bx")) | (refine' BoxOk.same (by assumption) ?h1; (case h1 => fail "bx")) | (with_reducible refine' BoxOk.mut ?h1 ?h2 ?n1; (case n1 => assumption); (case h2 => assumption); (case h1 => fail "bx")) | fail "no bx")
local macro_rules | `(tactic| fail "kp") => `(tactic| first | assumption | exact Kp.refl | (with_reducible refine' Kp.at ?h1; (case h1 => fail "kp")) | (with_reducible refine' Kp.new ?h1 ?n1; (case n1 => assumption); (case h1 => fail "kp")) | (with_reducible refine' Kp.mut ?h1 ?n1; (case n1 => assumption); (case h1 => fail "kp")) | (refine' Kp.tr (by assumption) ?h1; (case h1 => fail "kp")) | (refine' Kp.tr (Kp.of (by assumption)) ?h1; (case h1 => fail "kp")) | (refine' Kq.kp (by assumption) ?h1 (by assumption); (case h1 => fail "kp")) | fail "no kp")
local macro_rules | `(tactic| fail "ite") => `(tactic| first | refine iteT ?_ | refine iteF ?_)
local macro_rules | `(tactic| fail "tt") => `(tactic| first | rfl | exact decide_eq_true (by first | rfl | omega | assumption) | exact decide_eq_true (congrArg V.int (by first | rfl | omega)) | fail "no tt")
local macro_rules | `(tactic| fail "cv") => `(tactic| first | exact .ty _ | exact .own _)
local macro_rules | `(tactic| fail "tx") => `(tactic| first | exact .base (.int _) | exact .base (.bl _) | exact .base .non | exact .base (.lst (by fail "hp")) | exact .base (.tup (by fail "hp")) | fail "no tx")
local macro_rules | `(tactic| fail "dead") => `(tactic| (exfalso; first | omega | contradiction | simp_all))
local macro_rules | `(tactic| fail "dp") => `(tactic| first | exact .tup (SqT.of (by fail "hp")) (.cons (.int _) (.cons (.int _) .nil)) | exact .lst (SqL.of (by fail "hp")) (dpPrs (by fail "pr")) | exact .lst (SqL.of (by fail "hp")) (dpInts _) | exact .lst (SqL.of (by fail "hp")) .nil | fail "no dp")
local macro_rules | `(tactic| fail "shp") => `(tactic| first | assumption | exact prD_shaped _ | exact PySem.W.ke_shaped_ints _ | rfl | fail "no shp")
local macro_rules | `(tactic| fail "pr") => `(tactic| first | assumption | exact PrT.mono (by assumption) (by fail "tk") | fail "no pr")
local macro_rules | `(tactic| fail "tk") => `(tactic| first | assumption | exact Tk.refl | (with_reducible refine' Tk.new ?h1 ?n1; (case n1 => assumption); (case h1 => fail "tk")) | (refine' Tk.tr (Kp.tk (by assumption) (by fail "bx")) ?h1; (case h1 => fail "tk")) | (refine' Tk.tr (Same.tk (by assumption)) ?h1; (case h1 => fail "tk")) | (with_reducible refine' Tk.lst ?h1 ?n1; (case n1 => fail "hp"); (case h1 => fail "tk")) | fail "no tk")
local macro_rules | `(tactic| fail "lk") => `(tactic| first | exact netF_count _ _ | exact netF_links _ _ | exact netF_no _ _ (by decide +kernel) (by decide +kernel) | fail "no lk")
local macro_rules | `(tactic| fail "kt") => `(tactic| first | exact upd_same | assumption | fail "hp")
local macro_rules | `(tactic| fail "na") => `(tactic| first | assumption | (with_reducible refine' NetAt.new ?h1 ?n1; (case n1 => assumption); (case h1 => fail "na")) | (refine' NetAt.same (by assumption) ?h1; (case h1 => fail "na")) | (refine' NetAt.kp (by assumption) (by fail "bx") ?h1; (case h1 => fail "na")) | (with_reducible refine' NetAt.lst ?h1 ?n1; (case n1 => fail "hp"); (case h1 => fail "na")) | fail "no na")
local macro_rules | `(tactic| fail "mono") => `(tactic| first | exact fun _ _ _ _ h q => h _ _ q | exact fun _ _ _ _ h q => (let ⟨v, e, z⟩ := q; ⟨v, e, h _ _ z⟩) | exact fun _ _ _ _ h q => (let ⟨v, e, u, f, z⟩ := q; ⟨v, e, u, f, h _ _ z⟩) | fail "no mono")
local macro_rules | `(tactic| fail "sm") => `(tactic| first | assumption | exact Same.refl _ | (with_reducible refine' Same.new ?h1 ?n1; (case n1 => assumption); (case h1 => fail "sm")) | (refine' Same.tr (by assumption) ?h1; (case h1 => fail "sm")) | fail "no sm")
local macro_rules | `(tactic| fail "fld") => `(tactic| first | (show 0 < 1000; decide) | (show 1 < 1000; decide) | fail "no fld")
local macro_rules | `(tactic| fail "kq") => `(tactic| first | assumption | exact Kq.refl | (with_reducible refine' Kq.at ?h1; (case h1 => fail "kq")) | (with_reducible refine' Kq.new ?h1 ?n1; (case n1 => assumption); (case h1 => fail "kq")) | (refine' Kq.trans ?h1 (by assumption); (case h1 => fail "kq")) | (refine' Kq.trans ?h1 (Kq.of (by assumption)); (case h1 => fail "kq")) | (refine' Kq.trans ?h1 (Kq.ofS (by assumption)); (case h1 => fail "kq")) | fail "no kq")
local macro_rules | `(tactic| fail "mo") => `(tactic| first | assumption | exact MemOk.take (by assumption) _ | exact MemOk.drop (by assumption) _ | exact every_ok _ | fail "no mo")

section
variable {P : Program} {w : World} {K : PySem.W.Frag} {mg : Str → Option Value} {base : Heap} {CN Pt : Addr} {mc mu : Value}

theorem kp_free {b c p : Addr} {H H1 : Hp} (k : Kp b H H1) (x : BoxOk H1 b c) (h : H1 p = none) : H p = none := by
  cases e : H p with
  | none => rfl
  | some o =>
    have ne : p ≠ b := fun z => by
      obtain ⟨ms, x1, x2, x3, x4, hb, _⟩ := x
      rw [z, hb] at h
      cases h
    rw [k p o ne e] at h
    cases h
def spSome : Sp := fun vs H Q _ => ∃ (b bc : Addr) (n : Nat), vs = [.ref b, .int (n : Int)] ∧ BoxOk H b bc ∧ 1 ≤ n ∧ n ≤ 24 ∧
  ∀ (p : Addr) (ns : List Int) (H' : Hp), ns.length ≤ 26 → Kp b H H' → BoxOk H' b bc → H p = none → H' p = some (.lst (ns.map V.int)) → Q (.ref p) H'
end
end K02

end
section
set_option Elab.async false
set_option linter.all false
set_option maxRecDepth 100000
set_option maxHeartbeats 4000000
namespace K02
open PySem L2 Kit KR KX KI RM
local macro_rules | `(tactic| fail "om") => `(tactic| first | omega | (simp only [List.length_map, List.length_append, List.length_cons, List.length_nil]; omega) | (simp only [List.length_map, List.length_append, List.length_cons, List.length_nil] at *; omega) | assumption | decide | (simp only [List.length_take, List.length_drop]; omega) | (rw [every_len]; omega) | fail "no om")
local macro_rules | `(tactic| fail "nz") => `(tactic| first | decide | omega | fail "no nz")
local macro_rules | `(tactic| fail "dv") => `(tactic| exact ⟨by first | decide | omega, by first | decide | omega⟩)
local macro_rules | `(tactic| fail "mul") => `(tactic| first | exact .inr ⟨by decide, by decide⟩ | exact .inl ⟨by decide, by decide⟩ | exact mulF (by decide) (by decide) | exact .inl ⟨by omega, by omega⟩ | exact .inr ⟨by omega, by omega⟩ | fail "no mul")
local macro_rules | `(tactic| fail "sz") => `(tactic| first | assumption | exact Nat.zero_le _ | (show 1 ≤ sizeLine; decide) | (show 2 ≤ sizeLine; decide) | (show 3 ≤ sizeLine; decide) | (show 4 ≤ sizeLine; decide) | (show 5 ≤ sizeLine; decide) | exact Evl.sz_of (by omega) | (refine Evl.sz_of ?_; simp only [List.length_append, List.length_map, List.length_cons, List.length_nil]; omega) | (refine Evl.sz_of ?_; simp only [List.length_append, List.length_map, List.length_cons, List.length_nil, List.length_take, List.length_drop]; omega) | fail "no sz")
local macro_rules | `(tactic| fail "szl") => `(tactic| first | exact Evl.sz_lt (by omega) | (refine Evl.sz_lt ?_; simp only [List.length_append, List.length_map, List.length_cons, List.length_nil]; omega) | fail "no szl")
local macro_rules | `(tactic| fail "ix") => `(tactic| first | assumption | exact ix0 | exact ix1 | exact ix2 | exact at_ref (by assumption) (by omega) | exact at_int (by assumption) (by omega) | exact at_drawn (by assumption) (by assumption) | exact at_lit (by first | assumption | omega) (by fail "om") | rfl | fail "no ix")
local macro_rules | `(tactic| fail "ixn") => `(tactic| first | rfl | assumption | fail "no ixn")
local macro_rules | `(tactic| fail "nb") => `(tactic| first | assumption | exact nb_tup | exact nb_nil | exact nb_ints | exact nb_refs | exact nb_ins | exact nb_dT | exact nb_frz | fail "no nb")
local macro_rules | `(tactic| fail "ne") => `(tactic| first | assumption | exact Ne.symm (by assumption) | exact ne_of_none (by assumption) (by assumption) | exact (ne_of_none (by assumption) (by assumption)).symm | exact ne_of (by assumption) (by assumption) (by intro q; cases q) | exact ne_of (by assumption) (by assumption) (by simp) | fail "no ne")
local macro_rules | `(tactic| fail "hp") => `(tactic| first | assumption | exact upd_same | exact lit0 | exact lit1 | exact lit3 | exact lit2 | (refine' Tk.get (by assumption) ?k1; (case k1 => fail "tk")) | (with_reducible refine' upd_new ?h1 ?n1; (case n1 => assumption); (case h1 => fail "hp")) | (refine' Same.get (by assumption) ?h1; (case h1 => fail "hp")) | (refine' Kp.get (by assumption) (by fail "bx") ?h1 ?d1; (case h1 => fail "hp"); (case d1 => fail "nb")) | (with_reducible refine' upd_oth ?h1 ?n1; (case n1 => fail "ne"); (case h1 => fail "hp")) | (with_reducible refine' upd_oth ?h1 ?n1; (case h1 => fail "hp"); (case n1 => fail "ne")) | (refine' Kq.get (by assumption) (by fail "bx") ?h1 ?d1 (by fail "ne"); (case h1 => fail "hp"); (case d1 => fail "nb")) | fail "no hp")
local macro_rules | `(tactic| fail "bx") => `(tactic| first | assumption | (with_reducible refine' BoxOk.new ?h1 ?n1; (case n1 => assumption); (case h1 => fail "bx")) | (refine' BoxOk.same (by assumption) ?h1; (case h1 => fail "bx")) | (with_reducible refine' BoxOk.mut ?h1 ?h2 ?n1; (case n1 => assumption); (case h2 => assumption); (case h1 => fail "bx")) | fail "no bx")
local macro_rules | `(tactic| fail "kp") => `(tactic| first | assumption | exact Kp.refl | (with_reducible refine' Kp.at ?h1; (case h1 => fail "kp")) | (with_reducible refine' Kp.new ?h1 ?n1; (case n1 => assumption); (case h1 => fail "kp")) | (with_reducible refine' Kp.mut ?h1 ?n1; (case n1 => assumption); (case h1 => fail "kp")) | (refine' Kp.tr (by assumption) ?h1; (case h1 => fail "kp")) | (refine' Kp.tr (Kp.of (by assumption)) ?h1; (case h1 => fail "kp")) | (refine' Kq.kp (by assumption) ?h1 (by assumption); (case h1 => fail "kp")) | fail "no kp")
local macro_rules | `(tactic| fail "ite") => `(tactic| first | refine iteT ?_ | refine iteF ?_)
local macro_rules | `(tactic| fail "tt") => `(tactic| first | rfl | exact decide_eq_true (by first | rfl | omega | assumption) | exact decide_eq_true (congrArg V.int (by first | rfl | omega)) | fail "no tt")
local macro_rules | `(tactic| fail "cv") => `(tactic| first | exact .ty _ | exact .own _)
local macro_rules | `(tactic| fail "tx") => `(tactic| first | exact .base (.int _) | exact .base (.bl _) | exact .base .non | exact .base (.lst (by fail "hp")) | exact .base (.tup (by fail "hp")) | fail "no tx")
local macro_rules | `(tactic| fail "dead") => `(tactic| (exfalso; first | omega | contradiction | simp_all))
local macro_rules | `(tactic| fail "dp") => `(tactic| first | exact .tup (SqT.of (by fail "hp")) (.cons (.int _) (.cons (.int _) .nil)) | exact .lst (SqL.of (by fail "hp")) (dpPrs (by fail "pr")) | exact .lst (SqL.of (by fail "hp")) (dpInts _) | exact .lst (SqL.of (by fail "hp")) .nil | fail "no dp")
local macro_rules | `(tactic| fail "shp") => `(tactic| first | assumption | exact prD_shaped _ | exact PySem.W.ke_shaped_ints _ | rfl | fail "no shp")
local macro_rules | `(tactic| fail "pr") => `(tactic| first | assumption | exact PrT.mono (by assumption) (by fail "tk") | fail "no pr")
local macro_rules | `(tactic| fail "tk") => `(tactic| first | assumption | exact Tk.refl | (with_reducible refine' Tk.new ?h1 ?n1; (case n1 => assumption); (case h1 => fail "tk")) | (refine' Tk.tr (Kp.tk (by assumption) (by fail "bx")) ?h1; (case h1 => fail "tk")) | (refine' Tk.tr (Same.tk (by assumption)) ?h1; (case h1 => fail "tk")) | (with_reducible refine' Tk.lst ?h1 ?n1; (case n1 => fail "hp"); (case h1 => fail "tk")) | fail "no tk")
local macro_rules | `(tactic| fail "lk") => `(tactic| first | exact netF_count _ _ | exact netF_links _ _ | exact netF_no _ _ (by decide +kernel) (by decide +kernel) | fail "no lk")
local macro_rules | `(tactic| fail "kt") => `(tactic| first | exact upd_same | assumption | fail "hp")
local macro_rules | `(tactic| fail "na") => `(tactic| first | assumption | (with_reducible refine' NetAt.new ?h1 ?n1; (case n1 => assumption); (case h1 => fail "na")) | (refine' NetAt.same (by assumption) ?h1; (case h1 => fail "na")) | (refine' NetAt.kp (by assumption) (by fail "bx") ?h1; (case h1 => fail "na")) | (with_reducible refine' NetAt.lst ?h1 ?n1; (case n1 => fail "hp"); (case h1 => fail "na")) | fail "no na")
local macro_rules | `(tactic| fail "mono") => `(tactic| first | exact fun _ _ _ _ h q => h _ _ q | exact fun _ _ _ _ h q => (let ⟨v, e, z⟩ := q; ⟨v, e, h _ _ z⟩) | exact fun _ _ _ _ h q => (let ⟨v, e, u, f, z⟩ := q; ⟨v, e, u, f, h _ _ z⟩) | fail "no mono")
local macro_rules | `(tactic| fail "sm") => `(tactic| first | assumption | exact Same.refl _ | (with_reducible refine' Same.new ?h1 ?n1; (case n1 => assumption); (case h1 => fail "sm")) | (refine' Same.tr (by assumption) ?h1; (case h1 => fail "sm")) | fail "no sm")
local macro_rules | `(tactic| fail "fld") => `(tactic| first | (show 0 < 1000; decide) | (show 1 < 1000; decide) | fail "no fld")
local macro_rules | `(tactic| fail "kq") => `(tactic| first | assumption | exact Kq.refl | (with_reducible refine' Kq.at ?h1; (case h1 => fail "kq")) | (with_reducible refine' Kq.new ?h1 ?n1; (case n1 => assumption); (case h1 => fail "kq")) | (refine' Kq.trans ?h1 (by assumption); (case h1 => fail "kq")) | (refine' Kq.trans ?h1 (Kq.of (by assumption)); (case h1 => fail "kq")) | (refine' Kq.trans ?h1 (Kq.ofS (by assumption)); (case h1 => fail "kq")) | fail "no kq")
local macro_rules | `(tactic| fail "mo") => `(tactic| first | assumption | exact MemOk.take (by assumption) _ | exact MemOk.drop (by assumption) _ | exact every_ok _ | fail "no mo")

section
variable {P : Program} {w : World} {K : PySem.W.Frag} {mg : Str → Option Value} {base : Heap} {CN CI CU CL CT CS Pt : Addr} {mc mu : Value}

def spTwigs : Sp := fun vs H Q _ => ∃ (b bc : Addr) (n : Nat), vs = [.ref b, .int (n : Int)] ∧ BoxOk H b bc ∧ 1 ≤ n ∧ n ≤ 24 ∧
  ∀ (p : Addr) (as : List Addr) (ps : List (Int × Int)) (H' : Hp), (∀ q ∈ ps, Good n q) → as.length ≤ 24 → Kp b H H' → BoxOk H' b bc → H p = none → H' p = some (.lst (as.map V.ref)) → PrT H' as ps → Q (.ref p) H'
abbrev sTwigs : Stmt := top 34
theorem scTwigs : FnScope ["box", "count", "order", "shape", "twigs", "k", "at"] ["box", "count"] (defScope sTwigs) := ⟨rfl, rfl, rfl, by decide +kernel, rfl, by decide +kernel, by decide +kernel⟩
theorem ok_Twigs (D : Df K mg "_law_twigs" sTwigs ["box", "count"]) (T : Txt K mg) (GDraw : C8.Cal P w K mg base 1 "_law_draw" spDraw []) (GShuffle : C8.Cal P w K mg base 2 "_law_shuffle" spShuffle []) : C8.Cal P w K mg base 3 "_law_twigs" spTwigs [] := by
  obtain ⟨f, fd, F, hm, hb⟩ := D
  refine ⟨f, fd, ["box", "count"], [], F.ok scTwigs (fun vs H Q E h => ?_) (fun cdv A outer s H vs Q E hr h => ?_), hm, F.kp, hb, .nil⟩
  · obtain ⟨b, bc, n, rfl, bx, n1, n2, k⟩ := h
    rfl
  · obtain ⟨b, bc, n, rfl, bx, n1, n2, k⟩ := h
    refine ⟨_, (pss_cons (ps_set (i := 2) scTwigs.nd rfl (Or.inl rfl) (C8.pe_c GShuffle hr (by decide) (by rfl) (pa_cons (pv 0) (pa_cons (pv 1) pa_nil))))
      (pss_cons (ps_set (i := 3) scTwigs.nd rfl (Or.inl rfl) (C8.pe_c GDraw hr (by decide) (by rfl) (pa_cons (pv 0) (pa_cons pe_int pa_nil))))
      (pss_cons (ps_set (i := 4) scTwigs.nd rfl (Or.inl rfl) (pe_lst pa_nil))
      (pss_cons (ps_for PassesOwn.never rfl (pi_range2 rfl T.range (pa_cons pe_int (pa_cons (pv 1) pa_nil))) (pg_name (i := 5) scTwigs.nd rfl (Or.inl rfl))
        (pss_cons (ps_set (i := 6) scTwigs.nd rfl (Or.inl rfl) pe_int)
        (C8.pss_cut (ps_if (pt_cmpR op_eq (pv 3) pe_int (nomark _))
          (pss_one (ps_set (i := 6) scTwigs.nd rfl (Or.inl rfl) (pe_op op_sub (pv 5) pe_int)))
          pss_nil)
        (C8.pss_cut (ps_if (pt_cmpR op_eq (pv 3) pe_int (nomark _))
          (pss_one (ps_set (i := 6) scTwigs.nd rfl (Or.inl rfl) (C8.pe_c GDraw hr (by decide) (by rfl) (pa_cons (pv 0) (pa_cons (pv 5) pa_nil)))))
          pss_nil)
        (pss_one (ps_expr (pe_bm PySem.F.plainAttrs_list PySem.F.slot_list_append PySem.F.type_list_append mt_append (pv 4) (pa_cons (pe_tup (pa_cons (pe_ix ix_I (pv 2) (pv 6) (fun _ _ => rfl)) (pa_cons (pe_ix ix_I (pv 2) (pv 5) (fun _ _ => rfl)) pa_nil))) pa_nil))))))))
      (pss_one (ps_ret (pv 4))))))), ?_⟩
    -- order = _law_shuffle(box, count)
    refine ⟨_, rfl, _, rfl, _, _, _, rfl, (by fail "bx"), (by fail "om"), fun p1 ms1 H1 mo1 ml1 kp1 bx1 np1 hp1 => ?_⟩
    -- shape = _law_draw(box, 3)
    refine ⟨_, rfl, _, _, _, rfl, (by fail "bx"), (by fail "om"), (by fail "om"), fun d2 H2 da2 db2 kp2 bx2 => ?_⟩
    -- twigs = []
    refine ⟨(by fail "sz"), fun p3 np3 => ?_⟩
    obtain ⟨pT, epT⟩ : ∃ p, p = p3 := ⟨_, rfl⟩
    subst epT
    have kpA : Kp b H H2 := Kp.trans kp1 kp2
    have nT : H pT = none := kp_free kpA bx2 np3
    have h1p := kp2.get bx1 hp1 nb_ints
    have ne1T : p1 ≠ pT := ne_of_none h1p np3
    -- for k in range(1, count):
    refine ⟨_, rfl, _, _, rfl, ⟨by fail "om", by fail "om", by fail "om", by fail "om"⟩, for_range (fun i σ H2 => ∃ (v u : Option V) (as : List Addr) (ps : List (Int × Int)), σ = [some (.ref b), some (.int (n : Int)), some (.ref p1), some (.int d2), some (.ref pT), v, u] ∧ Kp b H H2 ∧ BoxOk H2 b bc ∧ H2 p1 = some (.lst (ms1.map V.int)) ∧ H2 pT = some (.lst (as.map V.ref)) ∧ PrT H2 as ps ∧ (∀ q ∈ ps, Good n q) ∧ as.length = i) ⟨none, none, [], [], rfl, Kp.new kpA np3, BoxOk.new bx2 np3, upd_new h1p np3, upd_same, PrT.nil, fun q hq => absurd hq List.not_mem_nil, rfl⟩ ?_ ?_⟩
    · rintro i σ Hi hi ⟨v, u, as, ps, rfl, kpi, bxi, h1i, hTi, pti, gps, li⟩
      have hin : i + 1 < n := by omega
      -- at = 0
      refine ⟨fun σ H2 => H2 = Hi ∧ ∃ a : Int, 0 ≤ a ∧ a < 1 + (i : Int) ∧ σ = [some (.ref b), some (.int (n : Int)), some (.ref p1), some (.int d2), some (.ref pT), some (.int (1 + (i : Int))), some (.int a)], ?_, ?_⟩
      · -- if shape == 1:
        refine ⟨_, rfl, rfl, _, rfl, ?_⟩
        refine ifEqI (fun g4 => ?_) (fun g4 => ?_)
        · -- at = k - 1
          refine ⟨_, rfl, _, _, rfl, rfl, ?_⟩
          exact ⟨rfl, _, by omega, by omega, rfl⟩
        · exact ⟨rfl, _, by omega, by omega, rfl⟩
      · rintro σ Hj ⟨rfl, a0, ha0, hb0, rfl⟩
        refine ⟨fun σ H2 => Kp b Hj H2 ∧ BoxOk H2 b bc ∧ ∃ a : Int, 0 ≤ a ∧ a < 1 + (i : Int) ∧ σ = [some (.ref b), some (.int (n : Int)), some (.ref p1), some (.int d2), some (.ref pT), some (.int (1 + (i : Int))), some (.int a)], ?_, ?_⟩
        · -- if shape == 2:
          refine ⟨_, rfl, rfl, _, rfl, ?_⟩
          refine ifEqI (fun g5 => ?_) (fun g5 => ?_)
          · -- at = _law_draw(box, k)
            refine ⟨_, rfl, _, rfl, _, _, _, rfl, (by fail "bx"), (by fail "om"), (by fail "om"), fun d6 H6 da6 db6 kp6 bx6 => ?_⟩
            exact ⟨by fail "kp", by fail "bx", _, by assumption, by omega, rfl⟩
          · exact ⟨Kp.refl, bxi, _, ha0, hb0, rfl⟩
        · rintro σ Hk ⟨kpj, bxj, a1, ha1, hb1, rfl⟩
          obtain ⟨x, ix1, hx, ex⟩ := mo1.at (i := a1) ha1 (by omega)
          obtain ⟨y, ix2, hy, ey⟩ := mo1.at (i := 1 + (i : Int)) (by omega) (by omega)
          have ne := mo1.ne ex ey (by omega)
          have h1j := kpj.get bxi h1i nb_ints
          have hTj := kpj.get bxi hTi nb_refs
          have gd : Good n ((x : Int), (y : Int)) := ⟨by show (0 : Int) ≤ x; omega, by show (x : Int) < n; omega, by show (0 : Int) ≤ y; omega, by show (y : Int) < n; omega, by show (x : Int) ≠ y; omega⟩
          -- twigs.append((order[at], order[k]))
          refine ⟨_, rfl, .inl ⟨rfl, _, SqL.of (by fail "hp")⟩, _, rfl, _, rfl, _, _, _, _, rfl, rfl, (by fail "hp"), (by fail "ix"), _, rfl, _, rfl, _, _, _, _, rfl, rfl, (by fail "hp"), (by fail "ix"), (by fail "sz"), fun p7 np7 => ⟨_, _, _, rfl, rfl, (by fail "hp"), (by fail "szl"), ?_⟩⟩
          refine ⟨_, _, as ++ [p7], ps ++ [((x : Int), (y : Int))], rfl, Kp.mut (Kp.new (kpi.trans kpj) np7) nT, BoxOk.mut (BoxOk.new bxj np7) bx nT, ?_, by rw [upd_same, snocR], ?_, fun q hq => (List.mem_append.mp hq).elim (gps q) fun z => by rw [List.mem_singleton.mp z]; exact gd, by rw [List.length_append, li]; rfl⟩
          · rw [upd_ne ne1T, upd_ne (ne_of_none h1j np7)]
            exact h1j
          · refine PrT.snoc (PrT.mono pti ?_) (by rw [upd_ne (ne_of_none hTj np7).symm]; exact upd_same)
            exact Tk.lst (Tk.new (Tk.tr (Kp.tk kpj bxi) Tk.refl) np7) (upd_new hTj np7)
    · rintro σ Hi ⟨v, u, as, ps, rfl, kpi, bxi, h1i, hTi, pti, gps, li⟩
      -- return twigs
      refine ⟨_, rfl, ?_⟩
      exact k _ as ps _ gps (by omega) kpi bxi nT hTi pti
theorem relP_take {ps : List (Int × Int)} {i x y : Nat} (e : ps[i]? = some ((x : Int), (y : Int))) : ∀ u v : Nat, relP (ps.take (i + 1)) true u v = (if u = y ∧ v = x then true else if u = x ∧ v = y then true else relP (ps.take i) true u v) := fun u v => by
  rw [take_at e, Bool.eq_iff_iff, relP_iff, List.mem_append, List.mem_append, List.mem_singleton, List.mem_singleton]
  have a1 : ((u : Int), (v : Int)) = ((x : Int), (y : Int)) ↔ u = x ∧ v = y := ⟨fun z => ⟨by have := congrArg Prod.fst z; dsimp only at this; omega, by have := congrArg Prod.snd z; dsimp only at this; omega⟩, fun z => by rw [z.1, z.2]⟩
  have a2 : ((v : Int), (u : Int)) = ((x : Int), (y : Int)) ↔ v = x ∧ u = y := ⟨fun z => ⟨by have := congrArg Prod.fst z; dsimp only at this; omega, by have := congrArg Prod.snd z; dsimp only at this; omega⟩, fun z => by rw [z.1, z.2]⟩
  rw [a1, a2]
  by_cases p : u = y ∧ v = x
  · rw [if_pos p]
    exact ⟨fun _ => rfl, fun _ => .inr ⟨rfl, .inr ⟨p.2, p.1⟩⟩⟩
  · rw [if_neg p]
    by_cases q : u = x ∧ v = y
    · rw [if_pos q]
      exact ⟨fun _ => rfl, fun _ => .inl (.inr q)⟩
    · rw [if_neg q, relP_iff]
      constructor
      · rintro ((h | h) | ⟨b, h | h⟩)
        · exact .inl h
        · exact absurd h q
        · exact .inr ⟨b, h⟩
        · exact absurd ⟨h.2, h.1⟩ p
      · rintro (h | h)
        · exact .inl (.inl h)
        · exact .inr ⟨h.1, .inl h.2⟩
def spTable2 : Sp := fun vs H Q _ => ∃ (n : Nat) (l : Addr) (as : List Addr) (ps : List (Int × Int)), vs = [.int (n : Int), .ref l] ∧ H l = some (.lst (as.map V.ref)) ∧ PrT H as ps ∧ n ≤ 24 ∧ (∀ p ∈ ps, Good n p) ∧
  ∀ (t : Addr) (T : List Int) (H' : Hp), H t = none → Same H H' → H' t = some (.lst (T.map V.int)) → IsTab n T (relP ps true) → Q (.ref t) H'
abbrev sTable2 : Stmt := top 35
theorem scTable2 : FnScope ["count", "twigs", "table", "pair"] ["count", "twigs"] (defScope sTable2) := ⟨rfl, rfl, rfl, by decide +kernel, rfl, by decide +kernel, by decide +kernel⟩
theorem ok_Table2 (D : Df K mg "_law_table" sTable2 ["count", "twigs"]) (T : Txt K mg) : C8.Cal P w K mg base 1 "_law_table" spTable2 [] := by
  obtain ⟨f, fd, F, hm, hb⟩ := D
  refine ⟨f, fd, ["count", "twigs"], [], F.ok scTable2 (fun vs H Q E h => ?_) (fun cdv A outer s H vs Q E hr h => ?_), hm, F.kp, hb, .nil⟩
  · obtain ⟨n, l, as, ps, rfl, hl, pa, n2, hg, k⟩ := h
    rfl
  · obtain ⟨n, l, as, ps, rfl, hl, pa, n2, hg, k⟩ := h
    obtain ⟨nb1, nb2, nb3, nb4⟩ := nn_b n2
    refine ⟨_, (pss_cons (ps_set (i := 2) scTable2.nd rfl (Or.inl rfl) (pe_op op_rep (pe_lst (pa_cons pe_int pa_nil)) (pe_op op_mul (pv 0) (pv 0))))
      (pss_cons (ps_for PassesOwn.never rfl (pi_list (pv 1)) (pg_name (i := 3) scTable2.nd rfl (Or.inl rfl))
        (pss_cons (ps_asg pe_int (pg_sub (pv 2) (pe_op op_add (pe_op op_mul (pe_ix ix_tup (pv 3) pe_int (fun _ _ => rfl)) (pv 0)) (pe_ix ix_tup (pv 3) pe_int (fun _ _ => rfl))) set_I))
        (pss_one (ps_asg pe_int (pg_sub (pv 2) (pe_op op_add (pe_op op_mul (pe_ix ix_tup (pv 3) pe_int (fun _ _ => rfl)) (pv 0)) (pe_ix ix_tup (pv 3) pe_int (fun _ _ => rfl))) set_I)))))
      (pss_one (ps_ret (pv 2))))), ?_⟩
    -- table = [0] * (count * count)
    refine ⟨(by fail "sz"), fun p2 np2 => ⟨_, rfl, _, rfl, _, _, rfl, rfl, (by fail "mul"), _, _, _, rfl, rfl, (by fail "hp"), (by fail "om"), (by fail "om"), (by fail "sz"), fun p1 np1 => ?_⟩⟩
    have nT : H p1 = none := free_back np1 (Same.new (Same.refl _) np2)
    have h0 : upd (upd H p2 (.lst [V.int 0])) p1 (.lst (List.replicate ((n : Int) * (n : Int)).toNat [V.int 0]).flatten) p1 = some (.lst ((List.replicate (n * n) 0).map V.int)) := by rw [upd_same, rep_ints, nb4]
    -- for pair in twigs:
    refine ⟨_, rfl, _, rfl, ⟨_, SqL.of (by fail "hp")⟩, for_list (K := K) (a := l) (xs := as.map V.ref) (fun i σ H2 => ∃ (v : Option V) (T : List Int), σ = [some (.int (n : Int)), some (.ref l), some (.ref p1), v] ∧ Same H H2 ∧ H2 p1 = some (.lst (T.map V.int)) ∧ IsTab n T (relP (ps.take i) true)) ⟨none, List.replicate (n * n) 0, rfl, Same.new (Same.new (Same.refl H) np2) np1, h0, IsTab.zero n⟩ (fun i σ H2 _ z => by obtain ⟨v, T, _, sm, _⟩ := z; exact SqL.of (sm _ _ hl)) ?_ ?_⟩
    · rintro i x0 σ Hj hx0 ⟨v, T, rfl, smj, htj, tbj⟩
      obtain ⟨a1, x1, y1, rfl, ea, ep, hta0⟩ := pa.item hx0
      have hta := smj _ _ hta0
      have ne1 : p1 ≠ a1 := (ne_of_none hta0 nT).symm
      have hgx := hg _ (List.mem_of_getElem? ep)
      obtain ⟨x, ex, hx⟩ := toN (n := n) (x := x1) hgx.1 hgx.2.1
      obtain ⟨y, ey, hy⟩ := toN (n := n) (x := y1) hgx.2.2.1 hgx.2.2.2.1
      subst ex
      subst ey
      have in1 := ixT tbj.len hx hy
      have tb1 := tbj.set hx hy true (v := 1) rfl
      have in2 := ixT tb1.len hy hx
      have tb2 := tb1.set hy hx true (v := 1) rfl
      -- table[pair[0] * count + pair[1]] = 1
      refine ⟨_, rfl, _, rfl, _, _, _, _, rfl, rfl, SqT.of (by fail "hp"), (by fail "ix"), _, rfl, _, _, rfl, rfl, (by fail "mul"), _, rfl, _, _, _, _, rfl, rfl, SqT.of (by fail "hp"), (by fail "ix"), _, _, rfl, rfl, _, _, _, _, _, rfl, rfl, rfl, (by fail "hp"), (by fail "ixn"), ?_⟩
      -- table[pair[1] * count + pair[0]] = 1
      refine ⟨_, rfl, _, rfl, _, _, _, _, rfl, rfl, SqT.of (by fail "hp"), (by fail "ix"), _, rfl, _, _, rfl, rfl, (by fail "mul"), _, rfl, _, _, _, _, rfl, rfl, SqT.of (by fail "hp"), (by fail "ix"), _, _, rfl, rfl, _, _, _, _, _, rfl, rfl, rfl, (by fail "hp"), (by fail "ixn"), ?_⟩
      exact ⟨_, _, rfl, Same.mut (Same.mut smj nT) nT, upd_same, tb2.congr fun u v _ _ => (relP_take ep u v).symm⟩
    · rintro σ Hj ⟨v, T, rfl, smj, htj, tbj⟩
      rw [List.length_map, pa.1, List.take_length] at tbj
      -- return table
      refine ⟨_, rfl, ?_⟩
      exact k p1 T _ nT smj htj tbj
end
end K02

end
section
set_option Elab.async false
set_option linter.all false
set_option maxRecDepth 100000
set_option maxHeartbeats 4000000
namespace K02
open PySem L2 Kit KR KX KI RM
local macro_rules | `(tactic| fail "om") => `(tactic| first | omega | (simp only [List.length_map, List.length_append, List.length_cons, List.length_nil]; omega) | (simp only [List.length_map, List.length_append, List.length_cons, List.length_nil] at *; omega) | assumption | decide | (simp only [List.length_take, List.length_drop]; omega) | (rw [every_len]; omega) | fail "no om")
local macro_rules | `(tactic| fail "nz") => `(tactic| first | decide | omega | fail "no nz")
local macro_rules | `(tactic| fail "dv") => `(tactic| exact ⟨by first | decide | omega, by first | decide | omega⟩)
local macro_rules | `(tactic| fail "mul") => `(tactic| first | exact .inr ⟨by decide, by decide⟩ | exact .inl ⟨by decide, by decide⟩ | exact mulF (by decide) (by decide) | exact .inl ⟨by omega, by omega⟩ | exact .inr ⟨by omega, by omega⟩ | fail "no mul")
local macro_rules | `(tactic| fail "sz") => `(tactic| first | assumption | exact Nat.zero_le _ | (show 1 ≤ sizeLine; decide) | (show 2 ≤ sizeLine; decide) | (show 3 ≤ sizeLine; decide) | (show 4 ≤ sizeLine; decide) | (show 5 ≤ sizeLine; decide) | exact Evl.sz_of (by omega) | (refine Evl.sz_of ?_; simp only [List.length_append, List.length_map, List.length_cons, List.length_nil]; omega) | (refine Evl.sz_of ?_; simp only [List.length_append, List.length_map, List.length_cons, List.length_nil, List.length_take, List.length_drop]; omega) | fail "no sz")
local macro_rules | `(tactic| fail "szl") => `(tactic| first | exact Evl.sz_lt (by omega) | (refine Evl.sz_lt ?_; simp only [List.length_append, List.length_map, List.length_cons, List.length_nil]; omega) | fail "no szl")
local macro_rules | `(tactic| fail "ix") => `(tactic| first | assumption | exact ix0 | exact ix1 | exact ix2 | exact at_ref (by assumption) (by omega) | exact at_int (by assumption) (by omega) | exact at_drawn (by assumption) (by assumption) | exact at_lit (by first | assumption | omega) (by fail "om") | rfl | fail "no ix")
local macro_rules | `(tactic| fail "ixn") => `(tactic| first | rfl | assumption | fail "no ixn")
local macro_rules | `(tactic| fail "nb") => `(tactic| first | assumption | exact nb_tup | exact nb_nil | exact nb_ints | exact nb_refs | exact nb_ins | exact nb_dT | exact nb_frz | fail "no nb")
local macro_rules | `(tactic| fail "ne") => `(tactic| first | assumption | exact Ne.symm (by assumption) | exact ne_of_none (by assumption) (by assumption) | exact (ne_of_none (by assumption) (by assumption)).symm | exact ne_of (by assumption) (by assumption) (by intro q; cases q) | exact ne_of (by assumption) (by assumption) (by simp) | fail "no ne")
local macro_rules | `(tactic| fail "hp") => `(tactic| first | assumption | exact upd_same | exact lit0 | exact lit1 | exact lit3 | exact lit2 | (refine' Tk.get (by assumption) ?k1; (case k1 => fail "tk")) | (with_reducible refine' upd_new ?h1 ?n1; (case n1 => assumption); (case h1 => fail "hp")) | (refine' Same.get (by assumption) ?h1; (case h1 => fail "hp")) | (refine' Kp.get (by assumption) (by fail "bx") ?h1 ?d1; (case h1 => fail "hp"); (case d1 => fail "nb")) | (with_reducible refine' upd_oth ?h1 ?n1; (case n1 => fail "ne"); (case h1 => fail "hp")) | (with_reducible refine' upd_oth ?h1 ?n1; (case h1 => fail "hp"); (case n1 => fail "ne")) | (refine' Kq.get (by assumption) (by fail "bx") ?h1 ?d1 (by fail "ne"); (case h1 => fail "hp"); (case d1 => fail "nb")) | fail "no hp")
local macro_rules | `(tactic| fail "bx") => `(tactic| first | assumption | (with_reducible refine' BoxOk.new ?h1 ?n1; (case n1 => assumption); (case h1 => fail "bx")) | (refine' BoxOk.same (by assumption) ?h1; (case h1 => fail "bx")) | (with_reducible refine' BoxOk.mut ?h1 ?h2 ?n1; (case n1 => assumption); (case h2 => assumption); (case h1 => fail "bx")) | fail "no bx")
local macro_rules | `(tactic| fail "kp") => `(tactic| first | assumption | exact Kp.refl | (with_reducible refine' Kp.at ?h1; (case h1 => fail "kp")) | (with_reducible refine' Kp.new ?h1 ?n1; (case n1 => assumption); (case h1 => fail "kp")) | (with_reducible refine' Kp.mut ?h1 ?n1; (case n1 => assumption); (case h1 => fail "kp")) | (refine' Kp.tr (by assumption) ?h1; (case h1 => fail "kp")) | (refine' Kp.tr (Kp.of (by assumption)) ?h1; (case h1 => fail "kp")) | (refine' Kq.kp (by assumption) ?h1 (by assumption); (case h1 => fail "kp")) | fail "no kp")
local macro_rules | `(tactic| fail "ite") => `(tactic| first | refine iteT ?_ | refine iteF ?_)
local macro_rules | `(tactic| fail "tt") => `(tactic| first | rfl | exact decide_eq_true (by first | rfl | omega | assumption) | exact decide_eq_true (congrArg V.int (by first | rfl | omega)) | fail "no tt")
local macro_rules | `(tactic| fail "cv") => `(tactic| first | exact .ty _ | exact .own _)
local macro_rules | `(tactic| fail "tx") => `(tactic| first | exact .base (.int _) | exact .base (.bl _) | exact .base .non | exact .base (.lst (by fail "hp")) | exact .base (.tup (by fail "hp")) | fail "no tx")
local macro_rules | `(tactic| fail "dead") => `(tactic| (exfalso; first | omega | contradiction | simp_all))
local macro_rules | `(tactic| fail "dp") => `(tactic| first | exact .tup (SqT.of (by fail "hp")) (.cons (.int _) (.cons (.int _) .nil)) | exact .lst (SqL.of (by fail "hp")) (dpPrs (by fail "pr")) | exact .lst (SqL.of (by fail "hp")) (dpInts _) | exact .lst (SqL.of (by fail "hp")) .nil | fail "no dp")
local macro_rules | `(tactic| fail "shp") => `(tactic| first | assumption | exact prD_shaped _ | exact PySem.W.ke_shaped_ints _ | rfl | fail "no shp")
local macro_rules | `(tactic| fail "pr") => `(tactic| first | assumption | exact PrT.mono (by assumption) (by fail "tk") | fail "no pr")
local macro_rules | `(tactic| fail "tk") => `(tactic| first | assumption | exact Tk.refl | (with_reducible refine' Tk.new ?h1 ?n1; (case n1 => assumption); (case h1 => fail "tk")) | (refine' Tk.tr (Kp.tk (by assumption) (by fail "bx")) ?h1; (case h1 => fail "tk")) | (refine' Tk.tr (Same.tk (by assumption)) ?h1; (case h1 => fail "tk")) | (with_reducible refine' Tk.lst ?h1 ?n1; (case n1 => fail "hp"); (case h1 => fail "tk")) | fail "no tk")
local macro_rules | `(tactic| fail "lk") => `(tactic| first | exact netF_count _ _ | exact netF_links _ _ | exact netF_no _ _ (by decide +kernel) (by decide +kernel) | fail "no lk")
local macro_rules | `(tactic| fail "kt") => `(tactic| first | exact upd_same | assumption | fail "hp")
local macro_rules | `(tactic| fail "na") => `(tactic| first | assumption | (with_reducible refine' NetAt.new ?h1 ?n1; (case n1 => assumption); (case h1 => fail "na")) | (refine' NetAt.same (by assumption) ?h1; (case h1 => fail "na")) | (refine' NetAt.kp (by assumption) (by fail "bx") ?h1; (case h1 => fail "na")) | (with_reducible refine' NetAt.lst ?h1 ?n1; (case n1 => fail "hp"); (case h1 => fail "na")) | fail "no na")
local macro_rules | `(tactic| fail "mono") => `(tactic| first | exact fun _ _ _ _ h q => h _ _ q | exact fun _ _ _ _ h q => (let ⟨v, e, z⟩ := q; ⟨v, e, h _ _ z⟩) | exact fun _ _ _ _ h q => (let ⟨v, e, u, f, z⟩ := q; ⟨v, e, u, f, h _ _ z⟩) | fail "no mono")
local macro_rules | `(tactic| fail "sm") => `(tactic| first | assumption | exact Same.refl _ | (with_reducible refine' Same.new ?h1 ?n1; (case n1 => assumption); (case h1 => fail "sm")) | (refine' Same.tr (by assumption) ?h1; (case h1 => fail "sm")) | fail "no sm")
local macro_rules | `(tactic| fail "fld") => `(tactic| first | (show 0 < 1000; decide) | (show 1 < 1000; decide) | fail "no fld")
local macro_rules | `(tactic| fail "kq") => `(tactic| first | assumption | exact Kq.refl | (with_reducible refine' Kq.at ?h1; (case h1 => fail "kq")) | (with_reducible refine' Kq.new ?h1 ?n1; (case n1 => assumption); (case h1 => fail "kq")) | (refine' Kq.trans ?h1 (by assumption); (case h1 => fail "kq")) | (refine' Kq.trans ?h1 (Kq.of (by assumption)); (case h1 => fail "kq")) | (refine' Kq.trans ?h1 (Kq.ofS (by assumption)); (case h1 => fail "kq")) | fail "no kq")
local macro_rules | `(tactic| fail "mo") => `(tactic| first | assumption | exact MemOk.take (by assumption) _ | exact MemOk.drop (by assumption) _ | exact every_ok _ | fail "no mo")

section
variable {P : Program} {w : World} {K : PySem.W.Frag} {mg : Str → Option Value} {base : Heap} {CN CI CU CL CT CS Pt : Addr} {mc mu : Value}


theorem prs_good {n : Nat} {R : Rel} {th : Int} {ms : List Int} (mo : MemOk n ms) : ∀ q ∈ prs R th ms ms, Good n q := fun q hq => by
  obtain ⟨h1, h2, h3, _⟩ := mem_prs.mp hq
  exact ⟨(mo.rg _ h1).1, (mo.rg _ h1).2, (mo.rg _ h2).1, (mo.rg _ h2).2, h3⟩
theorem prs_576 (R : Rel) (th : Int) {ms : List Int} (h : ms.length ≤ 24) : (prs R th ms ms).length ≤ 576 := Nat.le_trans (prs_len R th ms ms) (mul24 h h)
def spPairsR : Sp := fun vs H Q _ => ∃ (t : Addr) (n : Nat) (M : List Int) (R : Rel) (th : Int), vs = [.int (n : Int), .ref t, .int th] ∧ n ≤ 24 ∧ H t = some (.lst (M.map V.int)) ∧ IsTab n M R ∧
  ∀ (p : Addr) (as : List Addr) (H' : Hp), Same H H' → H p = none → H' p = some (.lst (as.map V.ref)) → PrT H' as (prs R th (every n) (every n)) → Q (.ref p) H'
abbrev sPairsR : Stmt := top 36
theorem scPairsR : FnScope ["count", "table", "there", "pairs", "x", "y"] ["count", "table", "there"] (defScope sPairsR) := ⟨rfl, rfl, rfl, by decide +kernel, rfl, by decide +kernel, by decide +kernel⟩
theorem ok_PairsR (D : Df K mg "_law_pairs" sPairsR ["count", "table", "there"]) (T : Txt K mg) : C8.Cal P w K mg base 1 "_law_pairs" spPairsR [] := by
  obtain ⟨f, fd, F, hm, hb⟩ := D
  refine ⟨f, fd, ["count", "table", "there"], [], F.ok scPairsR (fun vs H Q E h => ?_) (fun cdv A outer s H vs Q E hr h => ?_), hm, F.kp, hb, .nil⟩
  · obtain ⟨t, n, M, R, th, rfl, n2, ht, tb, k⟩ := h
    rfl
  · obtain ⟨t, n, M, R, th, rfl, n2, ht, tb, k⟩ := h
    refine ⟨_, (pss_cons (ps_set (i := 3) scPairsR.nd rfl (Or.inl rfl) (pe_lst pa_nil))
      (pss_cons (ps_for PassesOwn.never rfl (pi_range1 rfl T.range (pa_cons (pv 0) pa_nil)) (pg_name (i := 4) scPairsR.nd rfl (Or.inl rfl))
        (pss_one (ps_for PassesOwn.never rfl (pi_range1 rfl T.range (pa_cons (pv 0) pa_nil)) (pg_name (i := 5) scPairsR.nd rfl (Or.inl rfl))
          (pss_one (ps_if (PW.pt (pw_and (pt_cmpR op_ne (pv 4) (pv 5) (nomark _)) (pw_and1 (pt_cmpR op_eq (pe_ix ix_I (pv 1) (pe_op op_add (pe_op op_mul (pv 4) (pv 0)) (pv 5)) (fun _ _ => rfl)) (pv 2) (nomark _)))))
            (pss_one (ps_expr (pe_bm PySem.F.plainAttrs_list PySem.F.slot_list_append PySem.F.type_list_append mt_append (pv 3) (pa_cons (pe_tup (pa_cons (pv 4) (pa_cons (pv 5) pa_nil))) pa_nil))))
            pss_nil)))))
      (pss_one (ps_ret (pv 3))))), ?_⟩
    -- pairs = []
    refine ⟨(by fail "sz"), fun p1 np1 => ?_⟩
    -- for x in range(count):
    refine ⟨_, rfl, _, rfl, (by fail "om"), (by fail "om"), for_range (fun i σ H2 => ∃ (as : List Addr) (v u : Option V), σ = [some (.int (n : Int)), some (.ref t), some (.int th), some (.ref p1), v, u] ∧ Same H H2 ∧ H2 p1 = some (.lst (as.map V.ref)) ∧ PrT H2 as (prs R th (every i) (every n))) ⟨[], none, none, rfl, Same.new (Same.refl H) np1, upd_same, PrT.nil⟩ ?_ ?_⟩
    · rintro i σ Hi hi ⟨as, v, u, rfl, smi, hpi, pti⟩
      have hin : i < n := by omega
      -- for y in range(count):
      refine ⟨_, rfl, _, rfl, (by fail "om"), (by fail "om"), for_range (fun j σ H2 => ∃ (bs : List Addr) (u : Option V), σ = [some (.int (n : Int)), some (.ref t), some (.int th), some (.ref p1), some (.int (0 + (i : Int))), u] ∧ Same H H2 ∧ H2 p1 = some (.lst (bs.map V.ref)) ∧ PrT H2 bs (prs R th (every i) (every n) ++ rowP R th (i : Int) (every j))) ⟨as, u, rfl, smi, hpi, by show PrT _ as (_ ++ []); rw [List.append_nil]; exact pti⟩ ?_ ?_⟩
      · rintro j σ Hj hj ⟨bs, u2, rfl, smj, hpj, ptj⟩
        have hjn : j < n := by omega
        have htj := smj _ _ ht
        have ixv : atI (M.map V.int) ((0 + (i : Int)) * (n : Int) + (0 + (j : Int))) = some (V.int (bitI R i j)) := by
          rw [Int.zero_add, Int.zero_add]
          exact tab_bit tb hin hjn
        have lb : (prs R th (every i) (every n) ++ rowP R th (i : Int) (every j)).length ≤ 600 := by
          have q1 := prs_len R th (every n) (every i)
          have q2 := rowP_len R th (i : Int) (every j)
          rw [every_len, every_len] at q1
          rw [every_len] at q2
          have q3 := mul24 (a := i) (b := n) (by omega) n2
          rw [List.length_append]
          omega
        have lbs : bs.length ≤ 600 := by rw [ptj.1]; exact lb
        -- if x != y and table[x * count + y] == there:
        refine ⟨_, rfl, _, rfl, rfl, _, rfl, ?_⟩
        refine ifNeI (fun g2 => ?_) (fun g2 => ?_)
        · refine ⟨_, rfl, _, rfl, _, rfl, _, _, rfl, rfl, (by fail "mul"), _, rfl, _, _, rfl, rfl, _, _, _, _, rfl, rfl, (by fail "hp"), (by fail "ix"), _, rfl, rfl, _, rfl, ?_⟩
          refine ifEqI (fun g3 => ?_) (fun g3 => ?_)
          · -- pairs.append((x, y))
            refine ⟨_, rfl, .inl ⟨rfl, _, SqL.of (by fail "hp")⟩, _, rfl, _, rfl, (by fail "sz"), fun p4 np4 => ⟨_, _, _, rfl, rfl, (by fail "hp"), (by fail "szl"), ?_⟩⟩
            refine ⟨bs ++ [p4], _, rfl, Same.mut (Same.new smj np4) np1, by rw [upd_same, List.map_append]; rfl, ?_⟩
            rw [every_succ, rowP_yes (show (i : Int) ≠ (j : Int) by omega) (show bitI R (i : Int).toNat (j : Int).toNat = th by rw [Int.toNat_natCast, Int.toNat_natCast]; exact g3), ← List.append_assoc]
            refine PrT.snoc (PrT.mono ptj (Tk.lst (Tk.new Tk.refl np4) (upd_new hpj np4))) (by rw [upd_ne (ne_of_none hpj np4).symm, upd_same, Int.zero_add, Int.zero_add])
          · refine ⟨bs, _, rfl, smj, hpj, ?_⟩
            rw [every_succ, rowP_no (fun q => g3 (by have z := q.2; rw [Int.toNat_natCast, Int.toNat_natCast] at z; exact z))]
            exact ptj
        · fail "ite"
          refine ⟨bs, _, rfl, smj, hpj, ?_⟩
          rw [every_succ, rowP_no (fun q => q.1 (by omega))]
          exact ptj
      · rintro σ Hj ⟨bs, u2, rfl, smj, hpj, ptj⟩
        refine ⟨bs, _, _, rfl, smj, hpj, ?_⟩
        rw [every_succ, prs_snoc]
        rw [Int.toNat_natCast] at ptj
        exact ptj
    · rintro σ Hi ⟨as, v, u, rfl, smi, hpi, pti⟩
      rw [Int.toNat_natCast] at pti
      -- return pairs
      refine ⟨_, rfl, ?_⟩
      exact k _ _ _ smi np1 hpi pti
end
end K02

end
section
set_option Elab.async false
set_option linter.all false
set_option maxRecDepth 100000
set_option maxHeartbeats 4000000
namespace K02
open PySem L2 Kit KR KX KI RM
local macro_rules | `(tactic| fail "om") => `(tactic| first | omega | (simp only [List.length_map, List.length_append, List.length_cons, List.length_nil]; omega) | (simp only [List.length_map, List.length_append, List.length_cons, List.length_nil] at *; omega) | assumption | decide | (simp only [List.length_take, List.length_drop]; omega) | (rw [every_len]; omega) | fail "no om")
local macro_rules | `(tactic| fail "nz") => `(tactic| first | decide | omega | fail "no nz")
local macro_rules | `(tactic| fail "dv") => `(tactic| exact ⟨by first | decide | omega, by first | decide | omega⟩)
local macro_rules | `(tactic| fail "mul") => `(tactic| first | exact .inr ⟨by decide, by decide⟩ | exact .inl ⟨by decide, by decide⟩ | exact mulF (by decide) (by decide) | exact .inl ⟨by omega, by omega⟩ | exact .inr ⟨by omega, by omega⟩ | fail "no mul")
local macro_rules | `(tactic| fail "sz") => `(tactic| first | assumption | exact Nat.zero_le _ | (show 1 ≤ sizeLine; decide) | (show 2 ≤ sizeLine; decide) | (show 3 ≤ sizeLine; decide) | (show 4 ≤ sizeLine; decide) | (show 5 ≤ sizeLine; decide) | exact Evl.sz_of (by omega) | (refine Evl.sz_of ?_; simp only [List.length_append, List.length_map, List.length_cons, List.length_nil]; omega) | (refine Evl.sz_of ?_; simp only [List.length_append, List.length_map, List.length_cons, List.length_nil, List.length_take, List.length_drop]; omega) | fail "no sz")
local macro_rules | `(tactic| fail "szl") => `(tactic| first | exact Evl.sz_lt (by omega) | (refine Evl.sz_lt ?_; simp only [List.length_append, List.length_map, List.length_cons, List.length_nil]; omega) | fail "no szl")
local macro_rules | `(tactic| fail "ix") => `(tactic| first | assumption | exact ix0 | exact ix1 | exact ix2 | exact at_ref (by assumption) (by omega) | exact at_int (by assumption) (by omega) | exact at_drawn (by assumption) (by assumption) | exact at_lit (by first | assumption | omega) (by fail "om") | rfl | fail "no ix")
local macro_rules | `(tactic| fail "ixn") => `(tactic| first | rfl | assumption | fail "no ixn")
local macro_rules | `(tactic| fail "nb") => `(tactic| first | assumption | exact nb_tup | exact nb_nil | exact nb_ints | exact nb_refs | exact nb_ins | exact nb_dT | exact nb_frz | fail "no nb")
local macro_rules | `(tactic| fail "ne") => `(tactic| first | assumption | exact Ne.symm (by assumption) | exact ne_of_none (by assumption) (by assumption) | exact (ne_of_none (by assumption) (by assumption)).symm | exact ne_of (by assumption) (by assumption) (by intro q; cases q) | exact ne_of (by assumption) (by assumption) (by simp) | fail "no ne")
local macro_rules | `(tactic| fail "hp") => `(tactic| first | assumption | exact upd_same | exact lit0 | exact lit1 | exact lit3 | exact lit2 | (refine' Tk.get (by assumption) ?k1; (case k1 => fail "tk")) | (with_reducible refine' upd_new ?h1 ?n1; (case n1 => assumption); (case h1 => fail "hp")) | (refine' Same.get (by assumption) ?h1; (case h1 => fail "hp")) | (refine' Kp.get (by assumption) (by fail "bx") ?h1 ?d1; (case h1 => fail "hp"); (case d1 => fail "nb")) | (with_reducible refine' upd_oth ?h1 ?n1; (case n1 => fail "ne"); (case h1 => fail "hp")) | (with_reducible refine' upd_oth ?h1 ?n1; (case h1 => fail "hp"); (case n1 => fail "ne")) | (refine' Kq.get (by assumption) (by fail "bx") ?h1 ?d1 (by fail "ne"); (case h1 => fail "hp"); (case d1 => fail "nb")) | fail "no hp")
local macro_rules | `(tactic| fail "bx") => `(tactic| first | assumption | (with_reducible refine' BoxOk.new ?h1 ?n1; (case n1 => assumption); (case h1 => fail "bx")) | (refine' BoxOk.same (by assumption) ?h1; (case h1 => fail "bx")) | (with_reducible refine' BoxOk.mut ?h1 ?h2 ?n1; (case n1 => assumption); (case h2 => assumption); (case h1 => fail "bx")) | fail "no bx")
local macro_rules | `(tactic| fail "kp") => `(tactic| first | assumption | exact Kp.refl | (with_reducible refine' Kp.at ?h1; (case h1 => fail "kp")) | (with_reducible refine' Kp.new ?h1 ?n1; (case n1 => assumption); (case h1 => fail "kp")) | (with_reducible refine' Kp.mut ?h1 ?n1; (case n1 => assumption); (case h1 => fail "kp")) | (refine' Kp.tr (by assumption) ?h1; (case h1 => fail "kp")) | (refine' Kp.tr (Kp.of (by assumption)) ?h1; (case h1 => fail "kp")) | (refine' Kq.kp (by assumption) ?h1 (by assumption); (case h1 => fail "kp")) | fail "no kp")
local macro_rules | `(tactic| fail "ite") => `(tactic| first | refine iteT ?_ | refine iteF ?_)
local macro_rules | `(tactic| fail "tt") => `(tactic| first | rfl | exact decide_eq_true (by first | rfl | omega | assumption) | exact decide_eq_true (congrArg V.int (by first | rfl | omega)) | fail "no tt")
local macro_rules | `(tactic| fail "cv") => `(tactic| first | exact .ty _ | exact .own _)
local macro_rules | `(tactic| fail "tx") => `(tactic| first | exact .base (.int _) | exact .base (.bl _) | exact .base .non | exact .base (.lst (by fail "hp")) | exact .base (.tup (by fail "hp")) | fail "no tx")
local macro_rules | `(tactic| fail "dead") => `(tactic| (exfalso; first | omega | contradiction | simp_all))
local macro_rules | `(tactic| fail "dp") => `(tactic| first | exact .tup (SqT.of (by fail "hp")) (.cons (.int _) (.cons (.int _) .nil)) | exact .lst (SqL.of (by fail "hp")) (dpPrs (by fail "pr")) | exact .lst (SqL.of (by fail "hp")) (dpInts _) | exact .lst (SqL.of (by fail "hp")) .nil | fail "no dp")
local macro_rules | `(tactic| fail "shp") => `(tactic| first | assumption | exact prD_shaped _ | exact PySem.W.ke_shaped_ints _ | rfl | fail "no shp")
local macro_rules | `(tactic| fail "pr") => `(tactic| first | assumption | exact PrT.mono (by assumption) (by fail "tk") | fail "no pr")
local macro_rules | `(tactic| fail "tk") => `(tactic| first | assumption | exact Tk.refl | (with_reducible refine' Tk.new ?h1 ?n1; (case n1 => assumption); (case h1 => fail "tk")) | (refine' Tk.tr (Kp.tk (by assumption) (by fail "bx")) ?h1; (case h1 => fail "tk")) | (refine' Tk.tr (Same.tk (by assumption)) ?h1; (case h1 => fail "tk")) | (with_reducible refine' Tk.lst ?h1 ?n1; (case n1 => fail "hp"); (case h1 => fail "tk")) | fail "no tk")
local macro_rules | `(tactic| fail "lk") => `(tactic| first | exact netF_count _ _ | exact netF_links _ _ | exact netF_no _ _ (by decide +kernel) (by decide +kernel) | fail "no lk")
local macro_rules | `(tactic| fail "kt") => `(tactic| first | exact upd_same | assumption | fail "hp")
local macro_rules | `(tactic| fail "na") => `(tactic| first | assumption | (with_reducible refine' NetAt.new ?h1 ?n1; (case n1 => assumption); (case h1 => fail "na")) | (refine' NetAt.same (by assumption) ?h1; (case h1 => fail "na")) | (refine' NetAt.kp (by assumption) (by fail "bx") ?h1; (case h1 => fail "na")) | (with_reducible refine' NetAt.lst ?h1 ?n1; (case n1 => fail "hp"); (case h1 => fail "na")) | fail "no na")
local macro_rules | `(tactic| fail "mono") => `(tactic| first | exact fun _ _ _ _ h q => h _ _ q | exact fun _ _ _ _ h q => (let ⟨v, e, z⟩ := q; ⟨v, e, h _ _ z⟩) | exact fun _ _ _ _ h q => (let ⟨v, e, u, f, z⟩ := q; ⟨v, e, u, f, h _ _ z⟩) | fail "no mono")
local macro_rules | `(tactic| fail "sm") => `(tactic| first | assumption | exact Same.refl _ | (with_reducible refine' Same.new ?h1 ?n1; (case n1 => assumption); (case h1 => fail "sm")) | (refine' Same.tr (by assumption) ?h1; (case h1 => fail "sm")) | fail "no sm")
local macro_rules | `(tactic| fail "fld") => `(tactic| first | (show 0 < 1000; decide) | (show 1 < 1000; decide) | fail "no fld")
local macro_rules | `(tactic| fail "kq") => `(tactic| first | assumption | exact Kq.refl | (with_reducible refine' Kq.at ?h1; (case h1 => fail "kq")) | (with_reducible refine' Kq.new ?h1 ?n1; (case n1 => assumption); (case h1 => fail "kq")) | (refine' Kq.trans ?h1 (by assumption); (case h1 => fail "kq")) | (refine' Kq.trans ?h1 (Kq.of (by assumption)); (case h1 => fail "kq")) | (refine' Kq.trans ?h1 (Kq.ofS (by assumption)); (case h1 => fail "kq")) | fail "no kq")
local macro_rules | `(tactic| fail "mo") => `(tactic| first | assumption | exact MemOk.take (by assumption) _ | exact MemOk.drop (by assumption) _ | exact every_ok _ | fail "no mo")

section
variable {P : Program} {w : World} {K : PySem.W.Frag} {mg : Str → Option Value} {base : Heap} {CN CI CU CL CT CS Pt : Addr} {mc mu : Value}



/-- a table, and two lists of pairs beside it -/
structure Nr (b bc pt q r : Addr) (n : Nat) (H H2 : Hp) (M : List Int) (as cs : List Addr) (ps zs : List (Int × Int)) : Prop where
  kp : Kp b H H2
  bx : BoxOk H2 b bc
  nt : H pt = none
  ht : H2 pt = some (.lst (M.map V.int))
  tb : TabI n M
  hq : H2 q = some (.lst (as.map V.ref))
  pq : PrT H2 as ps
  hr : H2 r = some (.lst (cs.map V.ref))
  pr : PrT H2 cs zs
  nq : q ≠ pt
  nr : r ≠ pt
section
variable {b bc pt q r : Addr} {n : Nat} {H H2 H3 : Hp} {M M' : List Int} {as cs : List Addr} {ps zs : List (Int × Int)}
theorem Nr.new {p : Addr} {o : HO} (x : Nr b bc pt q r n H H2 M as cs ps zs) (np : H2 p = none) : Nr b bc pt q r n H (upd H2 p o) M as cs ps zs :=
  ⟨Kp.new x.kp np, BoxOk.new x.bx np, x.nt, upd_new x.ht np, x.tb, upd_new x.hq np, PrT.mono x.pq (Tk.new Tk.refl np), upd_new x.hr np, PrT.mono x.pr (Tk.new Tk.refl np), x.nq, x.nr⟩
theorem Nr.go (x : Nr b bc pt q r n H H2 M as cs ps zs) (k : Kp b H2 H3) (bx3 : BoxOk H3 b bc) : Nr b bc pt q r n H H3 M as cs ps zs :=
  ⟨x.kp.trans k, bx3, x.nt, k.get x.bx x.ht nb_ints, x.tb, k.get x.bx x.hq nb_refs, PrT.mono x.pq (Kp.tk k x.bx), k.get x.bx x.hr nb_refs, PrT.mono x.pr (Kp.tk k x.bx), x.nq, x.nr⟩
theorem Nr.put (x : Nr b bc pt q r n H H2 M as cs ps zs) (bx : BoxOk H b bc) (tb : TabI n M') : Nr b bc pt q r n H (upd H2 pt (.lst (M'.map V.int))) M' as cs ps zs :=
  ⟨Kp.mut x.kp x.nt, BoxOk.mut x.bx bx x.nt, x.nt, upd_same, tb, by rw [upd_ne x.nq]; exact x.hq, PrT.mono x.pq (Tk.lst Tk.refl x.ht), by rw [upd_ne x.nr]; exact x.hr, PrT.mono x.pr (Tk.lst Tk.refl x.ht), x.nq, x.nr⟩
theorem Nr.tab {p : Addr} (x : Nr b bc pt q r n H H2 M as cs ps zs) (np : H2 p = none) (tb : TabI n M') : Nr b bc p q r n H (upd H2 p (.lst (M'.map V.int))) M' as cs ps zs :=
  ⟨Kp.new x.kp np, BoxOk.new x.bx np, kp_free x.kp x.bx np, upd_same, tb, upd_new x.hq np, PrT.mono x.pq (Tk.new Tk.refl np), upd_new x.hr np, PrT.mono x.pr (Tk.new Tk.refl np), ne_of_none x.hq np, ne_of_none x.hr np⟩
end
theorem good_tabI {n : Nat} {M : List Int} {ps : List (Int × Int)} {both : Bool} (t : IsTab n M (relP ps both)) (g : ∀ q ∈ ps, Good n q) : TabI n M := ⟨_, t, fun x y _ _ h => by
  rcases relP_iff.mp h with m | ⟨_, m⟩
  · have := (g _ m).2.2.2.2
    exact fun z => this (by rw [z])
  · have := (g _ m).2.2.2.2
    exact fun z => this (by rw [z])⟩
def spNear2 : Sp := fun vs H Q _ => ∃ (b bc l : Addr) (n : Nat) (as : List Addr) (ps : List (Int × Int)), vs = [.ref b, .int (n : Int), .ref l] ∧ BoxOk H b bc ∧ 1 ≤ n ∧ n ≤ 24 ∧ H l = some (.lst (as.map V.ref)) ∧ PrT H as ps ∧ (∀ q ∈ ps, Good n q) ∧ as.length ≤ 24 ∧
  ∀ (t : Addr) (M : List Int) (H' : Hp), TabI n M → Kp b H H' → BoxOk H' b bc → H t = none → H' t = some (.lst (M.map V.int)) → Q (.ref t) H'
abbrev sNear2 : Stmt := top 37
theorem scNear2 : FnScope ["box", "count", "twigs", "kind", "rest", "table", "standing", "absent", "pair", "order", "k"] ["box", "count", "twigs"] (defScope sNear2) := ⟨rfl, rfl, rfl, by decide +kernel, rfl, by decide +kernel, by decide +kernel⟩
theorem ok_Near2 (D : Df K mg "_law_near" sNear2 ["box", "count", "twigs"]) (T : Txt K mg) (GDraw : C8.Cal P w K mg base 1 "_law_draw" spDraw []) (GShuffle : C8.Cal P w K mg base 2 "_law_shuffle" spShuffle []) (GTable2 : C8.Cal P w K mg base 1 "_law_table" spTable2 []) (GPairsR : C8.Cal P w K mg base 1 "_law_pairs" spPairsR []) : C8.Cal P w K mg base 3 "_law_near" spNear2 [] := by
  obtain ⟨f, fd, F, hm, hb⟩ := D
  refine ⟨f, fd, ["box", "count", "twigs"], [], F.ok scNear2 (fun vs H Q E h => ?_) (fun cdv A outer s H vs Q E hr h => ?_), hm, F.kp, hb, .nil⟩
  · obtain ⟨b, bc, l, n, as, ps, rfl, bx, n1, n2, hl, pa, gps, la, k⟩ := h
    rfl
  · obtain ⟨b, bc, l, n, as, ps, rfl, bx, n1, n2, hl, pa, gps, la, k⟩ := h
    obtain ⟨nb1, nb2, nb3, nb4⟩ := nn_b n2
    have e0 : (List.replicate ((n : Int) * (n : Int)).toNat [V.int 0]).flatten = (List.replicate (n * n) (0 : Int)).map V.int := by rw [nb4, rep_ints]
    refine ⟨_, (pss_cons (ps_set (i := 3) scNear2.nd rfl (Or.inl rfl) (C8.pe_c GDraw hr (by decide) (by rfl) (pa_cons (pv 0) (pa_cons pe_int pa_nil))))
      (pss_cons (ps_set (i := 4) scNear2.nd rfl (Or.inl rfl) (pe_callTy call_list_of (by rfl) T.list (by decide +kernel) (pa_cons (pv 2) pa_nil)))
      (C8.pss_cut (ps_if (PW.pt (pw_or (pt_cmpR op_eq (pv 3) pe_int (nomark _)) (pw_or1 (pt_cmpR op_eq (pv 3) pe_int (nomark _)))))
        (pss_one (ps_if (pt_cmpR (op_neD hr.units) (pv 4) (pe_lst pa_nil) (nomark _))
          (pss_one (ps_expr (pe_bm PySem.F.plainAttrs_list PySem.F.slot_list_pop PySem.F.type_list_pop mt_popR (pv 4) (pa_cons (C8.pe_c GDraw hr (by decide) (by rfl) (pa_cons (pv 0) (pa_cons (pe_callB call_len_seq (by rfl) T.len (by decide +kernel) (pa_cons (pv 4) pa_nil)) pa_nil))) pa_nil))))
          pss_nil))
        pss_nil)
      (pss_cons (ps_set (i := 5) scNear2.nd rfl (Or.inl rfl) (C8.pe_c GTable2 hr (by decide) (by rfl) (pa_cons (pv 1) (pa_cons (pv 4) pa_nil))))
      (pss_cons (ps_set (i := 6) scNear2.nd rfl (Or.inl rfl) (C8.pe_c GPairsR hr (by decide) (by rfl) (pa_cons (pv 1) (pa_cons (pv 5) (pa_cons pe_int pa_nil)))))
      (pss_cons (ps_set (i := 7) scNear2.nd rfl (Or.inl rfl) (C8.pe_c GPairsR hr (by decide) (by rfl) (pa_cons (pv 1) (pa_cons (pv 5) (pa_cons pe_int pa_nil)))))
      (C8.pss_cut (ps_if (PW.pt (pw_and (pt_cmpR op_eq (pv 3) pe_int (nomark _)) (pw_and1 (pt_cmpR (op_neD hr.units) (pv 6) (pe_lst pa_nil) (nomark _)))))
        (pss_cons (ps_set (i := 8) scNear2.nd rfl (Or.inl rfl) (pe_ix ix_list (pv 6) (C8.pe_c GDraw hr (by decide) (by rfl) (pa_cons (pv 0) (pa_cons (pe_callB call_len_seq (by rfl) T.len (by decide +kernel) (pa_cons (pv 6) pa_nil)) pa_nil))) (fun _ _ => rfl)))
        (pss_one (ps_asg pe_int (pg_sub (pv 5) (pe_op op_add (pe_op op_mul (pe_ix ix_tup (pv 8) pe_int (fun _ _ => rfl)) (pv 1)) (pe_ix ix_tup (pv 8) pe_int (fun _ _ => rfl))) set_I))))
        pss_nil)
      (C8.pss_cut (ps_if (PW.pt (pw_and (pt_chain op_le op_le pe_int (pv 3) pe_int) (pw_and1 (pt_cmpR (op_neD hr.units) (pv 7) (pe_lst pa_nil) (nomark _)))))
        (pss_cons (ps_set (i := 8) scNear2.nd rfl (Or.inl rfl) (pe_ix ix_list (pv 7) (C8.pe_c GDraw hr (by decide) (by rfl) (pa_cons (pv 0) (pa_cons (pe_callB call_len_seq (by rfl) T.len (by decide +kernel) (pa_cons (pv 7) pa_nil)) pa_nil))) (fun _ _ => rfl)))
        (pss_cons (ps_asg pe_int (pg_sub (pv 5) (pe_op op_add (pe_op op_mul (pe_ix ix_tup (pv 8) pe_int (fun _ _ => rfl)) (pv 1)) (pe_ix ix_tup (pv 8) pe_int (fun _ _ => rfl))) set_I))
        (pss_one (ps_if (pt_cmpR op_ne (pv 3) pe_int (nomark _))
          (pss_one (ps_asg pe_int (pg_sub (pv 5) (pe_op op_add (pe_op op_mul (pe_ix ix_tup (pv 8) pe_int (fun _ _ => rfl)) (pv 1)) (pe_ix ix_tup (pv 8) pe_int (fun _ _ => rfl))) set_I)))
          pss_nil))))
        pss_nil)
      (C8.pss_cut (ps_if (pt_cmpR op_eq (pv 3) pe_int (nomark _))
        (pss_cons (ps_set (i := 9) scNear2.nd rfl (Or.inl rfl) (C8.pe_c GShuffle hr (by decide) (by rfl) (pa_cons (pv 0) (pa_cons (pv 1) pa_nil))))
        (pss_cons (ps_set (i := 5) scNear2.nd rfl (Or.inl rfl) (pe_op op_rep (pe_lst (pa_cons pe_int pa_nil)) (pe_op op_mul (pv 1) (pv 1))))
        (pss_one (ps_for PassesOwn.never rfl (pi_range1 rfl T.range (pa_cons (pv 1) pa_nil)) (pg_name (i := 10) scNear2.nd rfl (Or.inl rfl))
          (pss_one (ps_if (pt_cmpR op_gt (pv 1) pe_int (nomark _))
            (pss_one (ps_asg pe_int (pg_sub (pv 5) (pe_op op_add (pe_op op_mul (pe_ix ix_I (pv 9) (pv 10) (fun _ _ => rfl)) (pv 1)) (pe_ix ix_I (pv 9) (pe_op op_modN (pe_callTy call_int1 (by rfl) T.int (by decide +kernel) (pa_cons (pe_op op_add (pv 10) pe_int) pa_nil)) (pv 1)) (fun _ _ => rfl))) set_I)))
            pss_nil))))))
        pss_nil)
      (C8.pss_cut (ps_if (pt_cmpR op_eq (pv 3) pe_int (nomark _))
        (pss_one (ps_for PassesOwn.never rfl (pi_list (pv 7)) (pg_name (i := 8) scNear2.nd rfl (Or.inl rfl))
          (pss_one (ps_asg pe_int (pg_sub (pv 5) (pe_op op_add (pe_op op_mul (pe_ix ix_tup (pv 8) pe_int (fun _ _ => rfl)) (pv 1)) (pe_ix ix_tup (pv 8) pe_int (fun _ _ => rfl))) set_I)))))
        pss_nil)
      (pss_cons (ps_if (pt_cmpR op_eq (pv 3) pe_int (nomark _))
        (pss_one (ps_set (i := 5) scNear2.nd rfl (Or.inl rfl) (pe_op op_rep (pe_lst (pa_cons pe_int pa_nil)) (pe_op op_mul (pv 1) (pv 1)))))
        pss_nil)
      (pss_one (ps_ret (pv 5)))))))))))))), ?_⟩
    -- kind = _law_draw(box, 8)
    refine ⟨_, rfl, _, _, _, rfl, (by fail "bx"), (by fail "om"), (by fail "om"), fun d1 H1 da1 db1 kp1 bx1 => ?_⟩
    -- rest = list(twigs)
    refine ⟨_, rfl, _, _, rfl, .inl (SqL.of (by fail "hp")), fun p2 np2 => ?_⟩
    refine ⟨fun σ H2 => ∃ (qs : List (Int × Int)) (cs : List Addr), σ = [some (.ref b), some (.int (n : Int)), some (.ref l), some (.int d1), some (.ref p2), none, none, none, none, none, none] ∧ Kp b H H2 ∧ BoxOk H2 b bc ∧ H2 p2 = some (.lst (cs.map V.ref)) ∧ PrT H2 cs qs ∧ (∀ q ∈ qs, Good n q) ∧ cs.length ≤ 24, ?_, ?_⟩
    · have nR : H p2 = none := kp_free kp1 bx1 np2
      have kp2 : Kp b H (upd H1 p2 (.lst (as.map V.ref))) := Kp.new kp1 np2
      have paR := PrT.mono pa (Tk.new (o := .lst (as.map V.ref)) (Kp.tk kp1 bx) np2)
      have bxR := BoxOk.new (o := .lst (as.map V.ref)) bx1 np2
      -- if kind == 1 or kind == 4:
      refine ⟨_, rfl, rfl, _, rfl, ?_⟩
      refine ifEqI (fun g3 => ?_) (fun g3 => ?_)
      · fail "ite"
        -- if rest != []:
        refine ⟨_, rfl, (by fail "sz"), fun p4 np4 => ⟨_, _, (by fail "dp"), (by fail "dp"), (by fail "shp"), (by fail "shp"), _, rfl, ?_⟩⟩
        refine nifB (fun g5 => ?_) (fun g5 => ?_)
        · have e1 : 1 ≤ as.length := by rw [pa.1]; first | exact prd_nil g5 | exact prd_nil g9
          -- rest.pop(_law_draw(box, len(rest)))
          refine ⟨_, rfl, .inl ⟨rfl, _, SqL.of (by fail "hp")⟩, _, rfl, _, rfl, _, _, rfl, .inl (SqL.of (by fail "hp")), _, _, _, rfl, (by fail "bx"), (by fail "om"), (by fail "om"), fun d6 H6 da6 db6 kp6 bx6 => ⟨_, _, _, rfl, rfl, (by fail "hp"), (by fail "om"), (by fail "om"), (by fail "om"), ?_⟩⟩
          exact ⟨ps.eraseIdx d6.toNat, as.eraseIdx d6.toNat, rfl, Kp.mut (Kp.trans (Kp.new kp2 np4) kp6) nR, BoxOk.mut bx6 bx nR, upd_same, PrT.erase (PrT.mono paR (Tk.lst (Tk.tr (Kp.tk kp6 (BoxOk.new bxR np4)) (Tk.new Tk.refl np4)) (kp6.get (BoxOk.new bxR np4) (upd_new upd_same np4) nb_refs))) _, fun q hq => gps q (List.mem_of_mem_eraseIdx hq), by have := List.length_eraseIdx_le as d6.toNat; omega⟩
        · exact ⟨ps, as, rfl, Kp.new kp2 np4, BoxOk.new bxR np4, upd_new upd_same np4, PrT.mono paR (Tk.new Tk.refl np4), gps, la⟩
      · refine ⟨_, rfl, rfl, _, rfl, ?_⟩
        refine ifEqI (fun g7 => ?_) (fun g7 => ?_)
        · -- if rest != []:
          refine ⟨_, rfl, (by fail "sz"), fun p8 np8 => ⟨_, _, (by fail "dp"), (by fail "dp"), (by fail "shp"), (by fail "shp"), _, rfl, ?_⟩⟩
          refine nifB (fun g9 => ?_) (fun g9 => ?_)
          · have e1 : 1 ≤ as.length := by rw [pa.1]; first | exact prd_nil g5 | exact prd_nil g9
            -- rest.pop(_law_draw(box, len(rest)))
            refine ⟨_, rfl, .inl ⟨rfl, _, SqL.of (by fail "hp")⟩, _, rfl, _, rfl, _, _, rfl, .inl (SqL.of (by fail "hp")), _, _, _, rfl, (by fail "bx"), (by fail "om"), (by fail "om"), fun d10 H10 da10 db10 kp10 bx10 => ⟨_, _, _, rfl, rfl, (by fail "hp"), (by fail "om"), (by fail "om"), (by fail "om"), ?_⟩⟩
            exact ⟨ps.eraseIdx d10.toNat, as.eraseIdx d10.toNat, rfl, Kp.mut (Kp.trans (Kp.new kp2 np8) kp10) nR, BoxOk.mut bx10 bx nR, upd_same, PrT.erase (PrT.mono paR (Tk.lst (Tk.tr (Kp.tk kp10 (BoxOk.new bxR np8)) (Tk.new Tk.refl np8)) (kp10.get (BoxOk.new bxR np8) (upd_new upd_same np8) nb_refs))) _, fun q hq => gps q (List.mem_of_mem_eraseIdx hq), by have := List.length_eraseIdx_le as d10.toNat; omega⟩
          · exact ⟨ps, as, rfl, Kp.new kp2 np8, BoxOk.new bxR np8, upd_new upd_same np8, PrT.mono paR (Tk.new Tk.refl np8), gps, la⟩
        · exact ⟨ps, as, rfl, kp2, bxR, upd_same, paR, gps, la⟩
    · rintro σ Hr ⟨qs, cs, rfl, kpr, bxr, hcr, pcr, gr, lcr⟩
      -- table = _law_table(count, rest)
      refine ⟨_, rfl, _, rfl, _, _, _, _, rfl, (by fail "hp"), (by fail "pr"), (by fail "om"), (by assumption), fun t11 M11 H11 nt11 sm11 ht11 tb11 => ?_⟩
      have tgI := good_tabI tb11 gr
      obtain ⟨R, eR⟩ : ∃ R, R = relP qs true := ⟨_, rfl⟩
      rw [← eR] at tb11
      -- standing = _law_pairs(count, table, 1)
      refine ⟨_, rfl, _, rfl, _, _, _, _, _, rfl, (by fail "om"), (by fail "hp"), (by assumption), fun p12 as12 H12 sm12 np12 hp12 pt12 => ?_⟩
      -- absent = _law_pairs(count, table, 0)
      refine ⟨_, rfl, _, rfl, _, _, _, _, _, rfl, (by fail "om"), (by fail "hp"), (by assumption), fun p13 as13 H13 sm13 np13 hp13 pt13 => ?_⟩
      refine ⟨fun σ H2 => ∃ (pt : Addr) (M : List Int) (v8 v9 v10 : Option V), σ = [some (.ref b), some (.int (n : Int)), some (.ref l), some (.int d1), some (.ref p2), some (.ref pt), some (.ref p12), some (.ref p13), v8, v9, v10] ∧ Nr b bc pt p12 p13 n H H2 M as12 as13 (prs R 1 (every n) (every n)) (prs R 0 (every n) (every n)), ?_, ?_⟩
      · have smS : Same Hr H13 := (sm11.trans sm12).trans sm13
        have xi : Nr b bc t11 p12 p13 n H H13 M11 as12 as13 (prs R 1 (every n) (every n)) (prs R 0 (every n) (every n)) :=
          ⟨Kp.trans kpr (Kp.of smS), BoxOk.same smS bxr, kp_free kpr bxr nt11, sm13 _ _ (sm12 _ _ ht11), tgI, sm13 _ _ hp12, PrT.mono pt12 (Same.tk sm13), hp13, pt13, ne_of_none ht11 np12 |>.symm, (ne_of_none (sm12 _ _ ht11) np13).symm⟩
        have hq0 := xi.hq
        have pq0 := xi.pq
        have hr0 := xi.hr
        have pr0 := xi.pr
        have ht0 := xi.ht
        have bx0 := xi.bx
        -- if kind == 0 and standing != []:
        refine ⟨_, rfl, rfl, _, rfl, ?_⟩
        refine ifEqI (fun g14 => ?_) (fun g14 => ?_)
        · refine ⟨_, rfl, (by fail "sz"), fun p15 np15 => ⟨_, _, (by fail "dp"), (by fail "dp"), (by fail "shp"), (by fail "shp"), _, rfl, ?_⟩⟩
          refine nifB (fun g16 => ?_) (fun g16 => ?_)
          · have e1 : 1 ≤ as12.length := by rw [pt12.1]; exact prd_nil g16
            have l1 : as12.length ≤ 576 := by rw [pt12.1]; exact prs_576 R 1 (by rw [every_len]; exact n2)
            -- pair = standing[_law_draw(box, len(standing))]
            refine ⟨_, rfl, _, rfl, _, rfl, _, _, rfl, .inl (SqL.of (by fail "hp")), _, _, _, rfl, (by fail "bx"), (by fail "om"), (by fail "om"), fun d17 H17 da17 db17 kp17 bx17 => ⟨_, _, _, _, rfl, rfl, SqL.of (by fail "hp"), (by fail "ix"), ?_⟩⟩
            have xj := (xi.new (o := .lst []) np15).go kp17 bx17
            have dlt : d17.toNat < (prs R 1 (every n) (every n)).length := by
              rw [← xj.pq.1]
              simp only [List.length_map] at db17
              omega
            obtain ⟨a1, x1, y1, ea, ep, hta⟩ := xj.pq.at dlt
            have eg : as12.getD d17.toNat 0 = a1 := by rw [List.getD_eq_getElem?_getD, ea]; rfl
            rw [eg]
            have htj := xj.ht
            have hg := prs_good (every_ok n) _ (List.mem_of_getElem? ep)
            obtain ⟨x, ex, hx⟩ := toN (n := n) (x := x1) hg.1 hg.2.1
            obtain ⟨y, ey, hy⟩ := toN (n := n) (x := y1) hg.2.2.1 hg.2.2.2.1
            subst ex
            subst ey
            have ne : x ≠ y := fun z => hg.2.2.2.2 (by rw [z])
            have in1 := ixT xj.tb.len hx hy
            
            -- table[pair[0] * count + pair[1]] = 0
            refine ⟨_, rfl, _, rfl, _, _, _, _, rfl, rfl, SqT.of (by fail "hp"), (by fail "ix"), _, rfl, _, _, rfl, rfl, (by fail "mul"), _, rfl, _, _, _, _, rfl, rfl, SqT.of (by fail "hp"), (by fail "ix"), _, _, rfl, rfl, _, _, _, _, _, rfl, rfl, rfl, (by fail "hp"), (by fail "ixn"), ?_⟩
            exact ⟨t11, _, _, _, _, rfl, xj.put bx (xj.tb.cut hx hy)⟩
          · exact ⟨t11, _, _, _, _, rfl, xi.new np15⟩
        · fail "ite"
          exact ⟨t11, _, _, _, _, rfl, xi⟩
      · rintro σ Hi ⟨pt, M, v8, v9, v10, rfl, xi⟩
        have hq0 := xi.hq
        have pq0 := xi.pq
        have hr0 := xi.hr
        have pr0 := xi.pr
        have ht0 := xi.ht
        have bx0 := xi.bx
        refine ⟨fun σ H2 => ∃ (pt : Addr) (M : List Int) (v8 v9 v10 : Option V), σ = [some (.ref b), some (.int (n : Int)), some (.ref l), some (.int d1), some (.ref p2), some (.ref pt), some (.ref p12), some (.ref p13), v8, v9, v10] ∧ Nr b bc pt p12 p13 n H H2 M as12 as13 (prs R 1 (every n) (every n)) (prs R 0 (every n) (every n)), ?_, ?_⟩
        · -- if 2 <= kind <= 4 and absent != []:
          refine ⟨_, rfl, _, _, rfl, rfl, _, rfl, ?_⟩
          refine ifD (fun g18 => ?_) (fun g18 => ?_)
          · refine ⟨_, _, rfl, rfl, _, rfl, ?_⟩
            refine ifD (fun g19 => ?_) (fun g19 => ?_)
            · refine ⟨_, rfl, (by fail "sz"), fun p20 np20 => ⟨_, _, (by fail "dp"), (by fail "dp"), (by fail "shp"), (by fail "shp"), _, rfl, ?_⟩⟩
              refine nifB (fun g21 => ?_) (fun g21 => ?_)
              · have e1 : 1 ≤ as13.length := by rw [pt13.1]; exact prd_nil g21
                have l1 : as13.length ≤ 576 := by rw [pt13.1]; exact prs_576 R 0 (by rw [every_len]; exact n2)
                -- pair = absent[_law_draw(box, len(absent))]
                refine ⟨_, rfl, _, rfl, _, rfl, _, _, rfl, .inl (SqL.of (by fail "hp")), _, _, _, rfl, (by fail "bx"), (by fail "om"), (by fail "om"), fun d22 H22 da22 db22 kp22 bx22 => ⟨_, _, _, _, rfl, rfl, SqL.of (by fail "hp"), (by fail "ix"), ?_⟩⟩
                have xj := (xi.new (o := .lst []) np20).go kp22 bx22
                have dlt : d22.toNat < (prs R 0 (every n) (every n)).length := by
                  rw [← xj.pr.1]
                  simp only [List.length_map] at db22
                  omega
                obtain ⟨a1, x1, y1, ea, ep, hta⟩ := xj.pr.at dlt
                have eg : as13.getD d22.toNat 0 = a1 := by rw [List.getD_eq_getElem?_getD, ea]; rfl
                rw [eg]
                have htj := xj.ht
                have hg := prs_good (every_ok n) _ (List.mem_of_getElem? ep)
                obtain ⟨x, ex, hx⟩ := toN (n := n) (x := x1) hg.1 hg.2.1
                obtain ⟨y, ey, hy⟩ := toN (n := n) (x := y1) hg.2.2.1 hg.2.2.2.1
                subst ex
                subst ey
                have ne : x ≠ y := fun z => hg.2.2.2.2 (by rw [z])
                have in1 := ixT xj.tb.len hx hy
                -- table[pair[0] * count + pair[1]] = 1
                refine ⟨_, rfl, _, rfl, _, _, _, _, rfl, rfl, SqT.of (by fail "hp"), (by fail "ix"), _, rfl, _, _, rfl, rfl, (by fail "mul"), _, rfl, _, _, _, _, rfl, rfl, SqT.of (by fail "hp"), (by fail "ix"), _, _, rfl, rfl, _, _, _, _, _, rfl, rfl, rfl, (by fail "hp"), (by fail "ixn"), ?_⟩
                -- if kind != 2:
                refine ⟨_, rfl, rfl, _, rfl, ?_⟩
                refine ifNeI (fun g23 => ?_) (fun g23 => ?_)
                · have in2 := ixT (xj.tb.put hx hy ne).len hy hx
                  -- table[pair[1] * count + pair[0]] = 1
                  refine ⟨_, rfl, _, rfl, _, _, _, _, rfl, rfl, SqT.of (by fail "hp"), (by fail "ix"), _, rfl, _, _, rfl, rfl, (by fail "mul"), _, rfl, _, _, _, _, rfl, rfl, SqT.of (by fail "hp"), (by fail "ix"), _, _, rfl, rfl, _, _, _, _, _, rfl, rfl, rfl, (by fail "hp"), (by fail "ixn"), ?_⟩
                  exact ⟨pt, _, _, _, _, rfl, (xj.put bx (xj.tb.put hx hy ne)).put bx ((xj.tb.put hx hy ne).put hy hx ne.symm)⟩
                · exact ⟨pt, _, _, _, _, rfl, xj.put bx (xj.tb.put hx hy ne)⟩
              · exact ⟨pt, _, _, _, _, rfl, xi.new np20⟩
            · fail "ite"
              exact ⟨pt, _, _, _, _, rfl, xi⟩
          · refine ⟨_, rfl, ?_⟩
            fail "ite"
            fail "ite"
            exact ⟨pt, _, _, _, _, rfl, xi⟩
        · rintro σ Hi ⟨pt, M, v8, v9, v10, rfl, xi⟩
          have hq0 := xi.hq
          have pq0 := xi.pq
          have hr0 := xi.hr
          have pr0 := xi.pr
          have ht0 := xi.ht
          have bx0 := xi.bx
          refine ⟨fun σ H2 => ∃ (pt : Addr) (M : List Int) (v8 v9 v10 : Option V), σ = [some (.ref b), some (.int (n : Int)), some (.ref l), some (.int d1), some (.ref p2), some (.ref pt), some (.ref p12), some (.ref p13), v8, v9, v10] ∧ Nr b bc pt p12 p13 n H H2 M as12 as13 (prs R 1 (every n) (every n)) (prs R 0 (every n) (every n)), ?_, ?_⟩
          · -- if kind == 5:
            refine ⟨_, rfl, rfl, _, rfl, ?_⟩
            refine ifEqI (fun g24 => ?_) (fun g24 => ?_)
            · -- order = _law_shuffle(box, count)
              refine ⟨_, rfl, _, rfl, _, _, _, rfl, (by fail "bx"), (by fail "om"), fun p25 ms25 H25 mo25 ml25 kp25 bx25 np25 hp25 => ?_⟩
              -- table = [0] * (count * count)
              refine ⟨(by fail "sz"), fun p27 np27 => ⟨_, rfl, _, rfl, _, _, rfl, rfl, (by fail "mul"), _, _, _, rfl, rfl, (by fail "hp"), (by fail "om"), (by fail "om"), (by fail "sz"), fun p26 np26 => ?_⟩⟩
              rw [e0]
              have x5 := ((xi.go kp25 bx25).new (o := .lst [V.int 0]) np27).tab np26 (TabI.zero n)
              have h25 := upd_new (o := .lst ((List.replicate (n * n) (0 : Int)).map V.int)) (upd_new (o := .lst [V.int 0]) hp25 np27) np26
              have ne25 : p25 ≠ p26 := ne_of_none (upd_new (o := .lst [V.int 0]) hp25 np27) np26
              -- for k in range(count):
              refine ⟨_, rfl, _, rfl, (by fail "om"), (by fail "om"), for_range (fun i σ H2 => ∃ (w10 : Option V) (M2 : List Int), σ = [some (.ref b), some (.int (n : Int)), some (.ref l), some (.int d1), some (.ref p2), some (.ref p26), some (.ref p12), some (.ref p13), v8, some (.ref p25), w10] ∧ Nr b bc p26 p12 p13 n H H2 M2 as12 as13 (prs R 1 (every n) (every n)) (prs R 0 (every n) (every n)) ∧ H2 p25 = some (.lst (ms25.map V.int))) ⟨_, _, rfl, x5, h25⟩ ?_ ?_⟩
              · rintro i σ Hj hj ⟨w10, M2, rfl, xk, h25k⟩
                have hin : i < n := by omega
                obtain ⟨x, ix1, hx, ex⟩ := mo25.at (i := (0 : Int) + (i : Int)) (by omega) (by omega)
                obtain ⟨y, ix2, hy, ey⟩ := mo25.at (i := ((0 : Int) + (i : Int) + 1).fmod (n : Int)) (fm0 _ (by omega)) (by rw [ml25]; exact fm1 _ (by omega))
                have in1 := ixT xk.tb.len hx hy
                have htk := xk.ht
                -- if count > 1:
                refine ⟨_, rfl, _, _, rfl, rfl, _, rfl, ?_⟩
                refine ifD (fun g28 => ?_) (fun g28 => ?_)
                · have rn := ring_ne (s := (n : Int)) (k := (0 : Int) + (i : Int)) (by omega) (by omega) (by omega)
                  have f0 := fm0 ((0 : Int) + (i : Int) + 1) (n := (n : Int)) (by omega)
                  have nexy : x ≠ y := mo25.ne ex ey (by omega)
                  -- table[order[k] * count + order[int(k + 1) % count]] = 1
                  refine ⟨_, rfl, _, rfl, _, rfl, _, _, _, _, rfl, rfl, (by fail "hp"), (by fail "ix"), _, rfl, _, _, rfl, rfl, (by fail "mul"), _, rfl, _, rfl, _, _, rfl, rfl, .inl ⟨_, rfl, _, rfl, _, _, rfl, rfl, (by fail "nz"), _, _, _, _, rfl, rfl, (by fail "hp"), (by fail "ix"), _, _, rfl, rfl, _, _, _, _, _, rfl, rfl, rfl, (by fail "hp"), (by fail "ixn"), ?_⟩⟩
                  exact ⟨_, _, rfl, xk.put bx (xk.tb.put hx hy nexy), by rw [upd_ne ne25]; exact h25k⟩
                · exact ⟨_, M2, rfl, xk, h25k⟩
              · rintro σ Hj ⟨w10, M2, rfl, xk, h25k⟩
                exact ⟨p26, M2, _, _, _, rfl, xk⟩
            · exact ⟨pt, M, _, _, _, rfl, xi⟩
          · rintro σ Hi ⟨pt, M, v8, v9, v10, rfl, xi⟩
            have hq0 := xi.hq
            have pq0 := xi.pq
            have hr0 := xi.hr
            have pr0 := xi.pr
            have ht0 := xi.ht
            have bx0 := xi.bx
            refine ⟨fun σ H2 => ∃ (pt : Addr) (M : List Int) (v8 v9 v10 : Option V), σ = [some (.ref b), some (.int (n : Int)), some (.ref l), some (.int d1), some (.ref p2), some (.ref pt), some (.ref p12), some (.ref p13), v8, v9, v10] ∧ Nr b bc pt p12 p13 n H H2 M as12 as13 (prs R 1 (every n) (every n)) (prs R 0 (every n) (every n)), ?_, ?_⟩
            · -- if kind == 6:
              refine ⟨_, rfl, rfl, _, rfl, ?_⟩
              refine ifEqI (fun g29 => ?_) (fun g29 => ?_)
              · -- for pair in absent:
                refine ⟨_, rfl, _, rfl, ⟨_, SqL.of (by fail "hp")⟩, for_list (K := K) (a := p13) (xs := as13.map V.ref) (fun i σ H2 => ∃ (w8 : Option V) (M2 : List Int), σ = [some (.ref b), some (.int (n : Int)), some (.ref l), some (.int d1), some (.ref p2), some (.ref pt), some (.ref p12), some (.ref p13), w8, v9, v10] ∧ Nr b bc pt p12 p13 n H H2 M2 as12 as13 (prs R 1 (every n) (every n)) (prs R 0 (every n) (every n))) ⟨_, _, rfl, xi⟩ (fun i σ H2 _ z => by obtain ⟨_, _, _, x⟩ := z; exact SqL.of x.hr) ?_ ?_⟩
                · rintro i x0 σ Hj hx0 ⟨w8, M2, rfl, xj⟩
                  obtain ⟨a1, x1, y1, rfl, ea, ep, hta⟩ := xj.pr.item hx0
                  have htj := xj.ht
                  have hg := prs_good (every_ok n) _ (List.mem_of_getElem? ep)
                  obtain ⟨x, ex, hx⟩ := toN (n := n) (x := x1) hg.1 hg.2.1
                  obtain ⟨y, ey, hy⟩ := toN (n := n) (x := y1) hg.2.2.1 hg.2.2.2.1
                  subst ex
                  subst ey
                  have ne : x ≠ y := fun z => hg.2.2.2.2 (by rw [z])
                  have in1 := ixT xj.tb.len hx hy
                  -- table[pair[0] * count + pair[1]] = 1
                  refine ⟨_, rfl, _, rfl, _, _, _, _, rfl, rfl, SqT.of (by fail "hp"), (by fail "ix"), _, rfl, _, _, rfl, rfl, (by fail "mul"), _, rfl, _, _, _, _, rfl, rfl, SqT.of (by fail "hp"), (by fail "ix"), _, _, rfl, rfl, _, _, _, _, _, rfl, rfl, rfl, (by fail "hp"), (by fail "ixn"), ?_⟩
                  exact ⟨_, _, rfl, xj.put bx (xj.tb.put hx hy ne)⟩
                · rintro σ Hj ⟨w8, M2, rfl, xk⟩
                  exact ⟨pt, M2, _, _, _, rfl, xk⟩
              · exact ⟨pt, M, _, _, _, rfl, xi⟩
            · rintro σ Hi ⟨pt, M, v8, v9, v10, rfl, xi⟩
              have hq0 := xi.hq
              have pq0 := xi.pq
              have hr0 := xi.hr
              have pr0 := xi.pr
              have ht0 := xi.ht
              have bx0 := xi.bx
              -- if kind == 7:
              refine ⟨_, rfl, rfl, _, rfl, ?_⟩
              refine ifEqI (fun g30 => ?_) (fun g30 => ?_)
              · -- table = [0] * (count * count)
                refine ⟨(by fail "sz"), fun p32 np32 => ⟨_, rfl, _, rfl, _, _, rfl, rfl, (by fail "mul"), _, _, _, rfl, rfl, (by fail "hp"), (by fail "om"), (by fail "om"), (by fail "sz"), fun p31 np31 => ?_⟩⟩
                -- return table
                refine ⟨_, rfl, ?_⟩
                rw [e0]
                have x7 := (xi.new (o := .lst [V.int 0]) np32).tab np31 (TabI.zero n)
                exact k p31 _ _ (TabI.zero n) x7.kp x7.bx x7.nt x7.ht
              · -- return table
                refine ⟨_, rfl, ?_⟩
                exact k pt M _ xi.tb xi.kp xi.bx xi.nt xi.ht
end
end K02

end
section
set_option Elab.async false
set_option linter.all false
set_option maxRecDepth 100000
set_option maxHeartbeats 4000000
namespace K02
open PySem L2 Kit KR KX KI RM
local macro_rules | `(tactic| fail "om") => `(tactic| first | omega | (simp only [List.length_map, List.length_append, List.length_cons, List.length_nil]; omega) | (simp only [List.length_map, List.length_append, List.length_cons, List.length_nil] at *; omega) | assumption | decide | (simp only [List.length_take, List.length_drop]; omega) | (rw [every_len]; omega) | fail "no om")
local macro_rules | `(tactic| fail "nz") => `(tactic| first | decide | omega | fail "no nz")
local macro_rules | `(tactic| fail "dv") => `(tactic| exact ⟨by first | decide | omega, by first | decide | omega⟩)
local macro_rules | `(tactic| fail "mul") => `(tactic| first | exact .inr ⟨by decide, by decide⟩ | exact .inl ⟨by decide, by decide⟩ | exact mulF (by decide) (by decide) | exact .inl ⟨by omega, by omega⟩ | exact .inr ⟨by omega, by omega⟩ | fail "no mul")
local macro_rules | `(tactic| fail "sz") => `(tactic| first | assumption | exact Nat.zero_le _ | (show 1 ≤ sizeLine; decide) | (show 2 ≤ sizeLine; decide) | (show 3 ≤ sizeLine; decide) | (show 4 ≤ sizeLine; decide) | (show 5 ≤ sizeLine; decide) | exact Evl.sz_of (by omega) | (refine Evl.sz_of ?_; simp only [List.length_append, List.length_map, List.length_cons, List.length_nil]; omega) | (refine Evl.sz_of ?_; simp only [List.length_append, List.length_map, List.length_cons, List.length_nil, List.length_take, List.length_drop]; omega) | fail "no sz")
local macro_rules | `(tactic| fail "szl") => `(tactic| first | exact Evl.sz_lt (by omega) | (refine Evl.sz_lt ?_; simp only [List.length_append, List.length_map, List.length_cons, List.length_nil]; omega) | fail "no szl")
local macro_rules | `(tactic| fail "ix") => `(tactic| first | assumption | exact ix0 | exact ix1 | exact ix2 | exact at_ref (by assumption) (by omega) | exact at_int (by assumption) (by omega) | exact at_drawn (by assumption) (by assumption) | exact at_lit (by first | assumption | omega) (by fail "om") | rfl | fail "no ix")
local macro_rules | `(tactic| fail "ixn") => `(tactic| first | rfl | assumption | fail "no ixn")
local macro_rules | `(tactic| fail "nb") => `(tactic| first | assumption | exact nb_tup | exact nb_nil | exact nb_ints | exact nb_refs | exact nb_ins | exact nb_dT | exact nb_frz | fail "no nb")
local macro_rules | `(tactic| fail "ne") => `(tactic| first | assumption | exact Ne.symm (by assumption) | exact ne_of_none (by assumption) (by assumption) | exact (ne_of_none (by assumption) (by assumption)).symm | exact ne_of (by assumption) (by assumption) (by intro q; cases q) | exact ne_of (by assumption) (by assumption) (by simp) | fail "no ne")
local macro_rules | `(tactic| fail "hp") => `(tactic| first | assumption | exact upd_same | exact lit0 | exact lit1 | exact lit3 | exact lit2 | (refine' Tk.get (by assumption) ?k1; (case k1 => fail "tk")) | (with_reducible refine' upd_new ?h1 ?n1; (case n1 => assumption); (case h1 => fail "hp")) | (refine' Same.get (by assumption) ?h1; (case h1 => fail "hp")) | (refine' Kp.get (by assumption) (by fail "bx") ?h1 ?d1; (case h1 => fail "hp"); (case d1 => fail "nb")) | (with_reducible refine' upd_oth ?h1 ?n1; (case n1 => fail "ne"); (case h1 => fail "hp")) | (with_reducible refine' upd_oth ?h1 ?n1; (case h1 => fail "hp"); (case n1 => fail "ne")) | (refine' Kq.get (by assumption) (by fail "bx") ?h1 ?d1 (by fail "ne"); (case h1 => fail "hp"); (case d1 => fail "nb")) | fail "no hp")
local macro_rules | `(tactic| fail "bx") => `(tactic| first | assumption | (with_reducible refine' BoxOk.new ?h1 ?n1; (case n1 => assumption); (case h1 => fail "bx")) | (refine' BoxOk.same (by assumption) ?h1; (case h1 => fail "bx")) | (with_reducible refine' BoxOk.mut ?h1 ?h2 ?n1; (case n1 => assumption); (case h2 => assumption); (case h1 => fail "bx")) | fail "no bx")
local macro_rules | `(tactic| fail "kp") => `(tactic| first | assumption | exact Kp.refl | (with_reducible refine' Kp.at ?h1; (case h1 => fail "kp")) | (with_reducible refine' Kp.new ?h1 ?n1; (case n1 => assumption); (case h1 => fail "kp")) | (with_reducible refine' Kp.mut ?h1 ?n1; (case n1 => assumption); (case h1 => fail "kp")) | (refine' Kp.tr (by assumption) ?h1; (case h1 => fail "kp")) | (refine' Kp.tr (Kp.of (by assumption)) ?h1; (case h1 => fail "kp")) | (refine' Kq.kp (by assumption) ?h1 (by assumption); (case h1 => fail "kp")) | fail "no kp")
local macro_rules | `(tactic| fail "ite") => `(tactic| first | refine iteT ?_ | refine iteF ?_)
local macro_rules | `(tactic| fail "tt") => `(tactic| first | rfl | exact decide_eq_true (by first | rfl | omega | assumption) | exact decide_eq_true (congrArg V.int (by first | rfl | omega)) | fail "no tt")
local macro_rules | `(tactic| fail "cv") => `(tactic| first | exact .ty _ | exact .own _)
local macro_rules | `(tactic| fail "tx") => `(tactic| first | exact .base (.int _) | exact .base (.bl _) | exact .base .non | exact .base (.lst (by fail "hp")) | exact .base (.tup (by fail "hp")) | fail "no tx")
local macro_rules | `(tactic| fail "dead") => `(tactic| (exfalso; first | omega | contradiction | simp_all))
local macro_rules | `(tactic| fail "dp") => `(tactic| first | exact .tup (SqT.of (by fail "hp")) (.cons (.int _) (.cons (.int _) .nil)) | exact .lst (SqL.of (by fail "hp")) (dpPrs (by fail "pr")) | exact .lst (SqL.of (by fail "hp")) (dpInts _) | exact .lst (SqL.of (by fail "hp")) .nil | fail "no dp")
local macro_rules | `(tactic| fail "shp") => `(tactic| first | assumption | exact prD_shaped _ | exact PySem.W.ke_shaped_ints _ | rfl | fail "no shp")
local macro_rules | `(tactic| fail "pr") => `(tactic| first | assumption | exact PrT.mono (by assumption) (by fail "tk") | fail "no pr")
local macro_rules | `(tactic| fail "tk") => `(tactic| first | assumption | exact Tk.refl | (with_reducible refine' Tk.new ?h1 ?n1; (case n1 => assumption); (case h1 => fail "tk")) | (refine' Tk.tr (Kp.tk (by assumption) (by fail "bx")) ?h1; (case h1 => fail "tk")) | (refine' Tk.tr (Same.tk (by assumption)) ?h1; (case h1 => fail "tk")) | (with_reducible refine' Tk.lst ?h1 ?n1; (case n1 => fail "hp"); (case h1 => fail "tk")) | fail "no tk")
local macro_rules | `(tactic| fail "lk") => `(tactic| first | exact netF_count _ _ | exact netF_links _ _ | exact netF_no _ _ (by decide +kernel) (by decide +kernel) | fail "no lk")
local macro_rules | `(tactic| fail "kt") => `(tactic| first | exact upd_same | assumption | fail "hp")
local macro_rules | `(tactic| fail "na") => `(tactic| first | assumption | (with_reducible refine' NetAt.new ?h1 ?n1; (case n1 => assumption); (case h1 => fail "na")) | (refine' NetAt.same (by assumption) ?h1; (case h1 => fail "na")) | (refine' NetAt.kp (by assumption) (by fail "bx") ?h1; (case h1 => fail "na")) | (with_reducible refine' NetAt.lst ?h1 ?n1; (case n1 => fail "hp"); (case h1 => fail "na")) | fail "no na")
local macro_rules | `(tactic| fail "mono") => `(tactic| first | exact fun _ _ _ _ h q => h _ _ q | exact fun _ _ _ _ h q => (let ⟨v, e, z⟩ := q; ⟨v, e, h _ _ z⟩) | exact fun _ _ _ _ h q => (let ⟨v, e, u, f, z⟩ := q; ⟨v, e, u, f, h _ _ z⟩) | fail "no mono")
local macro_rules | `(tactic| fail "sm") => `(tactic| first | assumption | exact Same.refl _ | (with_reducible refine' Same.new ?h1 ?n1; (case n1 => assumption); (case h1 => fail "sm")) | (refine' Same.tr (by assumption) ?h1; (case h1 => fail "sm")) | fail "no sm")
local macro_rules | `(tactic| fail "fld") => `(tactic| first | (show 0 < 1000; decide) | (show 1 < 1000; decide) | fail "no fld")
local macro_rules | `(tactic| fail "kq") => `(tactic| first | assumption | exact Kq.refl | (with_reducible refine' Kq.at ?h1; (case h1 => fail "kq")) | (with_reducible refine' Kq.new ?h1 ?n1; (case n1 => assumption); (case h1 => fail "kq")) | (refine' Kq.trans ?h1 (by assumption); (case h1 => fail "kq")) | (refine' Kq.trans ?h1 (Kq.of (by assumption)); (case h1 => fail "kq")) | (refine' Kq.trans ?h1 (Kq.ofS (by assumption)); (case h1 => fail "kq")) | fail "no kq")
local macro_rules | `(tactic| fail "mo") => `(tactic| first | assumption | exact MemOk.take (by assumption) _ | exact MemOk.drop (by assumption) _ | exact every_ok _ | fail "no mo")

section
variable {P : Program} {w : World} {K : PySem.W.Frag} {mg : Str → Option Value} {base : Heap} {CN CI CU CL CT CS Pt : Addr} {mc mu : Value}




/-- how far, -1 where nothing was found -/
def fv (D : Nat → Bool) (d : Nat → Nat) (x : Nat) : Int := if D x = true then (d x : Int) else -1
def fl (n : Nat) (D : Nat → Bool) (d : Nat → Nat) : List Int := (List.range n).map (fv D d)
theorem fl_len (n : Nat) (D : Nat → Bool) (d : Nat → Nat) : (fl n D d).length = n := by unfold fl; rw [List.length_map, List.length_range]
theorem fl_at {n x : Nat} (D : Nat → Bool) (d : Nat → Nat) (h : x < n) : (fl n D d)[x]? = some (fv D d x) := by
  unfold fl
  rw [List.getElem?_map, List.getElem?_range h]
  rfl
theorem fl_ix {n x : Nat} (D : Nat → Bool) (d : Nat → Nat) (h : x < n) : atI ((fl n D d).map V.int) (x : Int) = some (V.int (fv D d x)) := at_int (fl_at D d h) rfl
theorem fv_yes {D : Nat → Bool} {d : Nat → Nat} {x : Nat} (h : D x = true) : fv D d x = (d x : Int) := if_pos h
theorem fv_neg {D : Nat → Bool} {d : Nat → Nat} {x : Nat} : fv D d x < 0 ↔ D x = false := by
  unfold fv
  cases D x
  · exact ⟨fun _ => rfl, fun _ => by rw [if_neg Bool.false_ne_true]; decide⟩
  · exact ⟨fun q => absurd q (by rw [if_pos rfl]; omega), fun q => nomatch q⟩
theorem fl_set {n y v : Nat} (D : Nat → Bool) (d : Nat → Nat) (h : y < n) : (fl n D d).set y (v : Int) = fl n (on D y) (TM.put d y v) := by
  refine List.ext_getElem? fun i => ?_
  by_cases e : i = y
  · subst e
    rw [List.getElem?_set_self (by rw [fl_len]; exact h), fl_at _ _ h]
    unfold fv on TM.put
    rw [decide_eq_true rfl, Bool.or_true, if_pos rfl, if_pos rfl]
  · rw [List.getElem?_set_ne (fun z => e z.symm)]
    by_cases l : i < n
    · rw [fl_at _ _ l, fl_at _ _ l]
      unfold fv on TM.put
      rw [decide_eq_false e, Bool.or_false, if_neg e]
    · rw [List.getElem?_eq_none (by rw [fl_len]; omega), List.getElem?_eq_none (by rw [fl_len]; omega)]
theorem fl_none (n : Nat) (d : Nat → Nat) : List.replicate n (-1 : Int) = fl n (fun _ => false) d := by
  refine List.ext_getElem? fun i => ?_
  by_cases l : i < n
  · rw [fl_at _ _ l, List.getElem?_replicate, if_pos l]
    rfl
  · rw [List.getElem?_eq_none (by rw [List.length_replicate]; omega), List.getElem?_eq_none (by rw [fl_len]; omega)]
theorem fl_congr {n : Nat} {D D' : Nat → Bool} {d d' : Nat → Nat} (h : ∀ x, x < n → D x = D' x ∧ (D x = true → d x = d' x)) : fl n D d = fl n D' d' := by
  unfold fl
  refine List.map_congr_left fun x hx => ?_
  obtain ⟨a, b⟩ := h x (List.mem_range.mp hx)
  unfold fv
  rw [← a]
  cases q : D x
  · rfl
  · rw [b q]
theorem dm_one (r : Nat) : ∀ x, dm [(r : Int)] x = true ↔ x = r := fun x => by
  rw [dm_iff, List.mem_singleton]
  omega
def spFar : Sp := fun vs H Q _ => ∃ (t : Addr) (n r : Nat) (M : List Int) (R : Rel), vs = [.int (n : Int), .ref t, .int (r : Int)] ∧ n ≤ 24 ∧ r < n ∧ H t = some (.lst (M.map V.int)) ∧ IsTab n M R ∧
  ∀ (q : Addr) (D : Nat → Bool) (p d : Nat → Nat) (H' : Hp), TM.Grow n R r D p d → (∀ x, x < n → D x = rchB n R [(r : Int)] (every n) x) → H q = none → Same H H' → H' q = some (.lst ((fl n D d).map V.int)) → Q (.ref q) H'
abbrev sFar : Stmt := top 38
theorem scFar : FnScope ["count", "table", "first", "far", "row", "k", "y"] ["count", "table", "first"] (defScope sFar) := ⟨rfl, rfl, rfl, by decide +kernel, rfl, by decide +kernel, by decide +kernel⟩
theorem ok_Far (D : Df K mg "_law_far" sFar ["count", "table", "first"]) (T : Txt K mg) : C8.Cal P w K mg base 1 "_law_far" spFar [] := by
  obtain ⟨f, fd, F, hm, hb⟩ := D
  refine ⟨f, fd, ["count", "table", "first"], [], F.ok scFar (fun vs H Q E h => ?_) (fun cdv A outer s H vs Q E hr h => ?_), hm, F.kp, hb, .nil⟩
  · obtain ⟨t, n, r, M, R, rfl, n2, hr_, ht, tb, k⟩ := h
    rfl
  · obtain ⟨t, n, r, M, R, rfl, n2, hr_, ht, tb, k⟩ := h
    have er : (List.replicate ((n : Int)).toNat [V.int (-1)]).flatten = (fl n (fun _ => false) (fun _ => 0)).map V.int := by rw [Int.toNat_natCast, rep_ints, fl_none]
    have ixr : ixN (fl n (fun _ => false) (fun _ => 0)).length (r : Int) = some r := by rw [fl_len]; exact ixN_nat hr_
    refine ⟨_, (pss_cons (ps_set (i := 3) scFar.nd rfl (Or.inl rfl) (pe_op op_rep (pe_lst (pa_cons (pe_un un_neg pe_int) pa_nil)) (pv 0)))
      (pss_cons (ps_asg pe_int (pg_sub (pv 3) (pv 2) set_I))
      (pss_cons (ps_set (i := 4) scFar.nd rfl (Or.inl rfl) (pe_lst (pa_cons (pv 2) pa_nil)))
      (pss_cons (ps_for PassesOwn.never rfl (pi_range1 rfl T.range (pa_cons (pv 0) pa_nil)) (pg_name (i := 5) scFar.nd rfl (Or.inl rfl))
        (pss_one (ps_if (pt_cmpR op_lt (pv 5) (pe_callB call_lenI (by rfl) T.len (by decide +kernel) (pa_cons (pv 4) pa_nil)) (nomark _))
          (pss_one (ps_for PassesOwn.never rfl (pi_range1 rfl T.range (pa_cons (pv 0) pa_nil)) (pg_name (i := 6) scFar.nd rfl (Or.inl rfl))
            (pss_one (ps_if (PW.pt (pw_and (pt_cmpR op_lt (pe_ix ix_I (pv 3) (pv 6) (fun _ _ => rfl)) pe_int (nomark _)) (pw_and1 (pt_cmpR op_eq (pe_ix ix_I (pv 1) (pe_op op_add (pe_op op_mul (pe_ix ix_I (pv 4) (pv 5) (fun _ _ => rfl)) (pv 0)) (pv 6)) (fun _ _ => rfl)) pe_int (nomark _)))))
              (pss_cons (ps_asg (pe_op op_add (pe_ix ix_I (pv 3) (pe_ix ix_I (pv 4) (pv 5) (fun _ _ => rfl)) (fun _ _ => rfl)) pe_int) (pg_sub (pv 3) (pv 6) set_I))
              (pss_one (ps_expr (pe_bm PySem.F.plainAttrs_list PySem.F.slot_list_append PySem.F.type_list_append mt_appendI (pv 4) (pa_cons (pv 6) pa_nil)))))
              pss_nil))))
          pss_nil)))
      (pss_one (ps_ret (pv 3))))))), ?_⟩
    -- far = [-1] * count
    refine ⟨_, rfl, (by fail "sz"), fun p2 np2 => ⟨_, rfl, _, _, _, rfl, rfl, (by fail "hp"), (by fail "om"), (by fail "om"), (by fail "sz"), fun p1 np1 => ?_⟩⟩
    rw [er]
    obtain ⟨D1, eD1⟩ : ∃ p, p = p1 := ⟨_, rfl⟩
    subst eD1
    have nD1 : H D1 = none := free_back np1 (Same.new (Same.refl _) np2)
    have h0 : (upd (upd H p2 (.lst [V.int (-1)])) D1 (.lst ((fl n (fun _ => false) (fun _ => 0)).map V.int))) D1 = some (.lst ((fl n (fun _ => false) (fun _ => 0)).map V.int)) := upd_same
    -- far[first] = 0
    refine ⟨_, rfl, _, rfl, _, _, _, _, _, rfl, rfl, rfl, (by fail "hp"), (by fail "ixn"), ?_⟩
    -- row = [first]
    refine ⟨_, rfl, (by fail "sz"), fun p3 np3 => ?_⟩
    obtain ⟨D2, eD2⟩ : ∃ p, p = p3 := ⟨_, rfl⟩
    subst eD2
    have smA : Same H (upd (upd (upd H p2 (.lst [V.int (-1)])) D1 (.lst ((fl n (fun _ => false) (fun _ => 0)).map V.int))) D1 (.lst (((fl n (fun _ => false) (fun _ => 0)).set r 0).map V.int))) := Same.mut (Same.mut (Same.new (Same.refl _) np2) nD1) nD1
    have nD2 : H D2 = none := free_back np3 smA
    have n12 : D1 ≠ D2 := ne_of_none upd_same np3
    have e1 : (fl n (fun _ => false) (fun _ => 0)).set r 0 = fl n (dm [(r : Int)]) (fun _ => 0) := by
      rw [show (0 : Int) = ((0 : Nat) : Int) from rfl, fl_set _ _ hr_]
      refine fl_congr fun x _ => ⟨?_, fun _ => by unfold TM.put; split <;> rfl⟩
      rw [Bool.eq_iff_iff, dm_one]
      unfold on
      rw [Bool.false_or, decide_eq_true_iff]
    rw [e1]
    have rE : (r : Int) ∈ every n := mem_every.mpr ⟨by omega, by omega⟩
    have sr0 : Srch n R [(r : Int)] (every n) (dm [(r : Int)]) [(r : Int)] none := ⟨fun x hx d => by rw [(dm_one r x).mp d]; exact .start hr_ (List.mem_singleton.mpr rfl) rE, fun x hx m _ => (dm_one r x).mpr (by have := List.mem_singleton.mp m; omega), fun z hz => ⟨r, List.mem_singleton.mp hz, hr_, (dm_one r r).mpr rfl⟩, fun x hx d nw => absurd (by rw [(dm_one r x).mp d]; exact List.mem_singleton.mpr rfl) nw, fun _ z => nomatch z⟩
    have gr0 : TM.Grow n R r (dm [(r : Int)]) (fun _ => 0) (fun _ => 0) := TM.Grow.init hr_ (dm_one r)
    have um0 : [(r : Int)].length + unm n (dm [(r : Int)]) = n := by
      have q := unm_on (n := n) (y := r) (D := dm []) hr_ rfl
      rw [← dm_snoc] at q
      have e0 : unm n (dm []) = n := by
        unfold unm
        have fe : (List.range n).filter (fun x => !dm [] x) = List.range n := List.filter_eq_self.mpr fun _ _ => rfl
        rw [fe, List.length_range]
      rw [e0] at q
      show 1 + unm n (dm ([] ++ [(r : Int)])) = n
      omega
    -- for k in range(count):
    refine ⟨_, rfl, _, rfl, (by fail "om"), (by fail "om"), for_range (fun i σ Hk => ∃ (v u : Option V) (rs : List Int) (p d : Nat → Nat), σ = [some (.int (n : Int)), some (.ref t), some (.int (r : Int)), some (.ref D1), some (.ref D2), v, u] ∧ Same H Hk ∧ Hk D1 = some (.lst ((fl n (dm rs) d).map V.int)) ∧ Hk D2 = some (.lst (rs.map V.int)) ∧ rs.length + unm n (dm rs) = n ∧ TM.Grow n R r (dm rs) p d ∧ Srch n R [(r : Int)] (every n) (dm rs) (rs.drop i) none) ⟨_, _, [(r : Int)], _, _, rfl, Same.new smA np3 |> fun s => by rw [e1] at s; exact s, upd_new (by rw [upd_same]) (by rw [e1] at np3; exact np3), upd_same, um0, gr0, sr0⟩ ?_ ?_⟩
    · rintro i σ Hk hi ⟨v, u, rs, p, d, rfl, smk, hk1, hk2, um, gr, sr⟩
      -- if k < len(row):
      refine ⟨_, rfl, _, rfl, _, _, rfl, (by fail "hp"), _, _, rfl, rfl, _, rfl, ?_⟩
      refine ifD (fun g4 => ?_) (fun g4 => ?_)
      · have li : i < rs.length := by omega
        obtain ⟨x, ex, hx, sr2⟩ : ∃ x : Nat, rs[i]? = some (x : Int) ∧ x < n ∧ Srch n R [(r : Int)] (every n) (dm rs) (rs.drop (i + 1)) (some (x, rowI R x 0)) := by
          rw [List.drop_eq_getElem_cons li] at sr
          obtain ⟨x, e, hx, sr2⟩ := sr.shift
          exact ⟨x, by rw [List.getElem?_eq_getElem li, e], hx, sr2⟩
        -- for y in range(count):
        refine ⟨_, rfl, _, rfl, (by fail "om"), (by fail "om"), for_range (fun j σ Hk => ∃ (u3 : Option V) (rs : List Int) (p d : Nat → Nat), σ = [some (.int (n : Int)), some (.ref t), some (.int (r : Int)), some (.ref D1), some (.ref D2), some (.int (0 + (i : Int))), u3] ∧ Same H Hk ∧ Hk D1 = some (.lst ((fl n (dm rs) d).map V.int)) ∧ Hk D2 = some (.lst (rs.map V.int)) ∧ rs.length + unm n (dm rs) = n ∧ TM.Grow n R r (dm rs) p d ∧ i < rs.length ∧ rs[i]? = some (x : Int) ∧ Srch n R [(r : Int)] (every n) (dm rs) (rs.drop (i + 1)) (some (x, rowI R x j))) ⟨_, rs, p, d, rfl, smk, hk1, hk2, um, gr, li, ex, sr2⟩ ?_ ?_⟩
        · rintro y σ Hk2 hy ⟨u4, rt, pt, dt, rfl, smj, hj1, hj2, umj, grj, lj, exj, srj⟩
          have hyn : y < n := by omega
          have dx : dm rt x = true := dm_iff.mpr (List.mem_of_getElem? exj)
          have ixf := fl_ix (dm rt) dt hyn
          have ixx := fl_ix (dm rt) dt hx
          have ixr2 : atI (rt.map V.int) (0 + (i : Int)) = some (V.int (x : Int)) := at_int exj (by omega)
          have ixt := tab_bit tb hx hyn
          have ixs : ixN (fl n (dm rt) dt).length (0 + (y : Int)) = some y := by rw [fl_len, Int.zero_add]; exact ixN_nat hyn
          have htj := smj _ _ ht
          have rl : rt.length ≤ n := by omega
          rw [← Int.zero_add (y : Int)] at ixf ixt
          -- if far[y] < 0 and table[row[k] * count + y] == 1:
          refine ⟨_, rfl, _, rfl, _, _, _, _, rfl, rfl, (by fail "hp"), (by fail "ix"), _, _, rfl, rfl, _, rfl, ?_⟩
          refine ifD (fun g5 => ?_) (fun g5 => ?_)
          · refine ⟨_, rfl, _, rfl, _, rfl, _, _, _, _, rfl, rfl, (by fail "hp"), (by fail "ix"), _, rfl, _, _, rfl, rfl, (by fail "mul"), _, rfl, _, _, rfl, rfl, _, _, _, _, rfl, rfl, (by fail "hp"), (by fail "ix"), rfl, _, rfl, ?_⟩
            refine ifEqI (fun g6 => ?_) (fun g6 => ?_)
            · -- far[y] = far[row[k]] + 1
              refine ⟨_, rfl, _, rfl, _, rfl, _, _, _, _, rfl, rfl, (by fail "hp"), (by fail "ix"), _, _, _, _, rfl, rfl, (by fail "hp"), (by fail "ix"), _, _, rfl, rfl, _, rfl, _, rfl, _, _, _, _, _, rfl, rfl, rfl, (by fail "hp"), (by fail "ixn"), ?_⟩
              -- row.append(y)
              refine ⟨_, rfl, .inl ⟨rfl, _, SqL.of (by fail "hp")⟩, _, rfl, _, _, _, rfl, rfl, (by fail "hp"), (by fail "szl"), ?_⟩
              have dy : dm rt y = false := fv_neg.mp g5
              have ry := bit_one.mp g6
              have um2 := unm_on hyn dy
              have mm : (y : Int) ∈ every n := mem_every.mpr ⟨by omega, by omega⟩
              refine ⟨_, rt ++ [(y : Int)], TM.put pt y x, TM.put dt y (dt x + 1), rfl, Same.mut (Same.mut smj nD1) nD2, ?_, by rw [upd_same, Int.zero_add], ?_, ?_, by rw [List.length_append]; omega, by rw [List.getElem?_append_left lj]; exact exj, ?_⟩
              · rw [upd_ne n12, upd_same, fv_yes dx, show ((dt x : Nat) : Int) + 1 = ((dt x + 1 : Nat) : Int) from rfl, fl_set _ _ hyn, dm_snoc]
              · rw [dm_snoc, List.length_append]
                show _ + 1 + _ = _
                omega
              · rw [dm_snoc]
                exact grj.mark hx dx dy ry
              · rw [drop_snoc _ (by omega), dm_snoc, rowI_yes ry]
                exact srj.mark hyn ry mm
            · refine ⟨_, rt, pt, dt, rfl, smj, hj1, hj2, umj, grj, lj, exj, ?_⟩
              rw [rowI_no (Bool.eq_false_iff.mpr fun q => g6 (bit_one.mpr q))]
              exact srj
          · fail "ite"
            refine ⟨_, rt, pt, dt, rfl, smj, hj1, hj2, umj, grj, lj, exj, ?_⟩
            cases q : R x y
            · rw [rowI_no q]
              exact srj
            · rw [rowI_yes q]
              refine srj.pass fun _ => ?_
              cases e : dm rt y
              · exact absurd (fv_neg.mpr e) g5
              · rfl
        · rintro σ Hk2 ⟨u4, rt, pt, dt, rfl, smj, hj1, hj2, umj, grj, lj, exj, srj⟩
          exact ⟨_, _, rt, pt, dt, rfl, smj, hj1, hj2, umj, grj, srj.end fun y hy r => to_rowI (by omega) r⟩
      · refine ⟨_, _, rs, p, d, rfl, smk, hk1, hk2, um, gr, ?_⟩
        rw [List.drop_of_length_le (by omega)]
        rw [List.drop_of_length_le (by omega)] at sr
        exact sr
    · rintro σ Hk ⟨v, u, rs, p, d, rfl, smk, hk1, hk2, um, gr, sr⟩
      rw [Int.toNat_natCast, List.drop_of_length_le (by omega)] at sr
      -- return far
      refine ⟨_, rfl, ?_⟩
      exact k D1 (dm rs) p d Hk gr sr.done nD1 smk hk1
end
end K02

end
section
set_option Elab.async false
set_option linter.all false
set_option maxRecDepth 100000
set_option maxHeartbeats 4000000
namespace K02
open PySem L2 Kit KR KX KI RM
local macro_rules | `(tactic| fail "om") => `(tactic| first | omega | (simp only [List.length_map, List.length_append, List.length_cons, List.length_nil]; omega) | (simp only [List.length_map, List.length_append, List.length_cons, List.length_nil] at *; omega) | assumption | decide | (simp only [List.length_take, List.length_drop]; omega) | (rw [every_len]; omega) | fail "no om")
local macro_rules | `(tactic| fail "nz") => `(tactic| first | decide | omega | fail "no nz")
local macro_rules | `(tactic| fail "dv") => `(tactic| exact ⟨by first | decide | omega, by first | decide | omega⟩)
local macro_rules | `(tactic| fail "mul") => `(tactic| first | exact .inr ⟨by decide, by decide⟩ | exact .inl ⟨by decide, by decide⟩ | exact mulF (by decide) (by decide) | exact .inl ⟨by omega, by omega⟩ | exact .inr ⟨by omega, by omega⟩ | fail "no mul")
local macro_rules | `(tactic| fail "sz") => `(tactic| first | assumption | exact Nat.zero_le _ | (show 1 ≤ sizeLine; decide) | (show 2 ≤ sizeLine; decide) | (show 3 ≤ sizeLine; decide) | (show 4 ≤ sizeLine; decide) | (show 5 ≤ sizeLine; decide) | exact Evl.sz_of (by omega) | (refine Evl.sz_of ?_; simp only [List.length_append, List.length_map, List.length_cons, List.length_nil]; omega) | (refine Evl.sz_of ?_; simp only [List.length_append, List.length_map, List.length_cons, List.length_nil, List.length_take, List.length_drop]; omega) | fail "no sz")
local macro_rules | `(tactic| fail "szl") => `(tactic| first | exact Evl.sz_lt (by omega) | (refine Evl.sz_lt ?_; simp only [List.length_append, List.length_map, List.length_cons, List.length_nil]; omega) | fail "no szl")
local macro_rules | `(tactic| fail "ix") => `(tactic| first | assumption | exact ix0 | exact ix1 | exact ix2 | exact at_ref (by assumption) (by omega) | exact at_int (by assumption) (by omega) | exact at_drawn (by assumption) (by assumption) | exact at_lit (by first | assumption | omega) (by fail "om") | rfl | fail "no ix")
local macro_rules | `(tactic| fail "ixn") => `(tactic| first | rfl | assumption | fail "no ixn")
local macro_rules | `(tactic| fail "nb") => `(tactic| first | assumption | exact nb_tup | exact nb_nil | exact nb_ints | exact nb_refs | exact nb_ins | exact nb_dT | exact nb_frz | fail "no nb")
local macro_rules | `(tactic| fail "ne") => `(tactic| first | assumption | exact Ne.symm (by assumption) | exact ne_of_none (by assumption) (by assumption) | exact (ne_of_none (by assumption) (by assumption)).symm | exact ne_of (by assumption) (by assumption) (by intro q; cases q) | exact ne_of (by assumption) (by assumption) (by simp) | fail "no ne")
local macro_rules | `(tactic| fail "hp") => `(tactic| first | assumption | exact upd_same | exact lit0 | exact lit1 | exact lit3 | exact lit2 | (refine' Tk.get (by assumption) ?k1; (case k1 => fail "tk")) | (with_reducible refine' upd_new ?h1 ?n1; (case n1 => assumption); (case h1 => fail "hp")) | (refine' Same.get (by assumption) ?h1; (case h1 => fail "hp")) | (refine' Kp.get (by assumption) (by fail "bx") ?h1 ?d1; (case h1 => fail "hp"); (case d1 => fail "nb")) | (with_reducible refine' upd_oth ?h1 ?n1; (case n1 => fail "ne"); (case h1 => fail "hp")) | (with_reducible refine' upd_oth ?h1 ?n1; (case h1 => fail "hp"); (case n1 => fail "ne")) | (refine' Kq.get (by assumption) (by fail "bx") ?h1 ?d1 (by fail "ne"); (case h1 => fail "hp"); (case d1 => fail "nb")) | fail "no hp")
local macro_rules | `(tactic| fail "bx") => `(tactic| first | assumption | (with_reducible refine' BoxOk.new ?h1 ?n1; (case n1 => assumption); (case h1 => fail "bx")) | (refine' BoxOk.same (by assumption) ?h1; (case h1 => fail "bx")) | (with_reducible refine' BoxOk.mut ?h1 ?h2 ?n1; (case n1 => assumption); (case h2 => assumption); (case h1 => fail "bx")) | fail "no bx")
local macro_rules | `(tactic| fail "kp") => `(tactic| first | assumption | exact Kp.refl | (with_reducible refine' Kp.at ?h1; (case h1 => fail "kp")) | (with_reducible refine' Kp.new ?h1 ?n1; (case n1 => assumption); (case h1 => fail "kp")) | (with_reducible refine' Kp.mut ?h1 ?n1; (case n1 => assumption); (case h1 => fail "kp")) | (refine' Kp.tr (by assumption) ?h1; (case h1 => fail "kp")) | (refine' Kp.tr (Kp.of (by assumption)) ?h1; (case h1 => fail "kp")) | (refine' Kq.kp (by assumption) ?h1 (by assumption); (case h1 => fail "kp")) | fail "no kp")
local macro_rules | `(tactic| fail "ite") => `(tactic| first | refine iteT ?_ | refine iteF ?_)
local macro_rules | `(tactic| fail "tt") => `(tactic| first | rfl | exact decide_eq_true (by first | rfl | omega | assumption) | exact decide_eq_true (congrArg V.int (by first | rfl | omega)) | fail "no tt")
local macro_rules | `(tactic| fail "cv") => `(tactic| first | exact .ty _ | exact .own _)
local macro_rules | `(tactic| fail "tx") => `(tactic| first | exact .base (.int _) | exact .base (.bl _) | exact .base .non | exact .base (.lst (by fail "hp")) | exact .base (.tup (by fail "hp")) | fail "no tx")
local macro_rules | `(tactic| fail "dead") => `(tactic| (exfalso; first | omega | contradiction | simp_all))
local macro_rules | `(tactic| fail "dp") => `(tactic| first | exact .tup (SqT.of (by fail "hp")) (.cons (.int _) (.cons (.int _) .nil)) | exact .lst (SqL.of (by fail "hp")) (dpPrs (by fail "pr")) | exact .lst (SqL.of (by fail "hp")) (dpInts _) | exact .lst (SqL.of (by fail "hp")) .nil | fail "no dp")
local macro_rules | `(tactic| fail "shp") => `(tactic| first | assumption | exact prD_shaped _ | exact PySem.W.ke_shaped_ints _ | rfl | fail "no shp")
local macro_rules | `(tactic| fail "pr") => `(tactic| first | assumption | exact PrT.mono (by assumption) (by fail "tk") | fail "no pr")
local macro_rules | `(tactic| fail "tk") => `(tactic| first | assumption | exact Tk.refl | (with_reducible refine' Tk.new ?h1 ?n1; (case n1 => assumption); (case h1 => fail "tk")) | (refine' Tk.tr (Kp.tk (by assumption) (by fail "bx")) ?h1; (case h1 => fail "tk")) | (refine' Tk.tr (Same.tk (by assumption)) ?h1; (case h1 => fail "tk")) | (with_reducible refine' Tk.lst ?h1 ?n1; (case n1 => fail "hp"); (case h1 => fail "tk")) | fail "no tk")
local macro_rules | `(tactic| fail "lk") => `(tactic| first | exact netF_count _ _ | exact netF_links _ _ | exact netF_no _ _ (by decide +kernel) (by decide +kernel) | fail "no lk")
local macro_rules | `(tactic| fail "kt") => `(tactic| first | exact upd_same | assumption | fail "hp")
local macro_rules | `(tactic| fail "na") => `(tactic| first | assumption | (with_reducible refine' NetAt.new ?h1 ?n1; (case n1 => assumption); (case h1 => fail "na")) | (refine' NetAt.same (by assumption) ?h1; (case h1 => fail "na")) | (refine' NetAt.kp (by assumption) (by fail "bx") ?h1; (case h1 => fail "na")) | (with_reducible refine' NetAt.lst ?h1 ?n1; (case n1 => fail "hp"); (case h1 => fail "na")) | fail "no na")
local macro_rules | `(tactic| fail "mono") => `(tactic| first | exact fun _ _ _ _ h q => h _ _ q | exact fun _ _ _ _ h q => (let ⟨v, e, z⟩ := q; ⟨v, e, h _ _ z⟩) | exact fun _ _ _ _ h q => (let ⟨v, e, u, f, z⟩ := q; ⟨v, e, u, f, h _ _ z⟩) | fail "no mono")
local macro_rules | `(tactic| fail "sm") => `(tactic| first | assumption | exact Same.refl _ | (with_reducible refine' Same.new ?h1 ?n1; (case n1 => assumption); (case h1 => fail "sm")) | (refine' Same.tr (by assumption) ?h1; (case h1 => fail "sm")) | fail "no sm")
local macro_rules | `(tactic| fail "fld") => `(tactic| first | (show 0 < 1000; decide) | (show 1 < 1000; decide) | fail "no fld")
local macro_rules | `(tactic| fail "kq") => `(tactic| first | assumption | exact Kq.refl | (with_reducible refine' Kq.at ?h1; (case h1 => fail "kq")) | (with_reducible refine' Kq.new ?h1 ?n1; (case n1 => assumption); (case h1 => fail "kq")) | (refine' Kq.trans ?h1 (by assumption); (case h1 => fail "kq")) | (refine' Kq.trans ?h1 (Kq.of (by assumption)); (case h1 => fail "kq")) | (refine' Kq.trans ?h1 (Kq.ofS (by assumption)); (case h1 => fail "kq")) | fail "no kq")
local macro_rules | `(tactic| fail "mo") => `(tactic| first | assumption | exact MemOk.take (by assumption) _ | exact MemOk.drop (by assumption) _ | exact every_ok _ | fail "no mo")

local macro_rules | `(tactic| fail "nt") => `(tactic| first | assumption | fail "no nt")
local macro_rules | `(tactic| fail "tg") => `(tactic| first | assumption | fail "no tg")
section
variable {P : Program} {w : World} {K : PySem.W.Frag} {mg : Str → Option Value} {base : Heap} {CN Pt : Addr} {mc mu : Value}

theorem two_bl {a b : Bool} {p : Prop} (h1 : a = true ↔ p) (h2 : b = true ↔ p) : [V.bl a, V.bl b] = [V.bl a, V.bl a] := by
  rw [show b = a from Bool.eq_iff_iff.mpr (h2.trans h1.symm)]
theorem bit_nz {b : Bool} (h : (if b = true then (1 : Int) else 0) ≠ 0) : b = true := by
  cases b
  · exact absurd rfl h
  · rfl
def Upto (n i j : Nat) (F : Nat → Nat → Prop) : Prop := ∀ x y, y < n → (x < i ∨ (x = i ∧ y < j)) → F x y
theorem Upto.zero {n : Nat} {F : Nat → Nat → Prop} : Upto n 0 0 F := fun x y _ h => by omega
theorem Upto.step {n i j : Nat} {F : Nat → Nat → Prop} (hj : j < n) : Upto n i (j + 1) F ↔ Upto n i j F ∧ F i j := by
  constructor
  · intro h
    exact ⟨fun x y hy q => h x y hy (by omega), h i j hj (by omega)⟩
  · rintro ⟨h, f⟩ x y hy q
    by_cases e : x = i ∧ y = j
    · rw [e.1, e.2]
      exact f
    · exact h x y hy (by omega)
theorem Upto.row {n i : Nat} {F : Nat → Nat → Prop} : Upto n (i + 1) 0 F ↔ Upto n i n F := ⟨fun h x y hy q => h x y hy (by omega), fun h x y hy q => h x y hy (by omega)⟩
theorem Upto.all {n : Nat} {F : Nat → Nat → Prop} : Upto n n 0 F ↔ ∀ x y, x < n → y < n → F x y := ⟨fun h x y hx hy => h x y hy (by omega), fun h x y hy q => h x y (by omega) hy⟩
theorem Upto.yes {n i j : Nat} {F : Nat → Nat → Prop} {b : Bool} (h : b = true ↔ Upto n i j F) (f : F i j) (hj : j < n) : b = true ↔ Upto n i (j + 1) F := by
  rw [Upto.step hj, h]
  exact ⟨fun q => ⟨q, f⟩, fun q => q.1⟩
theorem Upto.no {n i j : Nat} {F : Nat → Nat → Prop} (f : ¬ F i j) (hj : j < n) : false = true ↔ Upto n i (j + 1) F := by
  rw [Upto.step hj]
  exact ⟨fun q => (nomatch q), fun q => absurd q.2 f⟩
theorem Upto.yes2 {n i j : Nat} {F : Nat → Nat → Prop} {b : Bool} {p : Prop} (h : b = true ↔ p ∧ Upto n i j F) (f : F i j) (hj : j < n) : b = true ↔ p ∧ Upto n i (j + 1) F := by
  rw [Upto.step hj, h]
  exact ⟨fun q => ⟨q.1, q.2, f⟩, fun q => ⟨q.1, q.2.1⟩⟩
theorem Upto.no2 {n i j : Nat} {F : Nat → Nat → Prop} {p : Prop} (f : ¬ F i j) (hj : j < n) : false = true ↔ p ∧ Upto n i (j + 1) F := by
  rw [Upto.step hj]
  exact ⟨fun q => (nomatch q), fun q => absurd q.2.2 f⟩
theorem bit_bl {b : Bool} : decide (V.int (if b = true then (1 : Int) else 0) = V.int 1) = b := by cases b <;> rfl
theorem bit_zero {b : Bool} : (if b = true then (1 : Int) else 0) = 0 ↔ b = false := by cases b <;> simp
theorem ring_tv {n i j : Nat} (h1 : 1 < n) (hi : i < n) : decide (V.int (0 + (j : Int)) = V.int ((0 + (i : Int) + 1).fmod (n : Int))) = ringR n i j := by
  rw [ring_int]
  obtain ⟨q1, q2⟩ := ring_step h1 hi
  unfold ringR
  refine decide_eq_decide.mpr ⟨fun e => ?_, fun e => ?_⟩
  · have := V.int.inj e
    omega
  · rw [e.2, Int.zero_add]
theorem ring_f {n i j : Nat} (h1 : ¬ 1 < n) (hi : i < n) (hj : j < n) : ringR n i j = false := decide_eq_false fun z => z.1 (by omega)
theorem sum_row {n : Nat} {M : List Int} {R : Rel} (t : IsTab n M R) {i : Nat} (hi : i < n) : ∀ j, j ≤ n → (M.take (i * n + j)).sum = (M.take (i * n)).sum + ((rowT R i j).length : Nat)
  | 0, _ => by
    have : (rowT R i 0).length = 0 := by have := rowT_len R i 0; omega
    rw [this, Nat.add_zero]
    exact (Int.add_zero _).symm
  | j + 1, h => by
    have ih := sum_row t hi j (by omega)
    have e := take_at (t.get i j hi (by omega))
    rw [← Nat.add_assoc, e, List.sum_append, ih]
    cases q : R i j
    · rw [rowT_no q]
      show _ + (0 : Int) = _
      omega
    · rw [rowT_yes q, List.length_append]
      show _ + (1 : Int) = _ + ((_ + 1 : Nat) : Int)
      omega
theorem sum_to {n : Nat} {M : List Int} {R : Rel} (t : IsTab n M R) : ∀ i, i ≤ n → (M.take (i * n)).sum = ((tiesTo n R i).length : Nat)
  | 0, _ => by rw [Nat.zero_mul, List.take_zero]; rfl
  | i + 1, h => by
    rw [Nat.add_mul, Nat.one_mul, sum_row t (by omega) n (Nat.le_refl n), sum_to t i (by omega), tiesTo_succ, List.length_append]
    omega
theorem sum_tab {n : Nat} {M : List Int} {R : Rel} (t : IsTab n M R) : M.sum = ((ties n R).length : Nat) := by
  have h := sum_to t n (Nat.le_refl n)
  rw [List.take_of_length_le (by rw [t.len]; omega)] at h
  exact h
def F1 (R : Rel) (x y : Nat) : Prop := R x y = true → R y x = true
def F3 (n : Nat) (R : Rel) (x y : Nat) : Prop := R x y = ringR n x y
def F4 (n : Nat) (R : Rel) (x y : Nat) : Prop := R x y = wholeR n x y
def FS (n : Nat) (R : Rel) (x : Nat) : Prop := ∀ y, y < n → Rch n R [(x : Int)] (every n) y
def spKindsAre (CN Pt : Addr) : Sp := fun vs H Q _ => ∃ (a t : Addr) (n : Nat) (M : List Int) (R : Rel), vs = [.ref a, .int (n : Int), .ref t] ∧ NetAt CN H a n R ∧ H t = some (.lst (M.map V.int)) ∧ IsTab n M R ∧ GxR.TabG H Pt ∧
  ∀ H', Sp1 Pt H H' → GxR.TabG H' Pt → Q (.bl true) H'
end
end K02

end
section
set_option Elab.async false
set_option linter.all false
set_option maxRecDepth 100000
set_option maxHeartbeats 4000000
namespace K02
open PySem L2 Kit KR KX KI RM
local macro_rules | `(tactic| fail "om") => `(tactic| first | omega | (simp only [List.length_map, List.length_append, List.length_cons, List.length_nil]; omega) | (simp only [List.length_map, List.length_append, List.length_cons, List.length_nil] at *; omega) | assumption | decide | (simp only [List.length_take, List.length_drop]; omega) | (rw [every_len]; omega) | fail "no om")
local macro_rules | `(tactic| fail "nz") => `(tactic| first | decide | omega | fail "no nz")
local macro_rules | `(tactic| fail "dv") => `(tactic| exact ⟨by first | decide | omega, by first | decide | omega⟩)
local macro_rules | `(tactic| fail "mul") => `(tactic| first | exact .inr ⟨by decide, by decide⟩ | exact .inl ⟨by decide, by decide⟩ | exact mulF (by decide) (by decide) | exact .inl ⟨by omega, by omega⟩ | exact .inr ⟨by omega, by omega⟩ | fail "no mul")
local macro_rules | `(tactic| fail "sz") => `(tactic| first | assumption | exact Nat.zero_le _ | (show 1 ≤ sizeLine; decide) | (show 2 ≤ sizeLine; decide) | (show 3 ≤ sizeLine; decide) | (show 4 ≤ sizeLine; decide) | (show 5 ≤ sizeLine; decide) | exact Evl.sz_of (by omega) | (refine Evl.sz_of ?_; simp only [List.length_append, List.length_map, List.length_cons, List.length_nil]; omega) | (refine Evl.sz_of ?_; simp only [List.length_append, List.length_map, List.length_cons, List.length_nil, List.length_take, List.length_drop]; omega) | fail "no sz")
local macro_rules | `(tactic| fail "szl") => `(tactic| first | exact Evl.sz_lt (by omega) | (refine Evl.sz_lt ?_; simp only [List.length_append, List.length_map, List.length_cons, List.length_nil]; omega) | fail "no szl")
local macro_rules | `(tactic| fail "ix") => `(tactic| first | assumption | exact ix0 | exact ix1 | exact ix2 | exact at_ref (by assumption) (by omega) | exact at_int (by assumption) (by omega) | exact at_drawn (by assumption) (by assumption) | exact at_lit (by first | assumption | omega) (by fail "om") | rfl | fail "no ix")
local macro_rules | `(tactic| fail "ixn") => `(tactic| first | rfl | assumption | fail "no ixn")
local macro_rules | `(tactic| fail "nb") => `(tactic| first | assumption | exact nb_tup | exact nb_nil | exact nb_ints | exact nb_refs | exact nb_ins | exact nb_dT | exact nb_frz | fail "no nb")
local macro_rules | `(tactic| fail "ne") => `(tactic| first | assumption | exact Ne.symm (by assumption) | exact ne_of_none (by assumption) (by assumption) | exact (ne_of_none (by assumption) (by assumption)).symm | exact ne_of (by assumption) (by assumption) (by intro q; cases q) | exact ne_of (by assumption) (by assumption) (by simp) | fail "no ne")
local macro_rules | `(tactic| fail "hp") => `(tactic| first | assumption | exact upd_same | exact lit0 | exact lit1 | exact lit3 | exact lit2 | (refine' Tk.get (by assumption) ?k1; (case k1 => fail "tk")) | (with_reducible refine' upd_new ?h1 ?n1; (case n1 => assumption); (case h1 => fail "hp")) | (refine' Same.get (by assumption) ?h1; (case h1 => fail "hp")) | (refine' Kp.get (by assumption) (by fail "bx") ?h1 ?d1; (case h1 => fail "hp"); (case d1 => fail "nb")) | (with_reducible refine' upd_oth ?h1 ?n1; (case n1 => fail "ne"); (case h1 => fail "hp")) | (with_reducible refine' upd_oth ?h1 ?n1; (case h1 => fail "hp"); (case n1 => fail "ne")) | (refine' Kq.get (by assumption) (by fail "bx") ?h1 ?d1 (by fail "ne"); (case h1 => fail "hp"); (case d1 => fail "nb")) | fail "no hp")
local macro_rules | `(tactic| fail "bx") => `(tactic| first | assumption | (with_reducible refine' BoxOk.new ?h1 ?n1; (case n1 => assumption); (case h1 => fail "bx")) | (refine' BoxOk.same (by assumption) ?h1; (case h1 => fail "bx")) | (with_reducible refine' BoxOk.mut ?h1 ?h2 ?n1; (case n1 => assumption); (case h2 => assumption); (case h1 => fail "bx")) | fail "no bx")
local macro_rules | `(tactic| fail "kp") => `(tactic| first | assumption | exact Kp.refl | (with_reducible refine' Kp.at ?h1; (case h1 => fail "kp")) | (with_reducible refine' Kp.new ?h1 ?n1; (case n1 => assumption); (case h1 => fail "kp")) | (with_reducible refine' Kp.mut ?h1 ?n1; (case n1 => assumption); (case h1 => fail "kp")) | (refine' Kp.tr (by assumption) ?h1; (case h1 => fail "kp")) | (refine' Kp.tr (Kp.of (by assumption)) ?h1; (case h1 => fail "kp")) | (refine' Kq.kp (by assumption) ?h1 (by assumption); (case h1 => fail "kp")) | fail "no kp")
local macro_rules | `(tactic| fail "ite") => `(tactic| first | refine iteT ?_ | refine iteF ?_)
local macro_rules | `(tactic| fail "tt") => `(tactic| first | rfl | exact decide_eq_true (by first | rfl | omega | assumption) | exact decide_eq_true (congrArg V.int (by first | rfl | omega)) | fail "no tt")
local macro_rules | `(tactic| fail "cv") => `(tactic| first | exact .ty _ | exact .own _)
local macro_rules | `(tactic| fail "tx") => `(tactic| first | exact .base (.int _) | exact .base (.bl _) | exact .base .non | exact .base (.lst (by fail "hp")) | exact .base (.tup (by fail "hp")) | fail "no tx")
local macro_rules | `(tactic| fail "dead") => `(tactic| (exfalso; first | omega | contradiction | simp_all))
local macro_rules | `(tactic| fail "dp") => `(tactic| first | exact .tup (SqT.of (by fail "hp")) (.cons (.int _) (.cons (.int _) .nil)) | exact .lst (SqL.of (by fail "hp")) (dpPrs (by fail "pr")) | exact .lst (SqL.of (by fail "hp")) (dpInts _) | exact .lst (SqL.of (by fail "hp")) .nil | fail "no dp")
local macro_rules | `(tactic| fail "shp") => `(tactic| first | assumption | exact prD_shaped _ | exact PySem.W.ke_shaped_ints _ | rfl | fail "no shp")
local macro_rules | `(tactic| fail "pr") => `(tactic| first | assumption | exact PrT.mono (by assumption) (by fail "tk") | fail "no pr")
local macro_rules | `(tactic| fail "tk") => `(tactic| first | assumption | exact Tk.refl | (with_reducible refine' Tk.new ?h1 ?n1; (case n1 => assumption); (case h1 => fail "tk")) | (refine' Tk.tr (Kp.tk (by assumption) (by fail "bx")) ?h1; (case h1 => fail "tk")) | (refine' Tk.tr (Same.tk (by assumption)) ?h1; (case h1 => fail "tk")) | (with_reducible refine' Tk.lst ?h1 ?n1; (case n1 => fail "hp"); (case h1 => fail "tk")) | fail "no tk")
local macro_rules | `(tactic| fail "lk") => `(tactic| first | exact netF_count _ _ | exact netF_links _ _ | exact netF_no _ _ (by decide +kernel) (by decide +kernel) | fail "no lk")
local macro_rules | `(tactic| fail "kt") => `(tactic| first | exact upd_same | assumption | fail "hp")
local macro_rules | `(tactic| fail "na") => `(tactic| first | assumption | (with_reducible refine' NetAt.new ?h1 ?n1; (case n1 => assumption); (case h1 => fail "na")) | (refine' NetAt.same (by assumption) ?h1; (case h1 => fail "na")) | (refine' NetAt.kp (by assumption) (by fail "bx") ?h1; (case h1 => fail "na")) | (with_reducible refine' NetAt.lst ?h1 ?n1; (case n1 => fail "hp"); (case h1 => fail "na")) | fail "no na")
local macro_rules | `(tactic| fail "mono") => `(tactic| first | exact fun _ _ _ _ h q => h _ _ q | exact fun _ _ _ _ h q => (let ⟨v, e, z⟩ := q; ⟨v, e, h _ _ z⟩) | exact fun _ _ _ _ h q => (let ⟨v, e, u, f, z⟩ := q; ⟨v, e, u, f, h _ _ z⟩) | fail "no mono")
local macro_rules | `(tactic| fail "sm") => `(tactic| first | assumption | exact Same.refl _ | (with_reducible refine' Same.new ?h1 ?n1; (case n1 => assumption); (case h1 => fail "sm")) | (refine' Same.tr (by assumption) ?h1; (case h1 => fail "sm")) | fail "no sm")
local macro_rules | `(tactic| fail "fld") => `(tactic| first | (show 0 < 1000; decide) | (show 1 < 1000; decide) | fail "no fld")
local macro_rules | `(tactic| fail "kq") => `(tactic| first | assumption | exact Kq.refl | (with_reducible refine' Kq.at ?h1; (case h1 => fail "kq")) | (with_reducible refine' Kq.new ?h1 ?n1; (case n1 => assumption); (case h1 => fail "kq")) | (refine' Kq.trans ?h1 (by assumption); (case h1 => fail "kq")) | (refine' Kq.trans ?h1 (Kq.of (by assumption)); (case h1 => fail "kq")) | (refine' Kq.trans ?h1 (Kq.ofS (by assumption)); (case h1 => fail "kq")) | fail "no kq")
local macro_rules | `(tactic| fail "mo") => `(tactic| first | assumption | exact MemOk.take (by assumption) _ | exact MemOk.drop (by assumption) _ | exact every_ok _ | fail "no mo")

section
variable {P : Program} {w : World} {K : PySem.W.Frag} {mg : Str → Option Value} {base : Heap} {CN CI CU CL CT CS Pt : Addr} {mc mu : Value}





theorem two_strong {n : Nat} {R : Rel} (h : 1 ≤ n) (tw : Two n R) (r : ∀ y, y < n → Rch n R [(0 : Int)] (every n) y) : Strong n R := by
  rw [strong_iff h]
  refine ⟨r, fun y hy => (r y hy).congr fun a b ha hb => ?_⟩
  unfold turn
  rw [Bool.eq_iff_iff]
  exact ⟨tw a b ha hb, tw b a hb ha⟩
def spIsTree2 : Sp := fun vs H Q _ => ∃ (t : Addr) (n : Nat) (M : List Int) (R : Rel), vs = [.int (n : Int), .ref t] ∧ 1 ≤ n ∧ n ≤ 24 ∧ H t = some (.lst (M.map V.int)) ∧ IsTab n M R ∧ (∀ x y, x < n → y < n → R x y = true → x ≠ y) ∧
  ∀ (b : Bool) H', Same H H' → (b = true ↔ Tree n R) → Q (.bl b) H'
abbrev sIsTree2 : Stmt := top 39
theorem scIsTree2 : FnScope ["count", "table", "pair"] ["count", "table"] (defScope sIsTree2) := ⟨rfl, rfl, rfl, by decide +kernel, rfl, by decide +kernel, by decide +kernel⟩
theorem ok_IsTree2 (D : Df K mg "_law_is_tree" sIsTree2 ["count", "table"]) (T : Txt K mg) (GFar : C8.Cal P w K mg base 1 "_law_far" spFar []) (GPairsR : C8.Cal P w K mg base 1 "_law_pairs" spPairsR []) : C8.Cal P w K mg base 2 "_law_is_tree" spIsTree2 [] := by
  obtain ⟨f, fd, F, hm, hb⟩ := D
  refine ⟨f, fd, ["count", "table"], [], F.ok scIsTree2 (fun vs H Q E h => ?_) (fun cdv A outer s H vs Q E hr h => ?_), hm, F.kp, hb, .nil⟩
  · obtain ⟨t, n, M, R, rfl, n1, n2, ht, tb, ir, k⟩ := h
    rfl
  · obtain ⟨t, n, M, R, rfl, n1, n2, ht, tb, ir, k⟩ := h
    have ms := sum_tab tb
    refine ⟨_, (pss_cons (ps_if (PW.pt (pw_or (pt_cmpR op_ne (pe_callB (cr_sum rfl) (by rfl) T.sum (by decide +kernel) (pa_cons (pv 1) pa_nil)) (pe_op op_mul pe_int (pe_op op_sub (pv 0) pe_int)) (nomark _)) (pw_or1 (pt_cmpR op_lt (pe_callB (cr_min rfl) (by rfl) T.min (by decide +kernel) (pa_cons (C8.pe_c GFar hr (by decide) (by rfl) (pa_cons (pv 0) (pa_cons (pv 1) (pa_cons pe_int pa_nil)))) pa_nil)) pe_int (nomark _)))))
        (pss_one (ps_ret pe_bl))
        pss_nil)
      (pss_cons (ps_for PassesOwn.never rfl (pi_list (C8.pe_c GPairsR hr (by decide) (by rfl) (pa_cons (pv 0) (pa_cons (pv 1) (pa_cons pe_int pa_nil))))) (pg_name (i := 2) scIsTree2.nd rfl (Or.inl rfl))
        (pss_one (ps_if (pt_cmpR op_eq (pe_ix ix_I (pv 1) (pe_op op_add (pe_op op_mul (pe_ix ix_tup (pv 2) pe_int (fun _ _ => rfl)) (pv 0)) (pe_ix ix_tup (pv 2) pe_int (fun _ _ => rfl))) (fun _ _ => rfl)) pe_int (nomark _))
          (pss_one (ps_ret pe_bl))
          pss_nil)))
      (pss_one (ps_ret pe_bl)))), ?_⟩
    -- if sum(table) != 2 * (count - 1) or min(_law_far(count, table, 0)) < 0:
    refine ⟨_, rfl, _, _, rfl, SqL.of (by fail "hp"), _, rfl, _, _, rfl, rfl, _, _, rfl, rfl, (by fail "mul"), rfl, _, rfl, ?_⟩
    refine ifNeI (fun g1 => ?_) (fun g1 => ?_)
    · fail "ite"
      -- return False
      refine k _ _ (Same.refl H) ⟨fun q => (nomatch q), fun q => absurd ?_ g1⟩
      rw [ms, q.1]
      omega
    · refine ⟨_, rfl, _, rfl, _, _, 0, _, _, rfl, (by fail "om"), (by fail "om"), (by fail "hp"), (by assumption), fun q3 D3 pp3 dd3 H3 gr3 rc3 nq3 sm3 hq3 => ⟨_, _, rfl, SqL.of (by fail "hp"), (by rw [fl_len]; omega), fun m2 mm2 ml2 => ⟨_, _, rfl, rfl, _, rfl, ?_⟩⟩⟩
      refine ifD (fun g4 => ?_) (fun g4 => ?_)
      · -- return False
        refine k _ _ sm3 ⟨fun q => (nomatch q), fun q => ?_⟩
        obtain ⟨j, hj⟩ := List.getElem?_of_mem mm2
        have hjn : j < n := by have := (List.getElem?_eq_some_iff.mp hj).1; rw [fl_len] at this; exact this
        rw [fl_at D3 dd3 hjn] at hj
        have z2 : fv D3 dd3 j < 0 := by rw [Option.some.inj hj]; exact g4
        have z3 := fv_neg.mp z2
        rw [rc3 j hjn] at z3
        have z4 := rchB_iff.mpr (q.2.2 0 j (by omega) hjn)
        rw [show ((0 : Nat) : Int) = (0 : Int) from rfl] at z4
        have z5 : rchB n R [((0 : Nat) : Int)] (every n) j = true := z4
        rw [z5] at z3
        cases z3
      · -- for pair in _law_pairs(count, table, 1):
        refine ⟨_, rfl, _, rfl, _, _, _, _, _, rfl, (by fail "om"), (by fail "hp"), (by assumption), fun p5 as5 H5 sm5 np5 hp5 pt5 => ⟨_, rfl, ⟨_, SqL.of (by fail "hp")⟩, for_list (K := K) (a := p5) (xs := as5.map V.ref) (fun i σ H2 => ∃ v : Option V, σ = [some (.int (n : Int)), some (.ref t), v] ∧ H2 = H5 ∧ ∀ (j : Nat) (x y : Nat), j < i → (prs R 1 (every n) (every n))[j]? = some ((x : Int), (y : Int)) → R y x = true) ⟨_, rfl, rfl, fun j x y h => absurd h (by omega)⟩ (fun i σ H2 _ z => by obtain ⟨_, _, e, _⟩ := z; rw [e]; exact SqL.of hp5) ?_ ?_⟩⟩
        · rintro i x0 σ Hj hx0 ⟨v, rfl, rfl, al⟩
          obtain ⟨a1, x1, y1, rfl, ea, ep, hta⟩ := pt5.item hx0
          have hg := prs_good (every_ok n) _ (List.mem_of_getElem? ep)
          obtain ⟨x, ex, hx⟩ := toN (n := n) (x := x1) hg.1 hg.2.1
          obtain ⟨y, ey, hy⟩ := toN (n := n) (x := y1) hg.2.2.1 hg.2.2.2.1
          subst ex
          subst ey
          have rxy : R x y = true := bit_one.mp (mem_prs.mp (List.mem_of_getElem? ep)).2.2.2
          have ixv : atI (M.map V.int) ((y : Int) * (n : Int) + (x : Int)) = some (V.int (if R y x = true then 1 else 0)) := tab_bit tb hy hx
          have ht5 := sm5 _ _ (sm3 _ _ ht)
          -- if table[pair[1] * count + pair[0]] == 0:
          refine ⟨_, rfl, _, rfl, _, _, _, _, rfl, rfl, SqT.of (by fail "hp"), (by fail "ix"), _, rfl, _, _, rfl, rfl, (by fail "mul"), _, rfl, _, _, _, _, rfl, rfl, SqT.of (by fail "hp"), (by fail "ix"), _, _, rfl, rfl, _, _, _, _, rfl, rfl, (by fail "hp"), (by fail "ix"), rfl, _, rfl, ?_⟩
          refine ifEqI (fun g6 => ?_) (fun g6 => ?_)
          · -- return False
            refine k _ _ (sm3.trans sm5) ⟨fun q => (nomatch q), fun q => ?_⟩
            have z := q.2.1 x y hx hy rxy
            rw [bit_zero.mp g6] at z
            cases z
          · refine ⟨_, rfl, rfl, fun j u v hj e => ?_⟩
            by_cases q : j = i
            · subst q
              rw [ep] at e
              cases e
              exact bit_nz g6
            · exact al j u v (by omega) e
        · rintro σ Hj ⟨v, rfl, rfl, al⟩
          have tw : Two n R := fun x y hx hy r => by
            have ne := ir x y hx hy r
            have m : ((x : Int), (y : Int)) ∈ prs R 1 (every n) (every n) := mem_prs.mpr ⟨mem_every.mpr ⟨by show (0 : Int) ≤ x; omega, by show (x : Int) < n; omega⟩, mem_every.mpr ⟨by show (0 : Int) ≤ y; omega, by show (y : Int) < n; omega⟩, by show (x : Int) ≠ y; omega, bit_one.mpr r⟩
            obtain ⟨j, hj⟩ := List.getElem?_of_mem m
            refine al j x y ?_ hj
            rw [List.length_map, pt5.1]
            exact (List.getElem?_eq_some_iff.mp hj).1
          have rc : ∀ y, y < n → Rch n R [(0 : Int)] (every n) y := fun y hy => by
            refine rchB_iff.mp ?_
            show rchB n R [((0 : Nat) : Int)] (every n) y = true
            rw [← rc3 y hy]
            cases q : D3 y
            · have z := ml2 _ (List.mem_of_getElem? (fl_at D3 dd3 hy))
              have z2 : fv D3 dd3 y < 0 := fv_neg.mpr q
              omega
            · rfl
          -- return True
          refine k _ _ (sm3.trans sm5) ⟨fun _ => ⟨by rw [ms] at g1; omega, tw, two_strong n1 tw rc⟩, fun _ => rfl⟩
end
end K02

end
section
set_option Elab.async false
set_option linter.all false
set_option maxRecDepth 100000
set_option maxHeartbeats 4000000
namespace K02
open PySem L2 Kit KR KX KI RM
local macro_rules | `(tactic| fail "om") => `(tactic| first | omega | (simp only [List.length_map, List.length_append, List.length_cons, List.length_nil]; omega) | (simp only [List.length_map, List.length_append, List.length_cons, List.length_nil] at *; omega) | assumption | decide | (simp only [List.length_take, List.length_drop]; omega) | (rw [every_len]; omega) | fail "no om")
local macro_rules | `(tactic| fail "nz") => `(tactic| first | decide | omega | fail "no nz")
local macro_rules | `(tactic| fail "dv") => `(tactic| exact ⟨by first | decide | omega, by first | decide | omega⟩)
local macro_rules | `(tactic| fail "mul") => `(tactic| first | exact .inr ⟨by decide, by decide⟩ | exact .inl ⟨by decide, by decide⟩ | exact mulF (by decide) (by decide) | exact .inl ⟨by omega, by omega⟩ | exact .inr ⟨by omega, by omega⟩ | fail "no mul")
local macro_rules | `(tactic| fail "sz") => `(tactic| first | assumption | exact Nat.zero_le _ | (show 1 ≤ sizeLine; decide) | (show 2 ≤ sizeLine; decide) | (show 3 ≤ sizeLine; decide) | (show 4 ≤ sizeLine; decide) | (show 5 ≤ sizeLine; decide) | exact Evl.sz_of (by omega) | (refine Evl.sz_of ?_; simp only [List.length_append, List.length_map, List.length_cons, List.length_nil]; omega) | (refine Evl.sz_of ?_; simp only [List.length_append, List.length_map, List.length_cons, List.length_nil, List.length_take, List.length_drop]; omega) | fail "no sz")
local macro_rules | `(tactic| fail "szl") => `(tactic| first | exact Evl.sz_lt (by omega) | (refine Evl.sz_lt ?_; simp only [List.length_append, List.length_map, List.length_cons, List.length_nil]; omega) | fail "no szl")
local macro_rules | `(tactic| fail "ix") => `(tactic| first | assumption | exact ix0 | exact ix1 | exact ix2 | exact at_ref (by assumption) (by omega) | exact at_int (by assumption) (by omega) | exact at_drawn (by assumption) (by assumption) | exact at_lit (by first | assumption | omega) (by fail "om") | rfl | fail "no ix")
local macro_rules | `(tactic| fail "ixn") => `(tactic| first | rfl | assumption | fail "no ixn")
local macro_rules | `(tactic| fail "nb") => `(tactic| first | assumption | exact nb_tup | exact nb_nil | exact nb_ints | exact nb_refs | exact nb_ins | exact nb_dT | exact nb_frz | fail "no nb")
local macro_rules | `(tactic| fail "ne") => `(tactic| first | assumption | exact Ne.symm (by assumption) | exact ne_of_none (by assumption) (by assumption) | exact (ne_of_none (by assumption) (by assumption)).symm | exact ne_of (by assumption) (by assumption) (by intro q; cases q) | exact ne_of (by assumption) (by assumption) (by simp) | fail "no ne")
local macro_rules | `(tactic| fail "hp") => `(tactic| first | assumption | exact upd_same | exact lit0 | exact lit1 | exact lit3 | exact lit2 | (refine' Tk.get (by assumption) ?k1; (case k1 => fail "tk")) | (with_reducible refine' upd_new ?h1 ?n1; (case n1 => assumption); (case h1 => fail "hp")) | (refine' Same.get (by assumption) ?h1; (case h1 => fail "hp")) | (refine' Kp.get (by assumption) (by fail "bx") ?h1 ?d1; (case h1 => fail "hp"); (case d1 => fail "nb")) | (with_reducible refine' upd_oth ?h1 ?n1; (case n1 => fail "ne"); (case h1 => fail "hp")) | (with_reducible refine' upd_oth ?h1 ?n1; (case h1 => fail "hp"); (case n1 => fail "ne")) | (refine' Kq.get (by assumption) (by fail "bx") ?h1 ?d1 (by fail "ne"); (case h1 => fail "hp"); (case d1 => fail "nb")) | fail "no hp")
local macro_rules | `(tactic| fail "bx") => `(tactic| first | assumption | (with_reducible refine' BoxOk.new ?h1 ?n1; (case n1 => assumption); (case h1 => fail "bx")) | (refine' BoxOk.same (by assumption) ?h1; (case h1 => fail "bx")) | (with_reducible refine' BoxOk.mut ?h1 ?h2 ?n1; (case n1 => assumption); (case h2 => assumption); (case h1 => fail "bx")) | fail "no bx")
local macro_rules | `(tactic| fail "kp") => `(tactic| first | assumption | exact Kp.refl | (with_reducible refine' Kp.at ?h1; (case h1 => fail "kp")) | (with_reducible refine' Kp.new ?h1 ?n1; (case n1 => assumption); (case h1 => fail "kp")) | (with_reducible refine' Kp.mut ?h1 ?n1; (case n1 => assumption); (case h1 => fail "kp")) | (refine' Kp.tr (by assumption) ?h1; (case h1 => fail "kp")) | (refine' Kp.tr (Kp.of (by assumption)) ?h1; (case h1 => fail "kp")) | (refine' Kq.kp (by assumption) ?h1 (by assumption); (case h1 => fail "kp")) | fail "no kp")
local macro_rules | `(tactic| fail "ite") => `(tactic| first | refine iteT ?_ | refine iteF ?_)
local macro_rules | `(tactic| fail "tt") => `(tactic| first | rfl | exact decide_eq_true (by first | rfl | omega | assumption) | exact decide_eq_true (congrArg V.int (by first | rfl | omega)) | fail "no tt")
local macro_rules | `(tactic| fail "cv") => `(tactic| first | exact .ty _ | exact .own _)
local macro_rules | `(tactic| fail "tx") => `(tactic| first | exact .base (.int _) | exact .base (.bl _) | exact .base .non | exact .base (.lst (by fail "hp")) | exact .base (.tup (by fail "hp")) | fail "no tx")
local macro_rules | `(tactic| fail "dead") => `(tactic| (exfalso; first | omega | contradiction | simp_all))
local macro_rules | `(tactic| fail "dp") => `(tactic| first | exact .tup (SqT.of (by fail "hp")) (.cons (.int _) (.cons (.int _) .nil)) | exact .lst (SqL.of (by fail "hp")) (dpPrs (by fail "pr")) | exact .lst (SqL.of (by fail "hp")) (dpInts _) | exact .lst (SqL.of (by fail "hp")) .nil | fail "no dp")
local macro_rules | `(tactic| fail "shp") => `(tactic| first | assumption | exact prD_shaped _ | exact PySem.W.ke_shaped_ints _ | rfl | fail "no shp")
local macro_rules | `(tactic| fail "pr") => `(tactic| first | assumption | exact PrT.mono (by assumption) (by fail "tk") | fail "no pr")
local macro_rules | `(tactic| fail "tk") => `(tactic| first | assumption | exact Tk.refl | (with_reducible refine' Tk.new ?h1 ?n1; (case n1 => assumption); (case h1 => fail "tk")) | (refine' Tk.tr (Kp.tk (by assumption) (by fail "bx")) ?h1; (case h1 => fail "tk")) | (refine' Tk.tr (Same.tk (by assumption)) ?h1; (case h1 => fail "tk")) | (with_reducible refine' Tk.lst ?h1 ?n1; (case n1 => fail "hp"); (case h1 => fail "tk")) | fail "no tk")
local macro_rules | `(tactic| fail "lk") => `(tactic| first | exact netF_count _ _ | exact netF_links _ _ | exact netF_no _ _ (by decide +kernel) (by decide +kernel) | fail "no lk")
local macro_rules | `(tactic| fail "kt") => `(tactic| first | exact upd_same | assumption | fail "hp")
local macro_rules | `(tactic| fail "na") => `(tactic| first | assumption | (with_reducible refine' NetAt.new ?h1 ?n1; (case n1 => assumption); (case h1 => fail "na")) | (refine' NetAt.same (by assumption) ?h1; (case h1 => fail "na")) | (refine' NetAt.kp (by assumption) (by fail "bx") ?h1; (case h1 => fail "na")) | (with_reducible refine' NetAt.lst ?h1 ?n1; (case n1 => fail "hp"); (case h1 => fail "na")) | fail "no na")
local macro_rules | `(tactic| fail "mono") => `(tactic| first | exact fun _ _ _ _ h q => h _ _ q | exact fun _ _ _ _ h q => (let ⟨v, e, z⟩ := q; ⟨v, e, h _ _ z⟩) | exact fun _ _ _ _ h q => (let ⟨v, e, u, f, z⟩ := q; ⟨v, e, u, f, h _ _ z⟩) | fail "no mono")
local macro_rules | `(tactic| fail "sm") => `(tactic| first | assumption | exact Same.refl _ | (with_reducible refine' Same.new ?h1 ?n1; (case n1 => assumption); (case h1 => fail "sm")) | (refine' Same.tr (by assumption) ?h1; (case h1 => fail "sm")) | fail "no sm")
local macro_rules | `(tactic| fail "fld") => `(tactic| first | (show 0 < 1000; decide) | (show 1 < 1000; decide) | fail "no fld")
local macro_rules | `(tactic| fail "kq") => `(tactic| first | assumption | exact Kq.refl | (with_reducible refine' Kq.at ?h1; (case h1 => fail "kq")) | (with_reducible refine' Kq.new ?h1 ?n1; (case n1 => assumption); (case h1 => fail "kq")) | (refine' Kq.trans ?h1 (by assumption); (case h1 => fail "kq")) | (refine' Kq.trans ?h1 (Kq.of (by assumption)); (case h1 => fail "kq")) | (refine' Kq.trans ?h1 (Kq.ofS (by assumption)); (case h1 => fail "kq")) | fail "no kq")
local macro_rules | `(tactic| fail "mo") => `(tactic| first | assumption | exact MemOk.take (by assumption) _ | exact MemOk.drop (by assumption) _ | exact every_ok _ | fail "no mo")

section
variable {P : Program} {w : World} {K : PySem.W.Frag} {mg : Str → Option Value} {base : Heap} {CN CI CU CL CT CS Pt : Addr} {mc mu : Value}






theorem span_lt {n r : Nat} {R : Rel} {p d : Nat → Nat} (h : TM.Span n R r p d) {x : Nat} (hx : x < n) : d x < n := by
  rcases Nat.lt_or_ge (d x) n with q | q
  · exact q
  · exfalso
    have nd : ((List.range (n + 1)).map fun j => it p j x).Nodup := by
      refine List.pairwise_map.mpr (List.Pairwise.imp_of_mem (fun {a b} ha hb (ne : a ≠ b) z => ?_) List.nodup_range)
      have ha := List.mem_range.mp ha
      have hb := List.mem_range.mp hb
      have ea := (it_span h hx a (by omega)).2
      have eb := (it_span h hx b (by omega)).2
      rw [z] at ea
      omega
    have le := TM.nodup_len _ (List.range n) nd fun z hz => by
      obtain ⟨j, hj, e⟩ := List.mem_map.mp hz
      have hj := List.mem_range.mp hj
      rw [← e]
      exact List.mem_range.mpr (it_span h hx j (by omega)).1
    rw [List.length_map, List.length_range, List.length_range] at le
    omega
theorem fr_zero (n : Nat) : List.replicate n (0 : Int) = fr n (dm []) := by
  refine List.ext_getElem? fun i => ?_
  by_cases l : i < n
  · rw [fr_at _ l, List.getElem?_replicate, if_pos l]
    rfl
  · rw [List.getElem?_eq_none (by rw [List.length_replicate]; omega), List.getElem?_eq_none (by rw [fr_len]; omega)]
theorem fr_on {n y : Nat} (F : Nat → Bool) (h : y < n) : (fr n F).set y 1 = fr n (on F y) := by
  refine List.ext_getElem? fun i => ?_
  by_cases e : i = y
  · subst e
    rw [List.getElem?_set_self (by rw [fr_len]; exact h), fr_at _ h]
    unfold on
    rw [decide_eq_true rfl, Bool.or_true]
    rfl
  · rw [List.getElem?_set_ne (fun z => e z.symm)]
    by_cases l : i < n
    · rw [fr_at _ l, fr_at _ l]
      unfold on
      rw [decide_eq_false e, Bool.or_false]
    · rw [List.getElem?_eq_none (by rw [fr_len]; omega), List.getElem?_eq_none (by rw [fr_len]; omega)]
def spPathIs : Sp := fun vs H Q _ => ∃ (q t : Addr) (n fi la : Nat) (M : List Int) (R : Rel) (pf df : Nat → Nat), vs = [.ref q, .int (n : Int), .ref t, .int (fi : Int), .int (la : Int)] ∧ n ≤ 24 ∧ fi < n ∧ H q = some (.lst ((pth pf fi (df fi)).map V.int)) ∧ H t = some (.lst (M.map V.int)) ∧ IsTab n M R ∧ Two n R ∧ TM.Span n R la pf df ∧ ∀ H', Same H H' → Q (.bl true) H'
abbrev sPathIs : Stmt := top 40
theorem scPathIs : FnScope ["told", "count", "table", "first", "last", "met", "k"] ["told", "count", "table", "first", "last"] (defScope sPathIs) := ⟨rfl, rfl, rfl, by decide +kernel, rfl, by decide +kernel, by decide +kernel⟩
theorem ok_PathIs (D : Df K mg "_law_path_is" sPathIs ["told", "count", "table", "first", "last"]) (T : Txt K mg) (GIsInt : C8.Cal P w K mg base 1 "_law_is_int" spIsInt []) : C8.Cal P w K mg base 2 "_law_path_is" spPathIs [] := by
  obtain ⟨f, fd, F, hm, hb⟩ := D
  refine ⟨f, fd, ["told", "count", "table", "first", "last"], [], F.ok scPathIs (fun vs H Q E h => ?_) (fun cdv A outer s H vs Q E hr h => ?_), hm, F.kp, hb, .nil⟩
  · obtain ⟨q, t, n, fi, la, M, R, pf, df, rfl, n2, hfi, hq, ht, tb, tw, spn, k⟩ := h
    rfl
  · obtain ⟨q, t, n, fi, la, M, R, pf, df, rfl, n2, hfi, hq, ht, tb, tw, spn, k⟩ := h
    have dlt := span_lt spn hfi
    have ll := pth_len pf fi (df fi)
    have er : (List.replicate ((n : Int)).toNat [V.int 0]).flatten = (fr n (dm [])).map V.int := by rw [Int.toNat_natCast, rep_ints, fr_zero]
    have ix00 : atI ((pth pf fi (df fi)).map V.int) 0 = some (V.int ((it pf 0 fi : Nat) : Int)) := at_int (pth_at (Nat.zero_le _)) rfl
    have ixL : atI ((pth pf fi (df fi)).map V.int) ((((pth pf fi (df fi)).length : Nat) : Int) - 1) = some (V.int ((it pf (df fi) fi : Nat) : Int)) := at_int (pth_at (Nat.le_refl _)) (by rw [ll]; omega)
    have eL : it pf (df fi) fi = la := by
      obtain ⟨a, b⟩ := it_span spn hfi (df fi) (Nat.le_refl _)
      exact spn.zero a (by omega)
    refine ⟨_, (pss_cons (ps_if (PW.pt (pw_or (pt_not (pt_val (pe_callB call_isi (by rfl) T.isinstance (by decide +kernel) (pa_cons (pv 0) (pa_cons (pe_bltn (v := .ty "list") (u := .type "list") (by rfl) T.list (by decide +kernel) rfl) pa_nil))))) (pw_or1 (pt_not (pt_chain op_lt op_le pe_int (pe_callB call_lenI (by rfl) T.len (by decide +kernel) (pa_cons (pv 0) pa_nil)) (pv 1))))))
        (pss_one (ps_ret pe_bl))
        pss_nil)
      (pss_cons (ps_set (i := 5) scPathIs.nd rfl (Or.inl rfl) (pe_op op_rep (pe_lst (pa_cons pe_int pa_nil)) (pv 1)))
      (pss_cons (ps_for PassesOwn.never rfl (pi_range1 rfl T.range (pa_cons (pe_callB call_lenI (by rfl) T.len (by decide +kernel) (pa_cons (pv 0) pa_nil)) pa_nil)) (pg_name (i := 6) scPathIs.nd rfl (Or.inl rfl))
        (pss_cons (ps_if (PW.pt (pw_or (pt_not (pt_val (C8.pe_c GIsInt hr (by decide) (by rfl) (pa_cons (pe_ix ix_I (pv 0) (pv 6) (fun _ _ => rfl)) pa_nil)))) (pw_or1 (pt_not (pt_chain op_le op_lt pe_int (pe_ix ix_I (pv 0) (pv 6) (fun _ _ => rfl)) (pv 1))))))
          (pss_one (ps_ret pe_bl))
          pss_nil)
        (pss_cons (ps_if (pt_cmpR op_eq (pe_ix ix_I (pv 5) (pe_ix ix_I (pv 0) (pv 6) (fun _ _ => rfl)) (fun _ _ => rfl)) pe_int (nomark _))
          (pss_one (ps_ret pe_bl))
          pss_nil)
        (pss_cons (ps_asg pe_int (pg_sub (pv 5) (pe_ix ix_I (pv 0) (pv 6) (fun _ _ => rfl)) set_I))
        (pss_one (ps_if (PW.pt (pw_and (pt_cmpR op_gt (pv 6) pe_int (nomark _)) (pw_and1 (pt_cmpR op_eq (pe_ix ix_I (pv 2) (pe_op op_add (pe_op op_mul (pe_ix ix_I (pv 0) (pe_op op_sub (pv 6) pe_int) (fun _ _ => rfl)) (pv 1)) (pe_ix ix_I (pv 0) (pv 6) (fun _ _ => rfl))) (fun _ _ => rfl)) pe_int (nomark _)))))
          (pss_one (ps_ret pe_bl))
          pss_nil))))))
      (pss_one (ps_ret (pe_and (pe_cmpR op_eq (pe_ix ix_I (pv 0) pe_int (fun _ _ => rfl)) (pv 3) (nomark _)) (pe_one (pe_cmpR op_eq (pe_ix ix_I (pv 0) (pe_op op_sub (pe_callB call_lenI (by rfl) T.len (by decide +kernel) (pa_cons (pv 0) pa_nil)) pe_int) (fun _ _ => rfl)) (pv 4) (nomark _))))))))), ?_⟩
    -- if not isinstance(told, list) or not 0 < len(told) <= count:
    refine ⟨_, rfl, _, _, _, _, true, rfl, (by fail "cv"), (by fail "tx"), kit_ty (by decide +kernel), _, rfl, ?_⟩
    fail "ite"
    refine ⟨_, rfl, _, _, rfl, (by fail "hp"), _, _, rfl, rfl, _, rfl, ?_⟩
    refine ifD (fun g1 => ?_) (fun g1 => ?_)
    · refine ⟨_, rfl, _, _, rfl, rfl, _, rfl, ?_⟩
      refine nifD (fun g2 => ?_) (fun g2 => ?_)
      · -- return False
        exfalso; omega
      · -- met = [0] * count
        refine ⟨(by fail "sz"), fun p4 np4 => ⟨_, rfl, _, _, _, rfl, rfl, (by fail "hp"), (by fail "om"), (by fail "om"), (by fail "sz"), fun p3 np3 => ?_⟩⟩
        rw [er]
        obtain ⟨pM, epM⟩ : ∃ p, p = p3 := ⟨_, rfl⟩
        subst epM
        have nM : H pM = none := free_back np3 (Same.new (Same.refl _) np4)
        have sm0 : Same H (upd (upd H p4 (.lst [V.int 0])) pM (.lst ((fr n (dm [])).map V.int))) := Same.new (Same.new (Same.refl _) np4) np3
        -- for k in range(len(told)):
        refine ⟨_, rfl, _, _, rfl, (by fail "hp"), _, rfl, (by fail "om"), (by fail "om"), for_range (fun i σ H2 => ∃ v : Option V, σ = [some (.ref q), some (.int (n : Int)), some (.ref t), some (.int (fi : Int)), some (.int (la : Int)), some (.ref pM), v] ∧ Same H H2 ∧ H2 pM = some (.lst ((fr n (dm ((pth pf fi (df fi)).take i))).map V.int))) ⟨_, rfl, sm0, upd_same⟩ ?_ ?_⟩
        · rintro i σ Hi hi ⟨v, rfl, smi, hmi⟩
          have hi2 : i ≤ df fi := by omega
          obtain ⟨hx, ed⟩ := it_span spn hfi i hi2
          have ei := pth_at (p := pf) (x := fi) hi2
          have ixk : atI ((pth pf fi (df fi)).map V.int) (0 + (i : Int)) = some (V.int ((it pf i fi : Nat) : Int)) := at_int ei (by omega)
          have ixm := fr_ix (dm ((pth pf fi (df fi)).take i)) hx
          have ixs : ixN (fr n (dm ((pth pf fi (df fi)).take i))).length ((it pf i fi : Nat) : Int) = some (it pf i fi) := by rw [fr_len]; exact ixN_nat hx
          have hti := smi _ _ ht
          have hqi := smi _ _ hq
          have nqM : q ≠ pM := ne_of_none hq nM
          have ntM : t ≠ pM := ne_of_none ht nM
          -- if not _law_is_int(told[k]) or not 0 <= told[k] < count:
          refine ⟨_, rfl, _, rfl, _, _, _, _, rfl, rfl, (by fail "hp"), (by fail "ix"), _, rfl, ⟨_, rfl, ?_⟩⟩
          fail "ite"
          refine ⟨_, rfl, _, rfl, _, _, _, _, rfl, rfl, (by fail "hp"), (by fail "ix"), _, _, rfl, rfl, _, rfl, ?_⟩
          refine ifD (fun g6 => ?_) (fun g6 => ?_)
          · refine ⟨_, rfl, _, _, rfl, rfl, _, rfl, ?_⟩
            refine nifD (fun g7 => ?_) (fun g7 => ?_)
            · -- return False
              exfalso; omega
            · -- if met[told[k]] == 1:
              refine ⟨_, rfl, _, rfl, _, rfl, _, _, _, _, rfl, rfl, (by fail "hp"), (by fail "ix"), _, _, _, _, rfl, rfl, (by fail "hp"), (by fail "ix"), rfl, _, rfl, ?_⟩
              refine ifEqI (fun g8 => ?_) (fun g8 => ?_)
              · -- return False
                exfalso
                have m := dm_iff.mp (bit_one.mp g8)
                obtain ⟨j, hj⟩ := List.getElem?_of_mem m
                have jl : j < i := by have := (List.getElem?_eq_some_iff.mp hj).1; rw [List.length_take] at this; omega
                rw [List.getElem?_take_of_lt jl, pth_at (by omega)] at hj
                have e : it pf j fi = it pf i fi := by have := Option.some.inj hj; omega
                have dj := (it_span spn hfi j (by omega)).2
                rw [e] at dj
                omega
              · -- met[told[k]] = 1
                refine ⟨_, rfl, _, rfl, _, rfl, _, _, _, _, rfl, rfl, (by fail "hp"), (by fail "ix"), _, _, _, _, _, rfl, rfl, rfl, (by fail "hp"), (by fail "ixn"), ?_⟩
                -- if k > 0 and table[told[k - 1] * count + told[k]] == 0:
                refine ⟨_, rfl, _, _, rfl, rfl, _, rfl, ?_⟩
                refine ifD (fun g9 => ?_) (fun g9 => ?_)
                · have ixp : atI ((pth pf fi (df fi)).map V.int) (0 + (i : Int) - 1) = some (V.int ((it pf (i - 1) fi : Nat) : Int)) := at_int (pth_at (by omega)) (by omega)
                  have ixt := tab_bit tb (it_span spn hfi (i - 1) (by omega)).1 hx
                  refine ⟨_, rfl, _, rfl, _, rfl, _, _, rfl, rfl, _, _, _, _, rfl, rfl, (by fail "hp"), (by fail "ix"), _, rfl, _, _, rfl, rfl, (by fail "mul"), _, rfl, _, rfl, _, _, _, _, rfl, rfl, (by fail "hp"), (by fail "ix"), _, _, rfl, rfl, _, _, _, _, rfl, rfl, (by fail "hp"), (by fail "ix"), rfl, _, rfl, ?_⟩
                  refine ifEqI (fun g10 => ?_) (fun g10 => ?_)
                  · -- return False
                    exfalso
                    have rr : R (it pf (i - 1) fi) (it pf i fi) = true := by
                      obtain ⟨a, b⟩ := it_span spn hfi (i - 1) (by omega)
                      have ne : it pf (i - 1) fi ≠ la := fun z => by rw [z, spn.d0] at b; omega
                      obtain ⟨c1, c2, _⟩ := spn.st _ a ne
                      have e : pf (it pf (i - 1) fi) = it pf i fi := by
                        rw [show i = (i - 1) + 1 by omega]
                        rfl
                      rw [e] at c1 c2
                      exact tw _ _ c1 a c2
                    rw [rr] at g10
                    cases g10
                  · refine ⟨_, rfl, Same.mut smi nM, ?_⟩
                    rw [upd_same, fr_on _ hx, take_at ei, dm_snoc]
                · fail "ite"
                  refine ⟨_, rfl, Same.mut smi nM, ?_⟩
                  rw [upd_same, fr_on _ hx, take_at ei, dm_snoc]
          · refine ⟨_, rfl, ?_⟩
            fail "ite"
            -- return False
            exfalso; omega
        · rintro σ Hi ⟨v, rfl, smi, hmi⟩
          have hqi := smi _ _ hq
          -- return told[0] == first and told[len(told) - 1] == last
          refine ⟨_, rfl, _, _, _, _, rfl, rfl, (by fail "hp"), (by fail "ix"), _, rfl, rfl, _, rfl, ?_⟩
          refine ifEqI (fun g11 => ?_) (fun g11 => ?_)
          · refine ⟨_, rfl, _, rfl, _, _, rfl, (by fail "hp"), _, _, rfl, rfl, _, _, _, _, rfl, rfl, (by fail "hp"), (by fail "ix"), _, rfl, rfl, ?_⟩
            rw [eL, decide_eq_true rfl]
            exact k _ smi
          · exact absurd rfl g11
    · refine ⟨_, rfl, ?_⟩
      fail "ite"
      -- return False
      exfalso; omega
end
end K02

end
section
set_option Elab.async false
set_option linter.all false
set_option maxRecDepth 100000
set_option maxHeartbeats 1000000
/-! defs that are called within an except suite and raise nothing: no word of what is handled -/
namespace KX
open PySem PySem.Spec PyProof.Rows L2 Kit L2H
/-- what such a def promises, whatever is handled around it -/
structure FnQ (P : Program) (w : World) (K : PySem.W.Frag) (mg : Str → Option Value) (base : Heap) (k : Nat) (f : Addr) (fd : FuncData) (ps : List Str) (sp : Sp) : Prop where
  many : ∀ vs H Q E, sp vs H Q E → vs.length = ps.length
  runs : ∀ (B : Around) (outer : List Env) (s : Shared) (H : Hp) (given : Args) (us : List Value) (vs : List V) (Q : VK) (E : XK),
    RoomH k B → Env0 P w K mg base B outer s H → BindsTo s fd given (ps.zip us) → Vals vs us → sp vs H Q E →
      codeAny (model P w) B (.call (.ref f) given) (CR CX0 outer P w H s Q E) s
abbrev coolA (B : Around) : Around := { B with handled := none }
/-- the context of its body -/
abbrev cxQ (P : Program) (w : World) (K : PySem.W.Frag) (mg : Str → Option Value) (base : Heap) (N : List Str) (q : Str) (sc : Scope) (f : Addr) (cd : Value) (B : Around) (outer : List Env) (s : Shared) (H : Hp) (E : XK) : Cx :=
  { cxOf CX0 P w K mg base N q sc f cd B outer s H E with calm := false }
section
variable {P : Program} {w : World} {K : PySem.W.Frag} {mg : Str → Option Value} {base : Heap}
theorem inv_cool {N : List Str} {q : Str} {sc : Scope} {f : Addr} {cd : Value} {B : Around} {outer : List Env} {s s1 : Shared} {H H1 : Hp} {E : XK} {σ : L2.St} {pins : List (Addr × Obj)}
    (I : Inv (cxOf CX0 P w K mg base N q sc f cd (coolA B) outer s H E) pins σ H1 s1) : Inv (cxQ P w K mg base N q sc f cd B outer s H E) pins σ H1 s1 := by
  obtain ⟨⟨a1, a2, a3, a4, a5, a6, a7, a8, a9, a10, a11, a12, a13, a14, a15, a16, a17, a18⟩, b1, b2, b3, b4, b5, b6, b7, b8, b9, b10⟩ := I
  exact ⟨⟨a1, a2, a3, a4, a5, a6, a7, a8, nofun, a10, a11, a12, a13, a14, a15, a16, a17, a18⟩, b1, b2, b3, b4, b5, b6, b7, b8, b9, b10⟩
theorem fn_ofQ {k : Nat} {f : Addr} {x qual : Str} {st : Stmt} {fd : FuncData} {N ps : List Str} {sp : Sp} (F : L2.Fun K x qual st f fd) (S : FnScope N ps (defScope st)) (len : ∀ vs H Q E, sp vs H Q E → vs.length = ps.length)
    (hbody : ∀ (cdv : Value) (B : Around) (outer : List Env) (s : Shared) (H : Hp) (vs : List V) (Q : VK) (E : XK), RoomH k (B.deeper (envOfC qual (defScope st) s.heap.objs.size f cdv)) → sp vs H Q E →
      ∃ t, PSs (cxQ P w K mg base N qual (defScope st) f cdv B outer s H E) (defBody st) t ∧ t { nx := fun _ H' => Q .non H', rt := Q } (L2.start N vs) H) : FnQ P w K mg base (k + 1) f fd ps sp := by
  obtain ⟨oc, od, kV, doc, pm, an, cdv, ct, osl, rfl, lk, hcd⟩ := F.ex
  refine ⟨len, ?_⟩
  intro B outer s H given us vs Q E room e0 bt r hsp
  have nlen := len _ _ _ _ hsp
  have kin : K.In s.heap := e0.mod.kin.keeps (fun b o e => (e0.bs b o e).1)
  have nolim : s.heap.NoLimit := e0.mod.nolimit.keeps (fun b o e => (e0.bs b o e).1)
  have kinds : ∀ y ∈ ps.zip us, (defScope st).names.lookup y.1 = some .local ∨ ((defScope st).names.lookup y.1 = some .cell ∧ ((cellsFrom (s.heap.objs.size + 1) (defScope st).names []).lookup y.1).isSome = true) := by
    rintro ⟨m, v⟩ hy
    exact (S.par m (List.of_mem_zip hy).1).imp id fun q => ⟨q, PySem.W.cellsFrom_some _ _ _ (.inl q)⟩
  refine codeAny_call_function room.depth (kin _ _ lk) rfl S.co S.gen rfl (PySem.W.codeRec_of kin hcd) (bt _ _ _ _ ?_)
  refine wpAny_newFunctionEnv_cells S.kind kinds (fun env he s1 x => ?_)
  subst he
  refine ⟨nolim.keeps x.toInCall.keep, codeAny_func ?_⟩
  obtain ⟨t, ht, hq⟩ := hbody cdv B outer s H vs Q E (room.deeper _) hsp
  have e1 : Env0 P w K mg base (coolA B) outer s H := ⟨e0.frames, e0.mod, e0.bs, e0.bsz, e0.funs, e0.frf, e0.hok, e0.bare⟩
  have J0 := inv_cool (B := B) (inv_start (CX := CX0) (E := E) S (A := coolA B) rfl e1 nlen r x)
  refine wpAny_mono (ht.run [] s1 _ H _ J0 hq) (fun fl s2 hs => ?_) (fun e s2 hs => hs)
  cases fl with
  | brk => obtain ⟨_, _, _, z⟩ := hs; exact z.elim
  | cont => obtain ⟨_, _, _, z⟩ := hs; exact z.elim
  | next =>
    obtain ⟨τ, H2, J, z⟩ := hs
    exact ⟨V.non, H2, J.os, J.bare, J.base, J.hok, rfl, z⟩
  | ret u =>
    obtain ⟨v, τ, H2, J, rv, z⟩ := hs
    exact ⟨v, H2, J.os, J.bare, J.base, J.hok, rv, z⟩
end
/-- a def of this kind, by its name -/
structure CalQ (P : Program) (w : World) (K : PySem.W.Frag) (mg : Str → Option Value) (base : Heap) (k : Nat) (x : Str) (sp : Sp) : Prop where
  ex : ∃ (f : Addr) (fd : FuncData) (ps : List Str), FnQ P w K mg base k f fd ps sp ∧ mg x = some (.ref f) ∧ PySem.W.keepIn K (.ref f) = true ∧ Binds K fd ps []
section
variable {X : Cx} {k j : Nat} {x : Str} {sp : Sp} {p pos : Pos} {e : Expr} {es : List Expr} {t : TA}
theorem pe_cQ (c : CalQ X.prog X.w X.K X.mg X.base k x sp) (hr : RoomH k X.A) (hg : Gl X x) (ha : PA X (e :: es) t)
    (hdb : (x == ("__debug__" : Str)) = false := by decide) (he : starEach (e :: es) X.env = (false, eval e X.env) :: starEach es X.env := by rfl) (hpl : (backTo pos (starEach es X.env)).any (·.1) = false := by rfl) :
    PE X (.Call (.Name x p) (e :: es) [] pos) (tCall sp [] E0 t) := by
  obtain ⟨f, fd, ps, F, hm, kp, b⟩ := c.ex
  refine ⟨fun pins s σ H Q I h => ?_⟩
  refine wpAny_Call_Name_kw (ld_glob I hg hm ?_ hdb)
  refine PySem.W.callWith_K (h₀ := X.base) I.ok.mod.kin kp (thn (ha.run pos pins s σ H _ I h) fun us s1 z => ?_) he hpl
  obtain ⟨vs, H1, I1, r, q⟩ := z
  refine ⟨I1.kIn, ?_⟩
  rw [List.append_nil] at q
  have hl : us.length = ps.length := by rw [← r.length]; exact F.many _ _ _ _ q
  have bt := b s1 us I1.kIn (by rw [List.append_nil]; exact hl)
  rw [List.append_nil] at bt
  refine wpAny_call (codeAny_mono (F.runs X.A X.stack s1 H1 ⟨us, []⟩ us vs Q E0 hr I1.env0 bt r q) fun res s2 hq => ?_)
  cases res with
  | error e => exact hq.elim
  | ok fl =>
    cases fl with
    | ret u => exact I1.after hq
    | next => exact hq.elim
    | brk => exact hq.elim
    | cont => exact hq.elim
end
end KX

end
section
set_option Elab.async false
set_option linter.all false
set_option maxRecDepth 100000
set_option maxHeartbeats 2000000
/-! a list walked, a comprehension made and a sum told while an error is handled -/
namespace KX
open PySem PySem.Spec PyProof.Rows L2 HotX L2H
section
variable {prog : Program} {w : World} {A : Around} {E : Value → Shared → Prop} {s : Shared}
theorem hot_ne {I l x1 : Addr} {i : Nat} {h : Heap} (hot : HotAt A x1 h) (it : h.IsListIter I l i) : x1 ≠ I := by
  rintro rfl
  obtain ⟨_, o1, fs, e1, d1, c1⟩ := hot
  obtain ⟨o, e, _, d⟩ := it
  rw [e1] at e
  obtain rfl := Option.some.inj e
  rw [d1] at d
  obtain rfl : fs = _ := Data.fields.inj d
  cases c1
/-- a list's iterator at its end, an error in hand -/
theorem list_end_hot {I l x1 : Addr} {k : Nat} {xs : Array Value} {Q : Option Value → Shared → Prop} (hot : HotAt A x1 s.heap) (wi : s.heap.IsListIter I l k)
    (wl : s.heap.IsList l xs) (out : xs[k]? = none) (hQ : ∀ g, Heap.ExtBut I s.heap g → Q none { s with heap := g }) : wpAny (model prog w) A (pyNext (.ref I)) Q E s := by
  have nI := hot_ne hot wi
  obtain ⟨hA, o1, fs, e1, d1, c1⟩ := hot
  obtain ⟨oI, eI, cI, dI⟩ := id wi
  obtain ⟨oL, eL, _, nL, dL⟩ := wl
  unfold pyNext
  refine wpAny_bind (wpAny_attempt (wpAny_callSpecial?_slot (name := Str.ofString "__next__")
    wi.typeIs slot_listiter_next (wpAny_call_entry slot_listiter_next wi.typeIs
      entry_listiter_next ?_ (args_listiter_next _))))
  show wpAny _ _ ((field (.ref I) 0) >>= _) _ _ s
  refine wpAny_bind (wpAny_field eI dI (x := .ref l) rfl ?_)
  show wpAny _ _ (if ((Value.ref l == Value.none) = true) then _ else _) _ _ s
  rw [if_neg (show ¬ (((Value.ref l) == Value.none) = true) from Bool.false_ne_true)]
  show wpAny _ _ ((field (.ref I) 1) >>= _) _ _ s
  refine wpAny_bind (wpAny_field eI dI (x := .int k 0) rfl ?_)
  show wpAny _ _ ((seqItems? (.ref l)) >>= _) _ _ s
  refine wpAny_bind (wpAny_seqItems eL dL ?_)
  simp only [Int.toNat_natCast, out]
  refine wpAny_bind (wpAny_rule
    (wpAny_bind (wpAny_setField eI dI (by simp) ?_)))
  show wpAny _ _ ((newExc (.type "StopIteration") []) >>= _) _ _ _
  refine wpAny_bind ?_
  simp only [newExc, newTuple]
  refine wpAny_bind ((wpAny_newObj_type ?_ (by size_fits)))
  refine wpAny_bind (m := firstArgMember _ _)
    (wpAny_of_eq (a := Value.none) (by first | rfl | (simp only [firstArgMember]; rfl)) ?_)
  refine wpAny_newObj_type ?_ (by size_fits)
  have u1 := (Heap.get?_update_other s.heap (Obj.mapFields fun x => x.setIfInBounds 0 .none) nI.symm).trans e1
  refine raiseNew_hot ⟨hA, o1, fs, Heap.get?_push_of_some _ (Heap.get?_push_of_some _ u1), d1, c1⟩
    (Nat.ne_of_lt (Heap.lt_size (Heap.get?_push_of_some _ u1))) (Heap.get?_push_size _ rfl) rfl (by first | (simp; done) | (simp; omega) | (simp only [Array.size_append]; simp; omega)) ?_
  refine wpAny_bind (wpAny_isInstance (T := "StopIteration") (b := true)
    ⟨_, Heap.get?_update_self _ (Heap.get?_push_size _ rfl) rfl, rfl⟩ isSubtype_stop ?_)
  refine wpAny_pure (hQ _ fun b o nb e => ?_)
  have u2 := (Heap.get?_update_other s.heap (Obj.mapFields fun x => x.setIfInBounds 0 .none) (Ne.symm nb)).trans e
  rw [Heap.get?_update_other _ _ (Nat.ne_of_gt (Heap.lt_size
    (Heap.get?_push_of_some _ u2)))]
  exact Heap.get?_push_of_some _ (Heap.get?_push_of_some _ u2)
/-- such a walk -/
theorem walks_hot {x1 : Addr} {o1 : Obj} {fs : Array Value} (hA : A.handled = some (.ref x1)) (d1 : o1.data = .fields fs) (c1 : fs[2]? = some .none) (I ax : Addr) (hne : ax ≠ I) (nI : x1 ≠ I) (xs : Array Value) :
    Walks prog w A I [I, ax, x1] [I] xs.size (fun i v => xs[i]? = some v) (fun i h => (h.IsListIter I ax i ∧ h.IsList ax xs) ∧ h.get? x1 = some o1) where
  sub := fun b hb => by rw [List.mem_singleton.mp hb]; exact List.mem_cons_self
  frame := fun _ _ _ st hk => ⟨⟨st.1.1.at fun o e => hk I (by simp) o e, st.1.2.at fun o e => hk ax (by simp) o e⟩, hk x1 (by simp) o1 st.2⟩
  item := fun i s Q E hi st hQ => by
    refine wpAny_pyNext_list_item st.1.1 st.1.2 (x := xs[i]) (by simp [hi]) fun g git gs => ?_
    exact hQ _ g s.toks (by simp [hi]) ⟨⟨git, st.1.2.extBut gs.extBut hne⟩, gs.extBut x1 o1 nI st.2⟩ fun b o hb e => gs.extBut b o (fun z => hb (by simp [z])) e
  done := fun s Q E st hQ => list_end_hot ⟨hA, o1, fs, st.2, d1, c1⟩ st.1.1 st.1.2 (by simp) fun g ge => hQ g s.toks fun b o hb e => ge b o (fun z => hb (by simp [z])) e
  self := fun _ _ _ _ st hQ => wpAny_pyIter_listiter st.1.1 hQ
theorem sum_hot {l x1 : Addr} {its : List Value} {ns : List Int} {Q : Value → Shared → Prop} (hot : HotAt A x1 s.heap) (hl : s.heap.IsList l its.toArray) (hi : IntsAre its ns)
    (h : ∀ g tk t', (∀ b o, s.heap.get? b = some o → g.get? b = some o) → Q (.int ns.sum t') { s with heap := g, toks := tk }) : wpAny (model prog w) A (call (.builtin "sum") [.ref l]) Q E s := by
  obtain ⟨xs, e⟩ := hi.allInts.items
  have hn : numsOf (intItems xs).toList = ns := by rw [← e]; exact hi.numsOf
  rw [nums_intItems] at hn
  rw [e] at hl
  obtain ⟨hA, o1, fs, e1, d1, c1⟩ := hot
  refine call_sum_walkG (iter_intList hl fun s2 ee st hfp hlI => ?_)
  subst ee
  have e2 : (s.heap.push { cls := .type "list_iterator", data := .fields #[.ref l, .int 0 0] }).get? x1 = some o1 := Heap.get?_push_of_some _ e1
  refine ⟨_, _, _, _, _, _, numAt xs, rfl, walks_hot (A := A.in1) hA d1 c1 _ l hlI (Nat.ne_of_lt (Heap.lt_size e1)) (intItems xs), ⟨st, e2⟩, fun b hb => ?_, (fun _ _ => intItems_at), fun g tk t' hk => ?_⟩
  · rcases List.mem_cons.mp hb with q | q
    · exact hfp b (by rw [q]; simp)
    · rcases List.mem_cons.mp q with q | q
      · exact hfp b (by rw [q]; simp)
      · rw [List.mem_singleton.mp q]
        exact Heap.lt_size e2
  · have q := h g tk t' (old_kept hk)
    have ez : preSum (numAt xs) (intItems xs).size = ns.sum := by
      rw [show (intItems xs).size = xs.size by simp [intItems], preSum_eq, List.take_of_length_le (by simp), hn]
    rw [ez]
    exact q
end
section
variable {X : Cx}
theorem cr_sumH (hc : HotC X) : CallR X (.builtin "sum") (rSum X.K) := by
  intro pins s σ H vs us Q I r h
  obtain ⟨a, ns, rfl, hs, q⟩ := h
  obtain ⟨its, rv, hl, _⟩ := I.list hs
  obtain ⟨x1, hot⟩ := hc.at I
  rw [Vals.ref1 r]
  exact sum_hot hot hl.isList rv.ints fun g tk t' hk => ⟨.int _, H, I.kept hk, ⟨_, rfl⟩, q⟩
/-- [elt for name in xs] while an error is handled -/
theorem pe_lcH {elt tg iter : Expr} {scope : Scope} {own : List (Str × Nat)} {pos : Pos} {tl : TE} {g : TG} {te : TE} (hc : HotC X) (hN : X.N.Nodup) (hl : PE X iter tl) (ok : BlkOk X.N X.env.scope scope own)
    (hg : ∀ (s : Shared) (H : Hp) (C : Addr) (cl : List (Str × Addr)) (fp : List Addr), PG (X.blk s H scope (compEnvC scope cl C X.env) fp) tg g)
    (he : ∀ (s : Shared) (H : Hp) (C : Addr) (cl : List (Str × Addr)) (fp : List Addr), PE (X.blk s H scope (compEnvC scope cl C X.env) fp) elt te) (hs : ∀ x, foldedSetIterable iter X.env x = pure x := by intro _; rfl) :
    PE X (.ListComp elt [⟨tg, iter, [], 0⟩] scope pos) (tLc (iList X.K tl) g tYes te (own.map (·.2))) := by
  refine ⟨fun pins s σ H Q I h => ?_⟩
  rw [eval_ListComp]
  have hfree : ∀ y ∈ scope.names, y.2 = .free → ∃ c, X.env.cells.lookup y.1 = some c := fun y hy z =>
    (ok.free y hy z).elim (fun k => I.ok.has _ (.inl k)) fun k => I.ok.has _ (.inr k)
  refine wpAny_comprehension_free (use := none) rfl hs (closure_ok hfree) ok.kind
    (fun y hy z => by rw [ok.uniq y hy, z]) (thn (hl.run pins s σ H _ I h) fun xv t1 hx => ?_)
  obtain ⟨x, H1, I1, rx, ax, rfl, ⟨ys0, sq0⟩, q⟩ := hx
  cases rx
  obtain ⟨its0, rv0, pl0, hz0⟩ := I1.list sq0
  refine wpAny_pyIter_list pl0.isList ?_
  obtain ⟨it, hit⟩ : ∃ b, b = t1.heap.objs.size := ⟨_, rfl⟩
  rw [← hit]
  obtain ⟨t2, ht2⟩ : ∃ t : Shared, t = { t1 with heap := t1.heap.push { cls := .type "list_iterator", data := .fields #[.ref ax, .int 0 0] } } := ⟨_, rfl⟩
  rw [← ht2]
  have I2 : Inv X pins σ H1 t2 := by
    rw [ht2]
    exact I1.kept (t' := t1.toks) fun b o e => Heap.get?_push_of_some _ e
  have wi0 : t2.heap.IsListIter it ax 0 := by
    rw [ht2, hit]
    exact ⟨_, Heap.get?_push_size _ rfl, rfl, rfl⟩
  have f2 : FpOk X pins H1 it := by
    rw [hit]
    exact I1.fpOk (Nat.le_refl _) (I1.hok.fresh (Nat.le_refl _))
  have neA : ax ≠ it := by
    obtain ⟨_, e, _⟩ := pl0.isList
    rw [hit]
    exact Nat.ne_of_lt (Heap.lt_size e)
  refine wpAny_newObj_type (newEnv_comp ?_)
    (by show 0 ≤ sizeLine; decide)
  obtain ⟨D, hD⟩ : ∃ b, b = t2.heap.objs.size := ⟨_, rfl⟩
  have hDn : H1 D = none := I2.hok.fresh (Nat.le_of_eq hD.symm)
  obtain ⟨W, ⟨m0, w0⟩, turn⟩ := q D hDn
  obtain ⟨t3, ht3⟩ : ∃ t : Shared, t = { t2 with heap := t2.heap.push { cls := .type "list", data := .seq ([] : List Value).toArray } } := ⟨_, rfl⟩
  have I3 : Inv X pins σ (upd H1 D (.lst [])) t3 := by
    rw [ht3]
    refine I2.laid (t' := t2.toks) (fun b o e => Heap.get?_push_of_some _ e) (Nat.le_of_eq hD.symm) ⟨Nat.zero_le _, [], 0, .nil, ?_⟩
    rw [hD]
    exact Heap.get?_push_size _ rfl
  have it2 : it < t2.heap.objs.size := by
    obtain ⟨_, e, _⟩ := wi0
    exact Heap.lt_size e
  have f3 : FpOk X pins (upd H1 D (.lst [])) it ∧ it < t3.heap.objs.size := by
    refine ⟨⟨?_, f2.2⟩, ?_⟩
    · rw [upd_ne (by rw [hD]; exact Nat.ne_of_lt it2)]
      exact f2.1
    · rw [ht3]
      show it < (t2.heap.push _).objs.size
      rw [Heap.size_push]
      exact Nat.lt_succ_of_lt it2
  have wi3 : t3.heap.IsListIter it ax 0 := by
    rw [ht3]
    exact wi0.at fun o e => Heap.get?_push_of_some _ e
  have one : ∀ {F : Addr → Prop}, F it → ∀ b ∈ [it], F b := fun hF b hb => by rw [List.mem_singleton.mp hb]; exact hF
  have I4 := block_start I3 ok hN (one f3)
  have pg := hg t3 (upd H1 D (.lst [])) t3.heap.objs.size (cellsFrom (t3.heap.objs.size + 1) scope.names (cloFrom X.env.cells scope.names [])) [it]
  have pe := he t3 (upd H1 D (.lst [])) t3.heap.objs.size (cellsFrom (t3.heap.objs.size + 1) scope.names (cloFrom X.env.cells scope.names [])) [it]
  rw [← hD, ← ht3]
  show codeAny _ _ (.compStart (.ListComp elt [⟨tg, iter, [], 0⟩] scope pos) 0 (.ref it) (.ref D)
    (compEnvC scope (cellsFrom (t3.heap.objs.size + 1) scope.names (cloFrom X.env.cells scope.names [])) t3.heap.objs.size X.env)) (compPost (model X.prog X.w) X.A X.xe none _ (.ref D) t3.heap.objs.size)
      { t3 with heap := pushCells (t3.heap.push { cls := .type "dict", data := .dict #[] }) scope.names }
  obtain ⟨ce, hce⟩ : ∃ c, c = compEnvC scope (cellsFrom (t3.heap.objs.size + 1) scope.names (cloFrom X.env.cells scope.names [])) t3.heap.objs.size X.env := ⟨_, rfl⟩
  have cL : ce.locals = t3.heap.objs.size := by rw [hce]; rfl
  rw [← hce] at I4 pg pe ⊢
  obtain ⟨H3, hH3⟩ : ∃ c, c = upd H1 D (.lst []) := ⟨_, rfl⟩
  rw [← hH3] at I3 I4 pg pe w0 f3
  obtain ⟨t4, ht4⟩ : ∃ t : Shared, t = { t3 with heap := pushCells (t3.heap.push { cls := .type "dict", data := .dict #[] }) scope.names } := ⟨_, rfl⟩
  rw [← ht4] at I4 ⊢
  have wi4 : t4.heap.IsListIter it ax 0 := by
    rw [ht4]
    exact wi3.at fun o e => pushCells_keeps _ _ _ _ (Heap.get?_push_of_some _ e)
  have stat : ∀ {σ' : L2.St} {H' : Hp} {s' : Shared}, Inv (X.blk t3 H3 scope ce [it]) [] σ' H' s' → H' it = none → FpOk (X.blk t3 H3 scope ce [it]) [] H' it := fun {σ' H' s'} J n =>
    ⟨n, (J.ok.exf it List.mem_cons_self).1, J.ok.exfs it List.mem_cons_self, .inl List.mem_cons_self, fun x c e => (J.ok.exf it List.mem_cons_self).2 x c e, fun p hp => nomatch hp⟩
  have home : ∀ {σ' : L2.St} {H' : Hp} {s' : Shared}, Inv (X.blk t3 H3 scope ce [it]) [] σ' H' s' → Inv X pins σ H' s' := fun {σ' H' s'} J =>
    I3.call' (ch := [it]) J.os J.base J.hok J.bare (one ⟨f3.1.2.2.2.1, f3.1.2.1, f3.1.2.2.2.2.1, f3.1.2.2.2.2.2⟩)
  have loop : codeAny (model X.prog X.w) X.A (.compLoop (.ListComp elt [⟨tg, iter, [], 0⟩] scope pos) 0 (.ref it) (.ref D) ce)
      (compPost (model X.prog X.w) X.A X.xe none (EP X pins σ Q) (.ref D) t3.heap.objs.size) t4 := by
    refine compLoop_any (fun n s' => ∃ i H', Inv (X.blk t3 H3 scope ce [it]) [] (wipe σ (own.map (·.2))) H' s' ∧ s'.heap.IsListIter it ax i ∧ H' it = none ∧ W i n H') ?_ m0
      ⟨0, H3, I4, wi4, f3.1.1, w0⟩
    rintro n t5 ⟨i, H5, I5, wi5, n5, w5⟩
    obtain ⟨fs0, fs1, fs2, fs3, fs4, fs5⟩ := stat I5 n5
    rcases turn i n H5 w5 with ⟨⟨ys, sq, le⟩, qq⟩ | ⟨⟨ys, y, sq, ey⟩, Nx, hNx, step⟩
    · obtain ⟨its, rv, pl, hz⟩ := I5.list sq
      have ll := rv.length
      obtain ⟨x1, hot⟩ := hc.at (home I5)
      refine thnF (list_end_hot (E := fun _ _ => False) (Q := fun r s1 => r = none ∧ Inv (X.blk t3 H3 scope ce [it]) [] (wipe σ (own.map (·.2))) H5 s1) hot wi5 pl.isList (by simp; omega) fun g ge =>
        ⟨rfl, I5.turned (t' := t5.toks) (fun b o hb e => ge b o hb e) fs0 fs1 fs3 fs4 fs5⟩) fun r t6 z => ?_
      obtain ⟨rfl, I6⟩ := z
      have I7 := home I6
      have nC : H5 t3.heap.objs.size = none := by
        have z : H5 ce.locals = none := I6.free
        rw [cL] at z
        exact z
      obtain ⟨m, hn, _⟩ := I6.loc
      have hn : t6.heap.Ns ce.locals m := hn
      rw [cL] at hn
      obtain ⟨v0, v1, v2, v3, v4, v5⟩ : FpOk X pins H5 t3.heap.objs.size := I3.fpOk (Nat.le_refl _) nC
      exact ⟨m, hn, fun h2 sb => ⟨.ref D, H5, I7.turned (t' := t6.toks) (fun b o hb e => (sb.2 b hb).trans e) v0 v1 v3 v4 v5, rfl, qq⟩⟩
    · obtain ⟨its, rv, pl, hz⟩ := I5.list sq
      obtain ⟨u, hu, ru⟩ := rv.get ey
      refine wpAny_pyNext_list_item wi5 pl.isList (x := u) (by simpa using hu) fun g wi6 sb => ?_
      have I6 : Inv (X.blk t3 H3 scope ce [it]) [] (wipe σ (own.map (·.2))) H5 { t5 with heap := g } := I5.turned (t' := t5.toks) (fun b o hb e => (sb.2 b hb).trans e) fs0 fs1 fs3 fs4 fs5
      obtain ⟨oI, eI, cI, dI⟩ := id wi6
      refine go_of (s := { t5 with heap := g }) eI cI dI (by decide) ?_
      have I7 := I6.pinned (one (stat I6 n5)) (one ⟨oI, eI, fun v z => by rw [dI] at z; cases z⟩)
      refine thnF (pg.run _ { t5 with heap := g } _ H5 y u _ I7 ru (step y H5 ⟨rfl, fun zs hz => by rw [I5.list_inj hz sq]; exact ey⟩)) fun _ t8 z => ?_
      obtain ⟨σ8, H8, I8, hw8, q8⟩ := z
      refine wpAny_tests_nil ?_
      rw [if_pos rfl]
      have q8 := (show te σ8 H8 _ from q8)
      refine thnF (pe.run _ t8 σ8 H8 _ I8 q8) fun z t10 hz10 => ?_
      obtain ⟨yv, H10, I10, r10, acc, hD10, hs10, nx⟩ := hz10
      refine app_ok (X := X.blk t3 H3 scope ce [it]) I10 hD10 hs10 r10 fun t11 I11 => ?_
      obtain ⟨m', hm, w'⟩ := hNx _ nx
      have pin := I11.pin (it, oI) (List.mem_append_right _ (List.mem_append_right _ (mem_pinsAt List.mem_cons_self eI)))
      have hlw : (wipe σ (own.map (·.2))).length = σ8.length := by rw [← hw8, wipe_length]
      refine ⟨m', hm, i + 1, _, (I11.unpinned (pins := [])).weak hlw (fun j v e => ?_), ⟨oI, pin.1, cI, dI⟩, pin.2.1, w'⟩
      rw [← hw8] at e
      exact (wipe_some e).1
  exact codeAny_compStart_list loop (wpAny_pyIter_listiter wi4 loop)
end
end KX
namespace KX
open PySem PySem.Spec PyProof.Rows L2 HotX L2H
/-- a suite's error is the one that is handled -/
theorem hotS {X : Cx} {a : Addr} {cls : Value} {d : Option Addr} {oe : Obj} {pn : List (Addr × Obj)} (hz : L2N.Zn cls d oe) (hf : ∃ vs, oe.data = .fields vs) : HotC (X.suite a ((a, oe) :: pn)) := by
  obtain ⟨vs, e⟩ := hf
  exact ⟨(a, oe), ⟨rfl, vs, e, hz.2.2 vs e⟩, List.mem_cons_self⟩
section
variable {X : Cx} {a : Addr} {cls : Value} {d : Option Addr} {oe : Obj} {pn : List (Addr × Obj)}
theorem cr_sumS (hz : L2N.Zn cls d oe) (hf : ∃ vs, oe.data = .fields vs) : CallR (X.suite a ((a, oe) :: pn)) (.builtin "sum") (rSum X.K) := cr_sumH (X := X.suite a ((a, oe) :: pn)) (hotS hz hf)
theorem pe_lcS {elt tg iter : Expr} {scope : Scope} {own : List (Str × Nat)} {pos : Pos} {tl : TE} {g : TG} {te : TE} (hz : L2N.Zn cls d oe) (hf : ∃ vs, oe.data = .fields vs) (hN : X.N.Nodup) (hl : PE (X.suite a ((a, oe) :: pn)) iter tl) (ok : BlkOk X.N X.env.scope scope own)
    (hg : ∀ (s : Shared) (H : Hp) (C : Addr) (cl : List (Str × Addr)) (fp : List Addr), PG ((X.suite a ((a, oe) :: pn)).blk s H scope (compEnvC scope cl C X.env) fp) tg g)
    (he : ∀ (s : Shared) (H : Hp) (C : Addr) (cl : List (Str × Addr)) (fp : List Addr), PE ((X.suite a ((a, oe) :: pn)).blk s H scope (compEnvC scope cl C X.env) fp) elt te) (hs : ∀ x, foldedSetIterable iter X.env x = pure x := by intro _; rfl) :
    PE (X.suite a ((a, oe) :: pn)) (.ListComp elt [⟨tg, iter, [], 0⟩] scope pos) (tLc (iList X.K tl) g tYes te (own.map (·.2))) := pe_lcH (X := X.suite a ((a, oe) :: pn)) (hotS hz hf) hN hl ok hg he hs
end
/-- len(xs) within a comprehension's block -/
theorem call_len_seqB {X : Cx} {K : PySem.W.Frag} (e : X.K = K) : CallR X (.builtin "len") (fun xs H Q => ∃ p ys, xs = [V.ref p] ∧ (SqL K H p ys ∨ SqT K H p ys) ∧ Q (V.int (ys.length : Nat)) H) := by
  subst e
  exact call_len_seq
end KX

end
section
set_option Elab.async false
set_option linter.all false
set_option maxRecDepth 100000
set_option maxHeartbeats 4000000
namespace K02
open PySem L2 Kit KR KX KI RM
local macro_rules | `(tactic| fail "om") => `(tactic| first | omega | (simp only [List.length_map, List.length_append, List.length_cons, List.length_nil]; omega) | (simp only [List.length_map, List.length_append, List.length_cons, List.length_nil] at *; omega) | assumption | decide | (simp only [List.length_take, List.length_drop]; omega) | (rw [every_len]; omega) | fail "no om")
local macro_rules | `(tactic| fail "nz") => `(tactic| first | decide | omega | fail "no nz")
local macro_rules | `(tactic| fail "dv") => `(tactic| exact ⟨by first | decide | omega, by first | decide | omega⟩)
local macro_rules | `(tactic| fail "mul") => `(tactic| first | exact .inr ⟨by decide, by decide⟩ | exact .inl ⟨by decide, by decide⟩ | exact mulF (by decide) (by decide) | exact .inl ⟨by omega, by omega⟩ | exact .inr ⟨by omega, by omega⟩ | fail "no mul")
local macro_rules | `(tactic| fail "sz") => `(tactic| first | assumption | exact Nat.zero_le _ | (show 1 ≤ sizeLine; decide) | (show 2 ≤ sizeLine; decide) | (show 3 ≤ sizeLine; decide) | (show 4 ≤ sizeLine; decide) | (show 5 ≤ sizeLine; decide) | exact Evl.sz_of (by omega) | (refine Evl.sz_of ?_; simp only [List.length_append, List.length_map, List.length_cons, List.length_nil]; omega) | (refine Evl.sz_of ?_; simp only [List.length_append, List.length_map, List.length_cons, List.length_nil, List.length_take, List.length_drop]; omega) | fail "no sz")
local macro_rules | `(tactic| fail "szl") => `(tactic| first | exact Evl.sz_lt (by omega) | (refine Evl.sz_lt ?_; simp only [List.length_append, List.length_map, List.length_cons, List.length_nil]; omega) | fail "no szl")
local macro_rules | `(tactic| fail "ix") => `(tactic| first | assumption | exact ix0 | exact ix1 | exact ix2 | exact at_ref (by assumption) (by omega) | exact at_int (by assumption) (by omega) | exact at_drawn (by assumption) (by assumption) | exact at_lit (by first | assumption | omega) (by fail "om") | rfl | fail "no ix")
local macro_rules | `(tactic| fail "ixn") => `(tactic| first | rfl | assumption | fail "no ixn")
local macro_rules | `(tactic| fail "nb") => `(tactic| first | assumption | exact nb_tup | exact nb_nil | exact nb_ints | exact nb_refs | exact nb_ins | exact nb_dT | exact nb_frz | fail "no nb")
local macro_rules | `(tactic| fail "ne") => `(tactic| first | assumption | exact Ne.symm (by assumption) | exact ne_of_none (by assumption) (by assumption) | exact (ne_of_none (by assumption) (by assumption)).symm | exact ne_of (by assumption) (by assumption) (by intro q; cases q) | exact ne_of (by assumption) (by assumption) (by simp) | fail "no ne")
local macro_rules | `(tactic| fail "hp") => `(tactic| first | assumption | exact upd_same | exact lit0 | exact lit1 | exact lit3 | exact lit2 | (refine' Tk.get (by assumption) ?k1; (case k1 => fail "tk")) | (with_reducible refine' upd_new ?h1 ?n1; (case n1 => assumption); (case h1 => fail "hp")) | (refine' Same.get (by assumption) ?h1; (case h1 => fail "hp")) | (refine' Kp.get (by assumption) (by fail "bx") ?h1 ?d1; (case h1 => fail "hp"); (case d1 => fail "nb")) | (with_reducible refine' upd_oth ?h1 ?n1; (case n1 => fail "ne"); (case h1 => fail "hp")) | (with_reducible refine' upd_oth ?h1 ?n1; (case h1 => fail "hp"); (case n1 => fail "ne")) | (refine' Kq.get (by assumption) (by fail "bx") ?h1 ?d1 (by fail "ne"); (case h1 => fail "hp"); (case d1 => fail "nb")) | fail "no hp")
local macro_rules | `(tactic| fail "bx") => `(tactic| first | assumption | (with_reducible refine' BoxOk.new ?h1 ?n1; (case n1 => assumption); (case h1 => fail "bx")) | (refine' BoxOk.same (by assumption) ?h1; (case h1 => fail "bx")) | (with_reducible refine' BoxOk.mut ?h1 ?h2 ?n1; (case n1 => assumption); (case h2 => assumption); (case h1 => fail "bx")) | fail "no bx")
local macro_rules | `(tactic| fail "kp") => `(tactic| first | assumption | exact Kp.refl | (with_reducible refine' Kp.at ?h1; (case h1 => fail "kp")) | (with_reducible refine' Kp.new ?h1 ?n1; (case n1 => assumption); (case h1 => fail "kp")) | (with_reducible refine' Kp.mut ?h1 ?n1; (case n1 => assumption); (case h1 => fail "kp")) | (refine' Kp.tr (by assumption) ?h1; (case h1 => fail "kp")) | (refine' Kp.tr (Kp.of (by assumption)) ?h1; (case h1 => fail "kp")) | (refine' Kq.kp (by assumption) ?h1 (by assumption); (case h1 => fail "kp")) | fail "no kp")
local macro_rules | `(tactic| fail "ite") => `(tactic| first | refine iteT ?_ | refine iteF ?_)
local macro_rules | `(tactic| fail "tt") => `(tactic| first | rfl | exact decide_eq_true (by first | rfl | omega | assumption) | exact decide_eq_true (congrArg V.int (by first | rfl | omega)) | fail "no tt")
local macro_rules | `(tactic| fail "cv") => `(tactic| first | exact .ty _ | exact .own _)
local macro_rules | `(tactic| fail "tx") => `(tactic| first | exact .base (.int _) | exact .base (.bl _) | exact .base .non | exact .base (.lst (by fail "hp")) | exact .base (.tup (by fail "hp")) | fail "no tx")
local macro_rules | `(tactic| fail "dead") => `(tactic| (exfalso; first | omega | contradiction | simp_all))
local macro_rules | `(tactic| fail "dp") => `(tactic| first | exact .tup (SqT.of (by fail "hp")) (.cons (.int _) (.cons (.int _) .nil)) | exact .lst (SqL.of (by fail "hp")) (dpPrs (by fail "pr")) | exact .lst (SqL.of (by fail "hp")) (dpInts _) | exact .lst (SqL.of (by fail "hp")) .nil | fail "no dp")
local macro_rules | `(tactic| fail "shp") => `(tactic| first | assumption | exact prD_shaped _ | exact PySem.W.ke_shaped_ints _ | rfl | fail "no shp")
local macro_rules | `(tactic| fail "pr") => `(tactic| first | assumption | exact PrT.mono (by assumption) (by fail "tk") | fail "no pr")
local macro_rules | `(tactic| fail "tk") => `(tactic| first | assumption | exact Tk.refl | (with_reducible refine' Tk.new ?h1 ?n1; (case n1 => assumption); (case h1 => fail "tk")) | (refine' Tk.tr (Kp.tk (by assumption) (by fail "bx")) ?h1; (case h1 => fail "tk")) | (refine' Tk.tr (Same.tk (by assumption)) ?h1; (case h1 => fail "tk")) | (with_reducible refine' Tk.lst ?h1 ?n1; (case n1 => fail "hp"); (case h1 => fail "tk")) | fail "no tk")
local macro_rules | `(tactic| fail "lk") => `(tactic| first | exact netF_count _ _ | exact netF_links _ _ | exact netF_no _ _ (by decide +kernel) (by decide +kernel) | fail "no lk")
local macro_rules | `(tactic| fail "kt") => `(tactic| first | exact upd_same | assumption | fail "hp")
local macro_rules | `(tactic| fail "na") => `(tactic| first | assumption | (with_reducible refine' NetAt.new ?h1 ?n1; (case n1 => assumption); (case h1 => fail "na")) | (refine' NetAt.same (by assumption) ?h1; (case h1 => fail "na")) | (refine' NetAt.kp (by assumption) (by fail "bx") ?h1; (case h1 => fail "na")) | (with_reducible refine' NetAt.lst ?h1 ?n1; (case n1 => fail "hp"); (case h1 => fail "na")) | fail "no na")
local macro_rules | `(tactic| fail "mono") => `(tactic| first | exact fun _ _ _ _ h q => h _ _ q | exact fun _ _ _ _ h q => (let ⟨v, e, z⟩ := q; ⟨v, e, h _ _ z⟩) | exact fun _ _ _ _ h q => (let ⟨v, e, u, f, z⟩ := q; ⟨v, e, u, f, h _ _ z⟩) | fail "no mono")
local macro_rules | `(tactic| fail "sm") => `(tactic| first | assumption | exact Same.refl _ | (with_reducible refine' Same.new ?h1 ?n1; (case n1 => assumption); (case h1 => fail "sm")) | (refine' Same.tr (by assumption) ?h1; (case h1 => fail "sm")) | fail "no sm")
local macro_rules | `(tactic| fail "fld") => `(tactic| first | (show 0 < 1000; decide) | (show 1 < 1000; decide) | fail "no fld")
local macro_rules | `(tactic| fail "kq") => `(tactic| first | assumption | exact Kq.refl | (with_reducible refine' Kq.at ?h1; (case h1 => fail "kq")) | (with_reducible refine' Kq.new ?h1 ?n1; (case n1 => assumption); (case h1 => fail "kq")) | (refine' Kq.trans ?h1 (by assumption); (case h1 => fail "kq")) | (refine' Kq.trans ?h1 (Kq.of (by assumption)); (case h1 => fail "kq")) | (refine' Kq.trans ?h1 (Kq.ofS (by assumption)); (case h1 => fail "kq")) | fail "no kq")
local macro_rules | `(tactic| fail "mo") => `(tactic| first | assumption | exact MemOk.take (by assumption) _ | exact MemOk.drop (by assumption) _ | exact every_ok _ | fail "no mo")

section
variable {P : Program} {w : World} {K : PySem.W.Frag} {mg : Str → Option Value} {base : Heap} {CN CI CU CL CT CS Pt : Addr} {mc mu : Value}







structure LTx (K : PySem.W.Frag) (mg : Str → Option Value) (CN CI CU CT CL CS : Addr) (mc mu : Value) : Prop extends NTx K mg CN mc mu where
  all : mg "all" = none
  mgInvalidNet : mg "InvalidNet" = some (.ref CI)
  mgUnknownReplica : mg "UnknownReplica" = some (.ref CU)
  mgNotLinked : mg "NotLinked" = some (.ref CL)
  mgNotTree : mg "NotTree" = some (.ref CT)
  mgStoreError : mg "StoreError" = some (.ref CS)
  mgV : mg "ValueError" = none
  isT : IsX K CT
  isU : IsX K CU
  isL : IsX K CL
  xT : PySem.W.exmOne K (.ref CT) (.ref CS) = some true
  xU : PySem.W.exmOne K (.ref CU) (.ref CS) = some true
  xL : PySem.W.exmOne K (.ref CL) (.ref CS) = some true
  kTT : PySem.W.kitOne K (.ref CT) (.ref CT) = some true
  kTU : PySem.W.kitOne K (.ref CT) (.ref CU) = some false
  kTL : PySem.W.kitOne K (.ref CT) (.ref CL) = some false
  kUT : PySem.W.kitOne K (.ref CU) (.ref CT) = some false
  kUU : PySem.W.kitOne K (.ref CU) (.ref CU) = some true
  kUL : PySem.W.kitOne K (.ref CU) (.ref CL) = some false
  kLT : PySem.W.kitOne K (.ref CL) (.ref CT) = some false
  kLU : PySem.W.kitOne K (.ref CL) (.ref CU) = some false
  kLL : PySem.W.kitOne K (.ref CL) (.ref CL) = some true
  kTV : PySem.W.kitOne K (.ref CT) (.type "ValueError") = some true
  kUV : PySem.W.kitOne K (.ref CU) (.type "ValueError") = some true
  kLV : PySem.W.kitOne K (.ref CL) (.type "ValueError") = some true
  noU : PySem.W.findIn K (.ref CU) "replica" = some none
  noL1 : PySem.W.findIn K (.ref CL) "source" = some none
  noL2 : PySem.W.findIn K (.ref CL) "reader" = some none
section
variable {X : Cx} {k j : Nat} {x : Str} {sp : Sp} {E : L2.St → XK} {p pos : Pos} {e : Expr} {es : List Expr} {t : TA}
/-- a def that may raise, in a try's body -/
theorem pe_cS (c : CalX X.prog X.w X.K X.mg X.base k x sp) (hr : Room j X.A) (hk : k ≤ j) (hg : Gl X x) (hx : ∀ σ, PassesAt (L2N.CX X.prog X.w) X σ (E σ)) (ha : PA X (e :: es) t)
    (hdb : (x == ("__debug__" : Str)) = false := by decide) (he : starEach (e :: es) X.env = (false, eval e X.env) :: starEach es X.env := by rfl) (hpl : (backTo pos (starEach es X.env)).any (·.1) = false := by rfl) :
    PE X (.Call (.Name x p) (e :: es) [] pos) (tCallS sp E t) := by
  obtain ⟨f, fd, ps, F, hm, kp, b⟩ := c.ex
  exact pe_callS F (hr.mono hk) hg hm kp b hx ha hdb he hpl
end
/-- a replica -/
def InR (n : Nat) (x : Int) : Prop := 0 ≤ x ∧ x < (n : Int)
/-- what is due, as a list of ints -/
def DueIs (way : Int) (n : Nat) (R : Rel) (x y : Int) (l : List Int) : Prop :=
  (¬ Tree n R ∧ l = [1]) ∨ (Tree n R ∧ way = 2 ∧ (((x, y) ∈ ties n R ∧ l = [0]) ∨ (¬ (x, y) ∈ ties n R ∧ l = [3, x, y]))) ∨
    (Tree n R ∧ way ≠ 2 ∧ ((InR n x ∧ InR n y ∧ l = [0]) ∨ (InR n x ∧ ¬ InR n y ∧ l = [2, y]) ∨ (¬ InR n x ∧ l = [2, x])))
theorem DueIs.fn {way : Int} {n : Nat} {R : Rel} {x y : Int} {l m : List Int} (a : DueIs way n R x y l) (b : DueIs way n R x y m) : l = m := by
  rcases a with ⟨a1, rfl⟩ | ⟨a1, a2, ⟨a3, rfl⟩ | ⟨a3, rfl⟩⟩ | ⟨a1, a2, ⟨a3, a4, rfl⟩ | ⟨a3, a4, rfl⟩ | ⟨a3, rfl⟩⟩ <;> rcases b with ⟨b1, rfl⟩ | ⟨b1, b2, ⟨b3, rfl⟩ | ⟨b3, rfl⟩⟩ | ⟨b1, b2, ⟨b3, b4, rfl⟩ | ⟨b3, b4, rfl⟩ | ⟨b3, rfl⟩⟩ <;> first | rfl | contradiction
theorem DueIs.few {way : Int} {n : Nat} {R : Rel} {x y : Int} {l : List Int} (a : DueIs way n R x y l) : l.length ≤ 3 := by
  rcases a with ⟨a1, rfl⟩ | ⟨a1, a2, ⟨a3, rfl⟩ | ⟨a3, rfl⟩⟩ | ⟨a1, a2, ⟨a3, a4, rfl⟩ | ⟨a3, a4, rfl⟩ | ⟨a3, rfl⟩⟩ <;> simp
def spAsked2 (CN CU CL CT Pt : Addr) : Sp := fun vs H Q E => ∃ (way : Int) (a : Addr) (n : Nat) (R : Rel) (x y : Int), vs = [.int way, .ref a, .int x, .int y] ∧ 0 ≤ way ∧ way ≤ 2 ∧ NetAt CN H a n R ∧ GxR.TabG H Pt ∧
  (DueIs way n R x y [0] → ∀ (v : V) (H' : Hp), Sp1 Pt H H' → GxR.TabG H' Pt → Q v H') ∧ (¬ Tree n R → RaisesT CT Pt H E) ∧
  (Tree n R → way ≠ 2 → ¬ InR n x → RaisesV CU Pt x H E) ∧ (Tree n R → way ≠ 2 → InR n x → ¬ InR n y → RaisesV CU Pt y H E) ∧ (Tree n R → way = 2 → ¬ (x, y) ∈ ties n R → RaisesM CL Pt x y H E)
def spRefusal (CN Pt : Addr) : Sp := fun vs H Q _ => ∃ (way : Int) (a : Addr) (n : Nat) (R : Rel) (x y : Int), vs = [.int way, .ref a, .int x, .int y] ∧ 0 ≤ way ∧ way ≤ 2 ∧ NetAt CN H a n R ∧ GxR.TabG H Pt ∧
  ∀ (l : List Int) (t : Addr) (H' : Hp), DueIs way n R x y l → Sp1 Pt H H' → GxR.TabG H' Pt → H t = none → H' t = some (.tup (l.map V.int)) → Q (.ref t) H'
abbrev sAsked2 : Stmt := top 41
theorem scAsked2 : FnScope ["way", "net", "one", "other"] ["way", "net", "one", "other"] (defScope sAsked2) := ⟨rfl, rfl, rfl, by decide +kernel, rfl, by decide +kernel, by decide +kernel⟩
theorem ok_Asked2 (D : Df K mg "_law_asked" sAsked2 ["way", "net", "one", "other"]) (T : LTx K mg CN CI CU CT CL CS mc mu) (GTreePath : CalX P w K mg base 13 "tree_path" (spTreePath CN CU CT Pt)) (GTreeDist : CalX P w K mg base 14 "tree_distance" (spTreeDist CN CU CT Pt)) (GTreeSide : CalX P w K mg base 13 "tree_side" (spTreeSide CN CL CT Pt)) : CalX P w K mg base 15 "_law_asked" (spAsked2 CN CU CL CT Pt) := by
  obtain ⟨f, fd, F, hm, hb⟩ := D
  refine ⟨f, fd, ["way", "net", "one", "other"], F.okN scAsked2 (fun vs H Q E h => ?_) (fun cdv A outer s H vs Q E hr h => ?_), hm, F.kp, hb⟩
  · obtain ⟨way, a, n, R, x, y, rfl, w0, w2, na, tg, kG, kT, kU, kV, kL⟩ := h
    rfl
  · obtain ⟨way, a, n, R, x, y, rfl, w0, w2, na, tg, kG, kT, kU, kV, kL⟩ := h
    refine ⟨_, (pss_cons (ps_if (pt_cmpR op_eq (pv 0) pe_int (nomark _))
        (pss_one (ps_ret (pe_cX GTreePath hr (by decide) (by rfl) (L2N.passes_call (L2N.takes_of rfl rfl rfl rfl) fun _ _ _ _ h => h) (pa_cons (pv 1) (pa_cons (pv 2) (pa_cons (pv 3) pa_nil))))))
        pss_nil)
      (pss_cons (ps_if (pt_cmpR op_eq (pv 0) pe_int (nomark _))
        (pss_one (ps_ret (pe_cX GTreeDist hr (by decide) (by rfl) (L2N.passes_call (L2N.takes_of rfl rfl rfl rfl) fun _ _ _ _ h => h) (pa_cons (pv 1) (pa_cons (pv 2) (pa_cons (pv 3) pa_nil))))))
        pss_nil)
      (pss_one (ps_ret (pe_cX GTreeSide hr (by decide) (by rfl) (L2N.passes_call (L2N.takes_of rfl rfl rfl rfl) fun _ _ _ _ h => h) (pa_cons (pv 1) (pa_cons (pv 2) (pa_cons (pv 3) pa_nil)))))))), ?_⟩
    refine ⟨_, rfl, rfl, _, rfl, ?_⟩
    refine ifEqI (fun g1 => ?_) (fun g1 => ?_)
    · refine ⟨_, rfl, _, rfl, _, rfl, _, _, _, _, _, rfl, na, tg, fun tr fi la ex ey hfi hla p pf df H1 spn sp tp np hp => ?_, kT, fun tr z => kU tr (by omega) z, fun tr z1 z2 => kV tr (by omega) z1 z2⟩
      exact kG (.inr (.inr ⟨tr, by omega, .inl ⟨⟨by omega, by omega⟩, ⟨by omega, by omega⟩, rfl⟩⟩)) _ _ sp tp
    · refine ⟨_, rfl, rfl, _, rfl, ?_⟩
      refine ifEqI (fun g2 => ?_) (fun g2 => ?_)
      · refine ⟨_, rfl, _, rfl, _, rfl, _, _, _, _, _, rfl, na, tg, fun tr fi la ex ey hfi hla pf df H1 spn sp tp => ?_, kT, fun tr z => kU tr (by omega) z, fun tr z1 z2 => kV tr (by omega) z1 z2⟩
        exact kG (.inr (.inr ⟨tr, by omega, .inl ⟨⟨by omega, by omega⟩, ⟨by omega, by omega⟩, rfl⟩⟩)) _ _ sp tp
      · refine ⟨_, rfl, _, rfl, _, rfl, _, _, _, _, _, rfl, na, tg, fun tr s t ex ey hs ht rst p H1 sp tp np hp => ?_, kT, fun tr z => kL tr (by omega) z⟩
        exact kG (.inr (.inl ⟨tr, by omega, .inl ⟨mem_ties.mpr ⟨s, t, hs, ht, rst, by rw [ex, ey]⟩, rfl⟩⟩)) _ _ sp tp
end
end K02

end
section
set_option Elab.async false
set_option linter.all false
set_option maxRecDepth 100000
set_option maxHeartbeats 4000000
namespace K02
open PySem L2 Kit KR KX KI RM
local macro_rules | `(tactic| fail "om") => `(tactic| first | omega | (simp only [List.length_map, List.length_append, List.length_cons, List.length_nil]; omega) | (simp only [List.length_map, List.length_append, List.length_cons, List.length_nil] at *; omega) | assumption | decide | (simp only [List.length_take, List.length_drop]; omega) | (rw [every_len]; omega) | fail "no om")
local macro_rules | `(tactic| fail "nz") => `(tactic| first | decide | omega | fail "no nz")
local macro_rules | `(tactic| fail "dv") => `(tactic| exact ⟨by first | decide | omega, by first | decide | omega⟩)
local macro_rules | `(tactic| fail "mul") => `(tactic| first | exact .inr ⟨by decide, by decide⟩ | exact .inl ⟨by decide, by decide⟩ | exact mulF (by decide) (by decide) | exact .inl ⟨by omega, by omega⟩ | exact .inr ⟨by omega, by omega⟩ | fail "no mul")
local macro_rules | `(tactic| fail "sz") => `(tactic| first | assumption | exact Nat.zero_le _ | (show 1 ≤ sizeLine; decide) | (show 2 ≤ sizeLine; decide) | (show 3 ≤ sizeLine; decide) | (show 4 ≤ sizeLine; decide) | (show 5 ≤ sizeLine; decide) | exact Evl.sz_of (by omega) | (refine Evl.sz_of ?_; simp only [List.length_append, List.length_map, List.length_cons, List.length_nil]; omega) | (refine Evl.sz_of ?_; simp only [List.length_append, List.length_map, List.length_cons, List.length_nil, List.length_take, List.length_drop]; omega) | fail "no sz")
local macro_rules | `(tactic| fail "szl") => `(tactic| first | exact Evl.sz_lt (by omega) | (refine Evl.sz_lt ?_; simp only [List.length_append, List.length_map, List.length_cons, List.length_nil]; omega) | fail "no szl")
local macro_rules | `(tactic| fail "ix") => `(tactic| first | assumption | exact ix0 | exact ix1 | exact ix2 | exact at_ref (by assumption) (by omega) | exact at_int (by assumption) (by omega) | exact at_drawn (by assumption) (by assumption) | exact at_lit (by first | assumption | omega) (by fail "om") | rfl | fail "no ix")
local macro_rules | `(tactic| fail "ixn") => `(tactic| first | rfl | assumption | fail "no ixn")
local macro_rules | `(tactic| fail "nb") => `(tactic| first | assumption | exact nb_tup | exact nb_nil | exact nb_ints | exact nb_refs | exact nb_ins | exact nb_dT | exact nb_frz | fail "no nb")
local macro_rules | `(tactic| fail "ne") => `(tactic| first | assumption | exact Ne.symm (by assumption) | exact ne_of_none (by assumption) (by assumption) | exact (ne_of_none (by assumption) (by assumption)).symm | exact ne_of (by assumption) (by assumption) (by intro q; cases q) | exact ne_of (by assumption) (by assumption) (by simp) | fail "no ne")
local macro_rules | `(tactic| fail "hp") => `(tactic| first | assumption | exact upd_same | exact lit0 | exact lit1 | exact lit3 | exact lit2 | (refine' Tk.get (by assumption) ?k1; (case k1 => fail "tk")) | (with_reducible refine' upd_new ?h1 ?n1; (case n1 => assumption); (case h1 => fail "hp")) | (refine' Same.get (by assumption) ?h1; (case h1 => fail "hp")) | (refine' Kp.get (by assumption) (by fail "bx") ?h1 ?d1; (case h1 => fail "hp"); (case d1 => fail "nb")) | (with_reducible refine' upd_oth ?h1 ?n1; (case n1 => fail "ne"); (case h1 => fail "hp")) | (with_reducible refine' upd_oth ?h1 ?n1; (case h1 => fail "hp"); (case n1 => fail "ne")) | (refine' Kq.get (by assumption) (by fail "bx") ?h1 ?d1 (by fail "ne"); (case h1 => fail "hp"); (case d1 => fail "nb")) | fail "no hp")
local macro_rules | `(tactic| fail "bx") => `(tactic| first | assumption | (with_reducible refine' BoxOk.new ?h1 ?n1; (case n1 => assumption); (case h1 => fail "bx")) | (refine' BoxOk.same (by assumption) ?h1; (case h1 => fail "bx")) | (with_reducible refine' BoxOk.mut ?h1 ?h2 ?n1; (case n1 => assumption); (case h2 => assumption); (case h1 => fail "bx")) | fail "no bx")
local macro_rules | `(tactic| fail "kp") => `(tactic| first | assumption | exact Kp.refl | (with_reducible refine' Kp.at ?h1; (case h1 => fail "kp")) | (with_reducible refine' Kp.new ?h1 ?n1; (case n1 => assumption); (case h1 => fail "kp")) | (with_reducible refine' Kp.mut ?h1 ?n1; (case n1 => assumption); (case h1 => fail "kp")) | (refine' Kp.tr (by assumption) ?h1; (case h1 => fail "kp")) | (refine' Kp.tr (Kp.of (by assumption)) ?h1; (case h1 => fail "kp")) | (refine' Kq.kp (by assumption) ?h1 (by assumption); (case h1 => fail "kp")) | fail "no kp")
local macro_rules | `(tactic| fail "ite") => `(tactic| first | refine iteT ?_ | refine iteF ?_)
local macro_rules | `(tactic| fail "tt") => `(tactic| first | rfl | exact decide_eq_true (by first | rfl | omega | assumption) | exact decide_eq_true (congrArg V.int (by first | rfl | omega)) | fail "no tt")
local macro_rules | `(tactic| fail "cv") => `(tactic| first | exact .ty _ | exact .own _)
local macro_rules | `(tactic| fail "tx") => `(tactic| first | exact .base (.int _) | exact .base (.bl _) | exact .base .non | exact .base (.lst (by fail "hp")) | exact .base (.tup (by fail "hp")) | fail "no tx")
local macro_rules | `(tactic| fail "dead") => `(tactic| (exfalso; first | omega | contradiction | simp_all))
local macro_rules | `(tactic| fail "dp") => `(tactic| first | exact .tup (SqT.of (by fail "hp")) (.cons (.int _) (.cons (.int _) .nil)) | exact .lst (SqL.of (by fail "hp")) (dpPrs (by fail "pr")) | exact .lst (SqL.of (by fail "hp")) (dpInts _) | exact .lst (SqL.of (by fail "hp")) .nil | fail "no dp")
local macro_rules | `(tactic| fail "shp") => `(tactic| first | assumption | exact prD_shaped _ | exact PySem.W.ke_shaped_ints _ | rfl | fail "no shp")
local macro_rules | `(tactic| fail "pr") => `(tactic| first | assumption | exact PrT.mono (by assumption) (by fail "tk") | fail "no pr")
local macro_rules | `(tactic| fail "tk") => `(tactic| first | assumption | exact Tk.refl | (with_reducible refine' Tk.new ?h1 ?n1; (case n1 => assumption); (case h1 => fail "tk")) | (refine' Tk.tr (Kp.tk (by assumption) (by fail "bx")) ?h1; (case h1 => fail "tk")) | (refine' Tk.tr (Same.tk (by assumption)) ?h1; (case h1 => fail "tk")) | (with_reducible refine' Tk.lst ?h1 ?n1; (case n1 => fail "hp"); (case h1 => fail "tk")) | fail "no tk")
local macro_rules | `(tactic| fail "lk") => `(tactic| first | exact netF_count _ _ | exact netF_links _ _ | exact netF_no _ _ (by decide +kernel) (by decide +kernel) | fail "no lk")
local macro_rules | `(tactic| fail "kt") => `(tactic| first | exact upd_same | assumption | fail "hp")
local macro_rules | `(tactic| fail "na") => `(tactic| first | assumption | (with_reducible refine' NetAt.new ?h1 ?n1; (case n1 => assumption); (case h1 => fail "na")) | (refine' NetAt.same (by assumption) ?h1; (case h1 => fail "na")) | (refine' NetAt.kp (by assumption) (by fail "bx") ?h1; (case h1 => fail "na")) | (with_reducible refine' NetAt.lst ?h1 ?n1; (case n1 => fail "hp"); (case h1 => fail "na")) | fail "no na")
local macro_rules | `(tactic| fail "mono") => `(tactic| first | exact fun _ _ _ _ h q => h _ _ q | exact fun _ _ _ _ h q => (let ⟨v, e, z⟩ := q; ⟨v, e, h _ _ z⟩) | exact fun _ _ _ _ h q => (let ⟨v, e, u, f, z⟩ := q; ⟨v, e, u, f, h _ _ z⟩) | fail "no mono")
local macro_rules | `(tactic| fail "sm") => `(tactic| first | assumption | exact Same.refl _ | (with_reducible refine' Same.new ?h1 ?n1; (case n1 => assumption); (case h1 => fail "sm")) | (refine' Same.tr (by assumption) ?h1; (case h1 => fail "sm")) | fail "no sm")
local macro_rules | `(tactic| fail "fld") => `(tactic| first | (show 0 < 1000; decide) | (show 1 < 1000; decide) | fail "no fld")
local macro_rules | `(tactic| fail "kq") => `(tactic| first | assumption | exact Kq.refl | (with_reducible refine' Kq.at ?h1; (case h1 => fail "kq")) | (with_reducible refine' Kq.new ?h1 ?n1; (case n1 => assumption); (case h1 => fail "kq")) | (refine' Kq.trans ?h1 (by assumption); (case h1 => fail "kq")) | (refine' Kq.trans ?h1 (Kq.of (by assumption)); (case h1 => fail "kq")) | (refine' Kq.trans ?h1 (Kq.ofS (by assumption)); (case h1 => fail "kq")) | fail "no kq")
local macro_rules | `(tactic| fail "mo") => `(tactic| first | assumption | exact MemOk.take (by assumption) _ | exact MemOk.drop (by assumption) _ | exact every_ok _ | fail "no mo")

section
variable {P : Program} {w : World} {K : PySem.W.Frag} {mg : Str → Option Value} {base : Heap} {CN CI CU CL CT CS Pt : Addr} {mc mu : Value}








abbrev sRefusal : Stmt := top 42
theorem scRefusal : FnScope ["way", "net", "one", "other", "e", "kinds", "kind"] ["way", "net", "one", "other"] (defScope sRefusal) := ⟨rfl, rfl, rfl, by decide +kernel, rfl, by decide +kernel, by decide +kernel⟩
theorem ok_Refusal (D : Df K mg "_law_refusal" sRefusal ["way", "net", "one", "other"]) (T : LTx K mg CN CI CU CT CL CS mc mu) (GAsked : CalX P w K mg base 15 "_law_asked" (spAsked2 CN CU CL CT Pt)) : C8.Cal P w K mg base 16 "_law_refusal" (spRefusal CN Pt) [] := by
  obtain ⟨f, fd, F, hm, hb⟩ := D
  refine ⟨f, fd, ["way", "net", "one", "other"], [], F.ok scRefusal (fun vs H Q E h => ?_) (fun cdv A outer s H vs Q E hr h => ?_), hm, F.kp, hb, .nil⟩
  · obtain ⟨way, a, n, R, x, y, rfl, w0, w2, na, tg, k⟩ := h
    rfl
  · obtain ⟨way, a, n, R, x, y, rfl, w0, w2, na, tg, k⟩ := h
    refine ⟨_, (pss_cons (L2N.ps_try_as (i := 4) (Wout := fun _ _ _ _ => False) rfl rfl scRefusal.nd rfl rfl ⟨rfl, by decide, Or.inl T.mgStoreError⟩ takesN0
        (fun W pn xe tk _ => (pss_one (ps_expr (pe_cS GAsked hr (by decide) (by rfl) (fun σ => L2N.passAt tk σ) (pa_cons (pv 0) (pa_cons (pv 1) (pa_cons (pv 2) (pa_cons (pv 3) pa_nil))))))))
        (fun a oe cls d pn hz hf => (pss_cons (ps_set (i := 5) scRefusal.nd rfl (Or.inl rfl) (pe_lst (pa_cons (pe_callB (call_isXX hz.zc hf) (by rfl) T.isinstance (by decide +kernel) (pa_cons (pv 4) (pa_cons (pe_glob (v := .ref CT) rfl T.mgNotTree rfl) pa_nil))) (pa_cons (pe_callB (call_isXX hz.zc hf) (by rfl) T.isinstance (by decide +kernel) (pa_cons (pv 4) (pa_cons (pe_glob (v := .ref CU) rfl T.mgUnknownReplica rfl) pa_nil))) (pa_cons (pe_callB (call_isXX hz.zc hf) (by rfl) T.isinstance (by decide +kernel) (pa_cons (pv 4) (pa_cons (pe_glob (v := .ref CL) rfl T.mgNotLinked rfl) pa_nil))) pa_nil)))))
        (pss_cons (ps_if (PW.pt (pw_or (pt_cmpR op_ne (pe_callB (cr_sumS hz hf) (by rfl) T.sum (by decide +kernel) (pa_cons (pe_lcS (own := [("kind", 6)]) (g := gName 6) hz hf scRefusal.nd (pv 5) (blkOk_by (N := ["way", "net", "one", "other", "e", "kinds", "kind"]) (sc := defScope sRefusal) (by decide +kernel)) (fun _ _ _ _ _ => (pg_name (i := 6) scRefusal.nd rfl (Or.inl rfl))) (fun _ _ _ _ _ => (pe_callTy call_int1 (by rfl) T.int (by decide +kernel) (pa_cons (pv 6) pa_nil)))) pa_nil)) pe_int (nomark _)) (pw_or1 (pt_not (pt_val (pe_callB (call_isXX hz.zc hf) (by rfl) T.isinstance (by decide +kernel) (pa_cons (pv 4) (pa_cons (pe_bltn (v := .ty "ValueError") (u := .type "ValueError") (by rfl) T.mgV (by decide +kernel) rfl) pa_nil))))))))
          (pss_one (ps_ret (pe_tup (pa_cons pe_int pa_nil))))
          pss_nil)
        (pss_cons (ps_if (pt_val (pe_ix (ix_listB (K := K) (by rfl)) (pv 5) pe_int (fun _ _ => rfl)))
          (pss_one (ps_ret (pe_tup (pa_cons pe_int pa_nil))))
          pss_nil)
        (pss_cons (ps_if (pt_val (pe_ix (ix_listB (K := K) (by rfl)) (pv 5) pe_int (fun _ _ => rfl)))
          (pss_one (ps_ret (pe_tup (pa_cons pe_int (pa_cons (pe_xf T.isU.xf T.noU hz.zc hf (pv 4)) pa_nil)))))
          pss_nil)
        (pss_one (ps_ret (pe_tup (pa_cons pe_int (pa_cons (pe_xf T.isL.xf T.noL1 hz.zc hf (pv 4)) (pa_cons (pe_xf T.isL.xf T.noL2 hz.zc hf (pv 4)) pa_nil))))))))))))
      (pss_one (ps_ret (pe_tup (pa_cons pe_int pa_nil))))), ?_⟩
    refine ⟨_, rfl, _, rfl, _, rfl, _, rfl, _, _, _, _, _, _, rfl, w0, w2, na, tg, fun du v H1 sp tp => ?_, fun nt H1 sp tp => ?_, fun tr nw nx d H1 sp tp hx => ?_, fun tr nw ix ny d H1 sp tp hx => ?_, fun tr w nl d H1 sp tp hx => ?_⟩
    · refine ⟨(by fail "sz"), fun t nt0 => ?_⟩
      exact k [0] t _ du (sp.trans (Sp1.of (Same.new (Same.refl _) nt0))) (tabG_same (Same.new (Same.refl _) nt0) tp) (sp1_free sp tp nt0) upd_same
    · refine ⟨true, T.xT, fun _ a0 na0 => ?_, fun q => Bool.noConfusion q⟩
      refine ⟨_, rfl, .inr ⟨_, _, _, _, rfl, T.isT, rfl, (fun _ z => z), rfl, T.kTT, ?_⟩⟩
      refine ⟨_, rfl, .inr ⟨_, _, _, _, rfl, T.isT, rfl, (fun _ z => z), rfl, T.kTU, ?_⟩⟩
      refine ⟨_, rfl, .inr ⟨_, _, _, _, rfl, T.isT, rfl, (fun _ z => z), rfl, T.kTL, ?_⟩⟩
      refine ⟨(by fail "sz"), fun p1 np1 => ?_⟩
      have hp1 : (upd H1 p1 (.lst [V.bl true, V.bl false, V.bl false])) p1 = some (.lst [V.bl true, V.bl false, V.bl false]) := upd_same
      refine ⟨_, rfl, _, rfl, ⟨_, SqL.of hp1⟩, fun D1 nD1 => lc_list (K := K) (a := p1) (xs := [V.bl true, V.bl false, V.bl false]) (fun i H' => Same (upd H1 p1 (.lst [V.bl true, V.bl false, V.bl false])) H' ∧ H' D1 = some (.lst (([(1 : Int), 0, 0].take i).map V.int))) ⟨Same.new (Same.refl _) nD1, upd_same⟩ (fun i H' _ z => SqL.of (z.1 _ _ hp1)) (fun i x0 H' hx0 z => by
        obtain ⟨sm', hD⟩ := z
        have il : i < 3 := (List.getElem?_eq_some_iff.mp hx0).1
        have iz : i = 0 ∨ i = 1 ∨ i = 2 := by omega
        refine ⟨rfl, ?_⟩
        unfold tYes
        refine iteT ?_
        rcases iz with rfl | rfl | rfl <;> obtain rfl := Option.some.inj hx0 <;> exact ⟨_, rfl, .inr ⟨_, rfl, _, hD, Evl.sz_lt (by simp), Same.mut sm' nD1, upd_same⟩⟩) (fun H2 z => ?_)⟩
      obtain ⟨sm2, hD⟩ := z
      refine ⟨_, [(1 : Int), 0, 0], rfl, SqL.of hD, rfl, _, rfl, ?_⟩
      refine iteKF (by first | rfl | decide) ?_
      have hp2 := sm2 _ _ hp1
      refine ⟨_, rfl, .inr ⟨_, _, _, _, rfl, T.isT, rfl, (fun _ z => z), rfl, T.kTV, _, rfl, ?_⟩⟩
      refine iteKF rfl ?_
      refine ⟨_, rfl, _, _, _, _, rfl, rfl, SqL.of hp2, ix0, _, rfl, ?_⟩
      refine iteK rfl ?_
      refine ⟨(by fail "sz"), fun t nt0 => ?_⟩
      exact k _ t _ (.inl ⟨nt, rfl⟩) (sp.trans (Sp1.of (Same.new ((Same.new (Same.refl _) np1).trans sm2) nt0))) (tabG_same (Same.new ((Same.new (Same.refl _) np1).trans sm2) nt0) tp) (sp1_free sp tp (free_back nt0 ((Same.new (Same.refl _) np1).trans sm2))) upd_same
    · refine ⟨true, T.xU, fun _ a0 na0 => ?_, fun q => Bool.noConfusion q⟩
      refine ⟨_, rfl, .inl ⟨_, _, _, _, _, _, rfl, T.isU, rfl, (fun _ z => z), rfl, hx, T.kUT, ?_⟩⟩
      refine ⟨_, rfl, .inl ⟨_, _, _, _, _, _, rfl, T.isU, rfl, (fun _ z => z), rfl, hx, T.kUU, ?_⟩⟩
      refine ⟨_, rfl, .inl ⟨_, _, _, _, _, _, rfl, T.isU, rfl, (fun _ z => z), rfl, hx, T.kUL, ?_⟩⟩
      refine ⟨(by fail "sz"), fun p1 np1 => ?_⟩
      have hp1 : (upd H1 p1 (.lst [V.bl false, V.bl true, V.bl false])) p1 = some (.lst [V.bl false, V.bl true, V.bl false]) := upd_same
      refine ⟨_, rfl, _, rfl, ⟨_, SqL.of hp1⟩, fun D1 nD1 => lc_list (K := K) (a := p1) (xs := [V.bl false, V.bl true, V.bl false]) (fun i H' => Same (upd H1 p1 (.lst [V.bl false, V.bl true, V.bl false])) H' ∧ H' D1 = some (.lst (([(0 : Int), 1, 0].take i).map V.int))) ⟨Same.new (Same.refl _) nD1, upd_same⟩ (fun i H' _ z => SqL.of (z.1 _ _ hp1)) (fun i x0 H' hx0 z => by
        obtain ⟨sm', hD⟩ := z
        have il : i < 3 := (List.getElem?_eq_some_iff.mp hx0).1
        have iz : i = 0 ∨ i = 1 ∨ i = 2 := by omega
        refine ⟨rfl, ?_⟩
        unfold tYes
        refine iteT ?_
        rcases iz with rfl | rfl | rfl <;> obtain rfl := Option.some.inj hx0 <;> exact ⟨_, rfl, .inr ⟨_, rfl, _, hD, Evl.sz_lt (by simp), Same.mut sm' nD1, upd_same⟩⟩) (fun H2 z => ?_)⟩
      obtain ⟨sm2, hD⟩ := z
      refine ⟨_, [(0 : Int), 1, 0], rfl, SqL.of hD, rfl, _, rfl, ?_⟩
      refine iteKF (by first | rfl | decide) ?_
      have hx2 := sm2 _ _ (upd_new (o := .lst [V.bl false, V.bl true, V.bl false]) hx np1)
      have hp2 := sm2 _ _ hp1
      refine ⟨_, rfl, .inl ⟨_, _, _, _, _, _, rfl, T.isU, rfl, (fun _ z => z), rfl, hx2, T.kUV, _, rfl, ?_⟩⟩
      refine iteKF rfl ?_
      refine ⟨_, rfl, _, _, _, _, rfl, rfl, SqL.of hp2, ix0, _, rfl, ?_⟩
      refine iteKF rfl ?_
      refine ⟨_, rfl, _, _, _, _, rfl, rfl, SqL.of hp2, ix1, _, rfl, ?_⟩
      refine iteK rfl ?_
      refine ⟨_, rfl, rfl, rfl, _, _, _, rfl, hx2, (by rfl), (by fail "sz"), fun t nt0 => ?_⟩
      exact k _ t _ (.inr (.inr ⟨tr, nw, .inr (.inr ⟨nx, rfl⟩)⟩)) (sp.trans (Sp1.of (Same.new ((Same.new (Same.refl _) np1).trans sm2) nt0))) (tabG_same (Same.new ((Same.new (Same.refl _) np1).trans sm2) nt0) tp) (sp1_free sp tp (free_back nt0 ((Same.new (Same.refl _) np1).trans sm2))) upd_same
    · refine ⟨true, T.xU, fun _ a0 na0 => ?_, fun q => Bool.noConfusion q⟩
      refine ⟨_, rfl, .inl ⟨_, _, _, _, _, _, rfl, T.isU, rfl, (fun _ z => z), rfl, hx, T.kUT, ?_⟩⟩
      refine ⟨_, rfl, .inl ⟨_, _, _, _, _, _, rfl, T.isU, rfl, (fun _ z => z), rfl, hx, T.kUU, ?_⟩⟩
      refine ⟨_, rfl, .inl ⟨_, _, _, _, _, _, rfl, T.isU, rfl, (fun _ z => z), rfl, hx, T.kUL, ?_⟩⟩
      refine ⟨(by fail "sz"), fun p1 np1 => ?_⟩
      have hp1 : (upd H1 p1 (.lst [V.bl false, V.bl true, V.bl false])) p1 = some (.lst [V.bl false, V.bl true, V.bl false]) := upd_same
      refine ⟨_, rfl, _, rfl, ⟨_, SqL.of hp1⟩, fun D1 nD1 => lc_list (K := K) (a := p1) (xs := [V.bl false, V.bl true, V.bl false]) (fun i H' => Same (upd H1 p1 (.lst [V.bl false, V.bl true, V.bl false])) H' ∧ H' D1 = some (.lst (([(0 : Int), 1, 0].take i).map V.int))) ⟨Same.new (Same.refl _) nD1, upd_same⟩ (fun i H' _ z => SqL.of (z.1 _ _ hp1)) (fun i x0 H' hx0 z => by
        obtain ⟨sm', hD⟩ := z
        have il : i < 3 := (List.getElem?_eq_some_iff.mp hx0).1
        have iz : i = 0 ∨ i = 1 ∨ i = 2 := by omega
        refine ⟨rfl, ?_⟩
        unfold tYes
        refine iteT ?_
        rcases iz with rfl | rfl | rfl <;> obtain rfl := Option.some.inj hx0 <;> exact ⟨_, rfl, .inr ⟨_, rfl, _, hD, Evl.sz_lt (by simp), Same.mut sm' nD1, upd_same⟩⟩) (fun H2 z => ?_)⟩
      obtain ⟨sm2, hD⟩ := z
      refine ⟨_, [(0 : Int), 1, 0], rfl, SqL.of hD, rfl, _, rfl, ?_⟩
      refine iteKF (by first | rfl | decide) ?_
      have hx2 := sm2 _ _ (upd_new (o := .lst [V.bl false, V.bl true, V.bl false]) hx np1)
      have hp2 := sm2 _ _ hp1
      refine ⟨_, rfl, .inl ⟨_, _, _, _, _, _, rfl, T.isU, rfl, (fun _ z => z), rfl, hx2, T.kUV, _, rfl, ?_⟩⟩
      refine iteKF rfl ?_
      refine ⟨_, rfl, _, _, _, _, rfl, rfl, SqL.of hp2, ix0, _, rfl, ?_⟩
      refine iteKF rfl ?_
      refine ⟨_, rfl, _, _, _, _, rfl, rfl, SqL.of hp2, ix1, _, rfl, ?_⟩
      refine iteK rfl ?_
      refine ⟨_, rfl, rfl, rfl, _, _, _, rfl, hx2, (by rfl), (by fail "sz"), fun t nt0 => ?_⟩
      exact k _ t _ (.inr (.inr ⟨tr, nw, .inr (.inl ⟨ix, ny, rfl⟩)⟩)) (sp.trans (Sp1.of (Same.new ((Same.new (Same.refl _) np1).trans sm2) nt0))) (tabG_same (Same.new ((Same.new (Same.refl _) np1).trans sm2) nt0) tp) (sp1_free sp tp (free_back nt0 ((Same.new (Same.refl _) np1).trans sm2))) upd_same
    · refine ⟨true, T.xL, fun _ a0 na0 => ?_, fun q => Bool.noConfusion q⟩
      refine ⟨_, rfl, .inl ⟨_, _, _, _, _, _, rfl, T.isL, rfl, (fun _ z => z), rfl, hx, T.kLT, ?_⟩⟩
      refine ⟨_, rfl, .inl ⟨_, _, _, _, _, _, rfl, T.isL, rfl, (fun _ z => z), rfl, hx, T.kLU, ?_⟩⟩
      refine ⟨_, rfl, .inl ⟨_, _, _, _, _, _, rfl, T.isL, rfl, (fun _ z => z), rfl, hx, T.kLL, ?_⟩⟩
      refine ⟨(by fail "sz"), fun p1 np1 => ?_⟩
      have hp1 : (upd H1 p1 (.lst [V.bl false, V.bl false, V.bl true])) p1 = some (.lst [V.bl false, V.bl false, V.bl true]) := upd_same
      refine ⟨_, rfl, _, rfl, ⟨_, SqL.of hp1⟩, fun D1 nD1 => lc_list (K := K) (a := p1) (xs := [V.bl false, V.bl false, V.bl true]) (fun i H' => Same (upd H1 p1 (.lst [V.bl false, V.bl false, V.bl true])) H' ∧ H' D1 = some (.lst (([(0 : Int), 0, 1].take i).map V.int))) ⟨Same.new (Same.refl _) nD1, upd_same⟩ (fun i H' _ z => SqL.of (z.1 _ _ hp1)) (fun i x0 H' hx0 z => by
        obtain ⟨sm', hD⟩ := z
        have il : i < 3 := (List.getElem?_eq_some_iff.mp hx0).1
        have iz : i = 0 ∨ i = 1 ∨ i = 2 := by omega
        refine ⟨rfl, ?_⟩
        unfold tYes
        refine iteT ?_
        rcases iz with rfl | rfl | rfl <;> obtain rfl := Option.some.inj hx0 <;> exact ⟨_, rfl, .inr ⟨_, rfl, _, hD, Evl.sz_lt (by simp), Same.mut sm' nD1, upd_same⟩⟩) (fun H2 z => ?_)⟩
      obtain ⟨sm2, hD⟩ := z
      refine ⟨_, [(0 : Int), 0, 1], rfl, SqL.of hD, rfl, _, rfl, ?_⟩
      refine iteKF (by first | rfl | decide) ?_
      have hx2 := sm2 _ _ (upd_new (o := .lst [V.bl false, V.bl false, V.bl true]) hx np1)
      have hp2 := sm2 _ _ hp1
      refine ⟨_, rfl, .inl ⟨_, _, _, _, _, _, rfl, T.isL, rfl, (fun _ z => z), rfl, hx2, T.kLV, _, rfl, ?_⟩⟩
      refine iteKF rfl ?_
      refine ⟨_, rfl, _, _, _, _, rfl, rfl, SqL.of hp2, ix0, _, rfl, ?_⟩
      refine iteKF rfl ?_
      refine ⟨_, rfl, _, _, _, _, rfl, rfl, SqL.of hp2, ix1, _, rfl, ?_⟩
      refine iteKF rfl ?_
      refine ⟨_, rfl, rfl, rfl, _, _, _, rfl, hx2, (by rfl), _, rfl, rfl, rfl, _, _, _, rfl, hx2, (by rfl), (by fail "sz"), fun t nt0 => ?_⟩
      exact k _ t _ (.inr (.inl ⟨tr, w, .inr ⟨nl, rfl⟩⟩)) (sp.trans (Sp1.of (Same.new ((Same.new (Same.refl _) np1).trans sm2) nt0))) (tabG_same (Same.new ((Same.new (Same.refl _) np1).trans sm2) nt0) tp) (sp1_free sp tp (free_back nt0 ((Same.new (Same.refl _) np1).trans sm2))) upd_same
end
end K02

end
section
set_option Elab.async false
set_option linter.all false
set_option maxRecDepth 100000
set_option maxHeartbeats 4000000
namespace K02
open PySem L2 Kit KR KX KI RM
local macro_rules | `(tactic| fail "om") => `(tactic| first | omega | (simp only [List.length_map, List.length_append, List.length_cons, List.length_nil]; omega) | (simp only [List.length_map, List.length_append, List.length_cons, List.length_nil] at *; omega) | assumption | decide | (simp only [List.length_take, List.length_drop]; omega) | (rw [every_len]; omega) | fail "no om")
local macro_rules | `(tactic| fail "nz") => `(tactic| first | decide | omega | fail "no nz")
local macro_rules | `(tactic| fail "dv") => `(tactic| exact ⟨by first | decide | omega, by first | decide | omega⟩)
local macro_rules | `(tactic| fail "mul") => `(tactic| first | exact .inr ⟨by decide, by decide⟩ | exact .inl ⟨by decide, by decide⟩ | exact mulF (by decide) (by decide) | exact .inl ⟨by omega, by omega⟩ | exact .inr ⟨by omega, by omega⟩ | fail "no mul")
local macro_rules | `(tactic| fail "sz") => `(tactic| first | assumption | exact Nat.zero_le _ | (show 1 ≤ sizeLine; decide) | (show 2 ≤ sizeLine; decide) | (show 3 ≤ sizeLine; decide) | (show 4 ≤ sizeLine; decide) | (show 5 ≤ sizeLine; decide) | exact Evl.sz_of (by omega) | (refine Evl.sz_of ?_; simp only [List.length_append, List.length_map, List.length_cons, List.length_nil]; omega) | (refine Evl.sz_of ?_; simp only [List.length_append, List.length_map, List.length_cons, List.length_nil, List.length_take, List.length_drop]; omega) | fail "no sz")
local macro_rules | `(tactic| fail "szl") => `(tactic| first | exact Evl.sz_lt (by omega) | (refine Evl.sz_lt ?_; simp only [List.length_append, List.length_map, List.length_cons, List.length_nil]; omega) | fail "no szl")
local macro_rules | `(tactic| fail "ix") => `(tactic| first | assumption | exact ix0 | exact ix1 | exact ix2 | exact at_ref (by assumption) (by omega) | exact at_int (by assumption) (by omega) | exact at_drawn (by assumption) (by assumption) | exact at_lit (by first | assumption | omega) (by fail "om") | rfl | fail "no ix")
local macro_rules | `(tactic| fail "ixn") => `(tactic| first | rfl | assumption | fail "no ixn")
local macro_rules | `(tactic| fail "nb") => `(tactic| first | assumption | exact nb_tup | exact nb_nil | exact nb_ints | exact nb_refs | exact nb_ins | exact nb_dT | exact nb_frz | fail "no nb")
local macro_rules | `(tactic| fail "ne") => `(tactic| first | assumption | exact Ne.symm (by assumption) | exact ne_of_none (by assumption) (by assumption) | exact (ne_of_none (by assumption) (by assumption)).symm | exact ne_of (by assumption) (by assumption) (by intro q; cases q) | exact ne_of (by assumption) (by assumption) (by simp) | fail "no ne")
local macro_rules | `(tactic| fail "hp") => `(tactic| first | assumption | exact upd_same | exact lit0 | exact lit1 | exact lit3 | exact lit2 | (refine' Tk.get (by assumption) ?k1; (case k1 => fail "tk")) | (with_reducible refine' upd_new ?h1 ?n1; (case n1 => assumption); (case h1 => fail "hp")) | (refine' Same.get (by assumption) ?h1; (case h1 => fail "hp")) | (refine' Kp.get (by assumption) (by fail "bx") ?h1 ?d1; (case h1 => fail "hp"); (case d1 => fail "nb")) | (with_reducible refine' upd_oth ?h1 ?n1; (case n1 => fail "ne"); (case h1 => fail "hp")) | (with_reducible refine' upd_oth ?h1 ?n1; (case h1 => fail "hp"); (case n1 => fail "ne")) | (refine' Kq.get (by assumption) (by fail "bx") ?h1 ?d1 (by fail "ne"); (case h1 => fail "hp"); (case d1 => fail "nb")) | fail "no hp")
local macro_rules | `(tactic| fail "bx") => `(tactic| first | assumption | (with_reducible refine' BoxOk.new ?h1 ?n1; (case n1 => assumption); (case h1 => fail "bx")) | (refine' BoxOk.same (by assumption) ?h1; (case h1 => fail "bx")) | (with_reducible refine' BoxOk.mut ?h1 ?h2 ?n1; (case n1 => assumption); (case h2 => assumption); (case h1 => fail "bx")) | fail "no bx")
local macro_rules | `(tactic| fail "kp") => `(tactic| first | assumption | exact Kp.refl | (with_reducible refine' Kp.at ?h1; (case h1 => fail "kp")) | (with_reducible refine' Kp.new ?h1 ?n1; (case n1 => assumption); (case h1 => fail "kp")) | (with_reducible refine' Kp.mut ?h1 ?n1; (case n1 => assumption); (case h1 => fail "kp")) | (refine' Kp.tr (by assumption) ?h1; (case h1 => fail "kp")) | (refine' Kp.tr (Kp.of (by assumption)) ?h1; (case h1 => fail "kp")) | (refine' Kq.kp (by assumption) ?h1 (by assumption); (case h1 => fail "kp")) | fail "no kp")
local macro_rules | `(tactic| fail "ite") => `(tactic| first | refine iteT ?_ | refine iteF ?_)
local macro_rules | `(tactic| fail "tt") => `(tactic| first | rfl | exact decide_eq_true (by first | rfl | omega | assumption) | exact decide_eq_true (congrArg V.int (by first | rfl | omega)) | fail "no tt")
local macro_rules | `(tactic| fail "cv") => `(tactic| first | exact .ty _ | exact .own _)
local macro_rules | `(tactic| fail "tx") => `(tactic| first | exact .base (.int _) | exact .base (.bl _) | exact .base .non | exact .base (.lst (by fail "hp")) | exact .base (.tup (by fail "hp")) | fail "no tx")
local macro_rules | `(tactic| fail "dead") => `(tactic| (exfalso; first | omega | contradiction | simp_all))
local macro_rules | `(tactic| fail "dp") => `(tactic| first | exact .tup (SqT.of (by fail "hp")) (.cons (.int _) (.cons (.int _) .nil)) | exact .lst (SqL.of (by fail "hp")) (dpPrs (by fail "pr")) | exact .lst (SqL.of (by fail "hp")) (dpInts _) | exact .lst (SqL.of (by fail "hp")) .nil | fail "no dp")
local macro_rules | `(tactic| fail "shp") => `(tactic| first | assumption | exact prD_shaped _ | exact PySem.W.ke_shaped_ints _ | rfl | fail "no shp")
local macro_rules | `(tactic| fail "pr") => `(tactic| first | assumption | exact PrT.mono (by assumption) (by fail "tk") | fail "no pr")
local macro_rules | `(tactic| fail "tk") => `(tactic| first | assumption | exact Tk.refl | (with_reducible refine' Tk.new ?h1 ?n1; (case n1 => assumption); (case h1 => fail "tk")) | (refine' Tk.tr (Kp.tk (by assumption) (by fail "bx")) ?h1; (case h1 => fail "tk")) | (refine' Tk.tr (Same.tk (by assumption)) ?h1; (case h1 => fail "tk")) | (with_reducible refine' Tk.lst ?h1 ?n1; (case n1 => fail "hp"); (case h1 => fail "tk")) | fail "no tk")
local macro_rules | `(tactic| fail "lk") => `(tactic| first | exact netF_count _ _ | exact netF_links _ _ | exact netF_no _ _ (by decide +kernel) (by decide +kernel) | fail "no lk")
local macro_rules | `(tactic| fail "kt") => `(tactic| first | exact upd_same | assumption | fail "hp")
local macro_rules | `(tactic| fail "na") => `(tactic| first | assumption | (with_reducible refine' NetAt.new ?h1 ?n1; (case n1 => assumption); (case h1 => fail "na")) | (refine' NetAt.same (by assumption) ?h1; (case h1 => fail "na")) | (refine' NetAt.kp (by assumption) (by fail "bx") ?h1; (case h1 => fail "na")) | (with_reducible refine' NetAt.lst ?h1 ?n1; (case n1 => fail "hp"); (case h1 => fail "na")) | fail "no na")
local macro_rules | `(tactic| fail "mono") => `(tactic| first | exact fun _ _ _ _ h q => h _ _ q | exact fun _ _ _ _ h q => (let ⟨v, e, z⟩ := q; ⟨v, e, h _ _ z⟩) | exact fun _ _ _ _ h q => (let ⟨v, e, u, f, z⟩ := q; ⟨v, e, u, f, h _ _ z⟩) | fail "no mono")
local macro_rules | `(tactic| fail "sm") => `(tactic| first | assumption | exact Same.refl _ | (with_reducible refine' Same.new ?h1 ?n1; (case n1 => assumption); (case h1 => fail "sm")) | (refine' Same.tr (by assumption) ?h1; (case h1 => fail "sm")) | fail "no sm")
local macro_rules | `(tactic| fail "fld") => `(tactic| first | (show 0 < 1000; decide) | (show 1 < 1000; decide) | fail "no fld")
local macro_rules | `(tactic| fail "kq") => `(tactic| first | assumption | exact Kq.refl | (with_reducible refine' Kq.at ?h1; (case h1 => fail "kq")) | (with_reducible refine' Kq.new ?h1 ?n1; (case n1 => assumption); (case h1 => fail "kq")) | (refine' Kq.trans ?h1 (by assumption); (case h1 => fail "kq")) | (refine' Kq.trans ?h1 (Kq.of (by assumption)); (case h1 => fail "kq")) | (refine' Kq.trans ?h1 (Kq.ofS (by assumption)); (case h1 => fail "kq")) | fail "no kq")
local macro_rules | `(tactic| fail "mo") => `(tactic| first | assumption | exact MemOk.take (by assumption) _ | exact MemOk.drop (by assumption) _ | exact every_ok _ | fail "no mo")

section
variable {P : Program} {w : World} {K : PySem.W.Frag} {mg : Str → Option Value} {base : Heap} {CN CI CU CL CT CS Pt : Addr} {mc mu : Value}









theorem inR_tog {n : Nat} {x : Int} (h : 0 ≤ x) (g : x < (n : Int)) : InR n x := ⟨h, g⟩
theorem tie_of {n : Nat} {R : Rel} {x y : Int} (hx : InR n x) (hy : InR n y) : (x, y) ∈ ties n R ↔ R x.toNat y.toNat = true := by
  obtain ⟨u, rfl, hu⟩ := toN hx.1 hx.2
  obtain ⟨v, rfl, hv⟩ := toN hy.1 hy.2
  rw [Int.toNat_natCast, Int.toNat_natCast]
  constructor
  · intro m
    obtain ⟨s, t, hs, ht, r, e⟩ := mem_ties.mp m
    have e1 : (u : Int) = (s : Int) := congrArg Prod.fst e
    have e2 : (v : Int) = (t : Int) := congrArg Prod.snd e
    obtain rfl : u = s := by omega
    obtain rfl : v = t := by omega
    exact r
  · intro r
    exact mem_ties.mpr ⟨u, v, hu, hv, r, rfl⟩
theorem tie_in {n : Nat} {R : Rel} {x y : Int} (m : (x, y) ∈ ties n R) : InR n x ∧ InR n y := by
  obtain ⟨s, t, hs, ht, r, e⟩ := mem_ties.mp m
  have e1 : x = (s : Int) := congrArg Prod.fst e
  have e2 : y = (t : Int) := congrArg Prod.snd e
  exact ⟨⟨by omega, by omega⟩, ⟨by omega, by omega⟩⟩
theorem tab_int {n : Nat} {M : List Int} {R : Rel} {x y : Int} (tb : IsTab n M R) (hx : InR n x) (hy : InR n y) : atI (M.map V.int) (x * (n : Int) + y) = some (V.int (if (R x.toNat y.toNat = true) then 1 else 0)) := by
  obtain ⟨u, rfl, hu⟩ := toN hx.1 hx.2
  obtain ⟨v, rfl, hv⟩ := toN hy.1 hy.2
  rw [Int.toNat_natCast, Int.toNat_natCast]
  exact tab_bit tb hu hv
def spRefused2 : Sp := fun vs H Q _ => ∃ (t u : Addr) (l : List Int), vs = [.ref t, .ref u] ∧ H t = some (.tup (l.map V.int)) ∧ H u = some (.tup (l.map V.int)) ∧ l.length ≤ 3 ∧ Q (.bl true) H
def spDue : Sp := fun vs H Q _ => ∃ (way : Int) (t : Addr) (n : Nat) (M : List Int) (R : Rel) (x y : Int), vs = [.int way, .int (n : Int), .ref t, .int x, .int y] ∧ 1 ≤ n ∧ n ≤ 24 ∧ H t = some (.lst (M.map V.int)) ∧ IsTab n M R ∧ (∀ x y, x < n → y < n → R x y = true → x ≠ y) ∧
  ∀ (l : List Int) (u : Addr) (H' : Hp), DueIs way n R x y l → Same H H' → H u = none → H' u = some (.tup (l.map V.int)) → Q (.ref u) H'
def spAny : Sp := fun vs H Q _ => ∃ (b bc : Addr) (n : Nat), vs = [.ref b, .int (n : Int)] ∧ BoxOk H b bc ∧ 1 ≤ n ∧ n ≤ 24 ∧ ∀ (d : Int) (H' : Hp), Kp b H H' → BoxOk H' b bc → Q (.int d) H'
abbrev sRefused2 : Stmt := top 43
theorem scRefused2 : FnScope ["told", "due", "k"] ["told", "due"] (defScope sRefused2) := ⟨rfl, rfl, rfl, by decide +kernel, rfl, by decide +kernel, by decide +kernel⟩
theorem ok_Refused2 (D : Df K mg "_law_refused" sRefused2 ["told", "due"]) (T : Txt K mg) (GIsInt : C8.Cal P w K mg base 1 "_law_is_int" spIsInt []) : C8.Cal P w K mg base 2 "_law_refused" spRefused2 [] := by
  obtain ⟨f, fd, F, hm, hb⟩ := D
  refine ⟨f, fd, ["told", "due"], [], F.ok scRefused2 (fun vs H Q E h => ?_) (fun cdv A outer s H vs Q E hr h => ?_), hm, F.kp, hb, .nil⟩
  · obtain ⟨t, u, l, rfl, ht, hu, few, kQ⟩ := h
    rfl
  · obtain ⟨t, u, l, rfl, ht, hu, few, kQ⟩ := h
    refine ⟨_, (pss_cons (ps_if (pt_cmpR op_ne (pe_callB call_len_seq (by rfl) T.len (by decide +kernel) (pa_cons (pv 0) pa_nil)) (pe_callB call_len_seq (by rfl) T.len (by decide +kernel) (pa_cons (pv 1) pa_nil)) (nomark _))
        (pss_one (ps_ret pe_bl))
        pss_nil)
      (pss_cons (ps_for PassesOwn.never rfl (pi_range1 rfl T.range (pa_cons (pe_callB call_len_seq (by rfl) T.len (by decide +kernel) (pa_cons (pv 1) pa_nil)) pa_nil)) (pg_name (i := 2) scRefused2.nd rfl (Or.inl rfl))
        (pss_one (ps_if (PW.pt (pw_or (pt_not (pt_val (C8.pe_c GIsInt hr (by decide) (by rfl) (pa_cons (pe_ix ix_tup (pv 0) (pv 2) (fun _ _ => rfl)) pa_nil)))) (pw_or1 (pt_cmpR op_ne (pe_ix ix_tup (pv 0) (pv 2) (fun _ _ => rfl)) (pe_ix ix_tup (pv 1) (pv 2) (fun _ _ => rfl)) (nomark _)))))
          (pss_one (ps_ret pe_bl))
          pss_nil)))
      (pss_one (ps_ret pe_bl)))), ?_⟩
    -- if len(told) != len(due):
    refine ⟨_, rfl, _, _, rfl, .inr (SqT.of (by fail "hp")), _, rfl, _, _, rfl, .inr (SqT.of (by fail "hp")), rfl, _, rfl, ?_⟩
    refine ifNeI (fun g1 => ?_) (fun g1 => ?_)
    · -- return False
      exact absurd rfl (by assumption)
    · -- for k in range(len(due)):
      refine ⟨_, rfl, _, _, rfl, .inr (SqT.of (by fail "hp")), _, rfl, (by fail "om"), (by fail "om"), for_range (fun i σ H2 => ∃ v : Option V, σ = [some (.ref t), some (.ref u), v] ∧ H2 = H) ⟨_, rfl, rfl⟩ ?_ ?_⟩
      · rintro i σ Hi hi ⟨v, rfl, rfl⟩
        rw [Int.toNat_natCast, List.length_map] at hi
        have il : i < l.length := hi
        have ixt : atI (l.map V.int) (0 + (i : Int)) = some (V.int l[i]) := at_int (List.getElem?_eq_getElem il) (by omega)
        -- if not _law_is_int(told[k]) or told[k] != due[k]:
        refine ⟨_, rfl, _, rfl, _, _, _, _, rfl, rfl, SqT.of (by fail "hp"), (by fail "ix"), _, rfl, ⟨_, rfl, ?_⟩⟩
        fail "ite"
        refine ⟨_, rfl, _, rfl, _, _, _, _, rfl, rfl, SqT.of (by fail "hp"), (by fail "ix"), _, rfl, _, rfl, _, _, _, _, rfl, rfl, SqT.of (by fail "hp"), (by fail "ix"), rfl, _, rfl, ?_⟩
        refine ifNeI (fun g3 => ?_) (fun g3 => ?_)
        · -- return False
          exact absurd rfl (by assumption)
        · exact ⟨_, rfl, rfl⟩
      · rintro σ Hi ⟨v, rfl, rfl⟩
        -- return True
        exact kQ
abbrev sAny : Stmt := top 47
theorem scAny : FnScope ["box", "count"] ["box", "count"] (defScope sAny) := ⟨rfl, rfl, rfl, by decide +kernel, rfl, by decide +kernel, by decide +kernel⟩
theorem ok_Any (D : Df K mg "_law_any" sAny ["box", "count"]) (T : Txt K mg) (GDraw : C8.Cal P w K mg base 1 "_law_draw" spDraw []) (GStranger : C8.Cal P w K mg base 3 "_law_stranger" spStranger []) : C8.Cal P w K mg base 4 "_law_any" spAny [] := by
  obtain ⟨f, fd, F, hm, hb⟩ := D
  refine ⟨f, fd, ["box", "count"], [], F.ok scAny (fun vs H Q E h => ?_) (fun cdv A outer s H vs Q E hr h => ?_), hm, F.kp, hb, .nil⟩
  · obtain ⟨b, bc, n, rfl, bx, n1, n2, k⟩ := h
    rfl
  · obtain ⟨b, bc, n, rfl, bx, n1, n2, k⟩ := h
    refine ⟨_, (pss_cons (ps_if (pt_cmpR op_eq (C8.pe_c GDraw hr (by decide) (by rfl) (pa_cons (pv 0) (pa_cons pe_int pa_nil))) pe_int (nomark _))
        (pss_one (ps_ret (C8.pe_c GDraw hr (by decide) (by rfl) (pa_cons (pv 0) (pa_cons (pv 1) pa_nil)))))
        pss_nil)
      (pss_one (ps_ret (C8.pe_c GStranger hr (by decide) (by rfl) (pa_cons (pv 0) (pa_cons (pv 1) pa_nil)))))), ?_⟩
    -- if _law_draw(box, 2) == 0:
    refine ⟨_, rfl, _, _, _, rfl, (by fail "bx"), (by fail "om"), (by fail "om"), fun d1 H1 da1 db1 kp1 bx1 => ⟨rfl, _, rfl, ?_⟩⟩
    refine ifEqI (fun g2 => ?_) (fun g2 => ?_)
    · -- return _law_draw(box, count)
      refine ⟨_, rfl, _, rfl, _, _, _, rfl, (by fail "bx"), (by fail "om"), (by fail "om"), fun d3 H3 da3 db3 kp3 bx3 => ?_⟩
      exact k _ _ (Kp.trans kp1 kp3) bx3
    · -- return _law_stranger(box, count)
      refine ⟨_, rfl, _, rfl, _, _, _, rfl, (by fail "bx"), (by fail "om"), fun d4 H4 da4 kp4 bx4 => ?_⟩
      exact k _ _ (Kp.trans kp1 kp4) bx4
abbrev sDue : Stmt := top 46
theorem scDue : FnScope ["way", "count", "table", "one", "other", "inside"] ["way", "count", "table", "one", "other"] (defScope sDue) := ⟨rfl, rfl, rfl, by decide +kernel, rfl, by decide +kernel, by decide +kernel⟩
theorem ok_Due (D : Df K mg "_law_due" sDue ["way", "count", "table", "one", "other"]) (T : Txt K mg) (GIsTree2 : C8.Cal P w K mg base 2 "_law_is_tree" spIsTree2 []) : C8.Cal P w K mg base 3 "_law_due" spDue [] := by
  obtain ⟨f, fd, F, hm, hb⟩ := D
  refine ⟨f, fd, ["way", "count", "table", "one", "other"], [], F.ok scDue (fun vs H Q E h => ?_) (fun cdv A outer s H vs Q E hr h => ?_), hm, F.kp, hb, .nil⟩
  · obtain ⟨way, t, n, M, R, x, y, rfl, n1, n2, ht, tb, ir, k⟩ := h
    rfl
  · obtain ⟨way, t, n, M, R, x, y, rfl, n1, n2, ht, tb, ir, k⟩ := h
    refine ⟨_, (pss_cons (ps_if (pt_not (pt_val (C8.pe_c GIsTree2 hr (by decide) (by rfl) (pa_cons (pv 1) (pa_cons (pv 2) pa_nil)))))
        (pss_one (ps_ret (pe_tup (pa_cons pe_int pa_nil))))
        pss_nil)
      (C8.pss_cut (ps_set (i := 5) scDue.nd rfl (Or.inl rfl) (pe_and (pe_chain op_le op_lt pe_int (pv 3) (pv 1)) (pe_one (pe_chain op_le op_lt pe_int (pv 4) (pv 1)))))
      (pss_cons (ps_if (pt_cmpR op_eq (pv 0) pe_int (nomark _))
        (pss_cons (ps_if (PW.pt (pw_and (pt_val (pv 5)) (pw_and1 (pt_cmpR op_eq (pe_ix ix_I (pv 2) (pe_op op_add (pe_op op_mul (pv 3) (pv 1)) (pv 4)) (fun _ _ => rfl)) pe_int (nomark _)))))
          (pss_one (ps_ret (pe_tup (pa_cons pe_int pa_nil))))
          pss_nil)
        (pss_one (ps_ret (pe_tup (pa_cons pe_int (pa_cons (pv 3) (pa_cons (pv 4) pa_nil)))))))
        pss_nil)
      (pss_cons (ps_if (pt_val (pv 5))
        (pss_one (ps_ret (pe_tup (pa_cons pe_int pa_nil))))
        pss_nil)
      (pss_cons (ps_if (pt_chain op_le op_lt pe_int (pv 3) (pv 1))
        (pss_one (ps_ret (pe_tup (pa_cons pe_int (pa_cons (pv 4) pa_nil)))))
        pss_nil)
      (pss_one (ps_ret (pe_tup (pa_cons pe_int (pa_cons (pv 3) pa_nil)))))))))), ?_⟩
    -- if not _law_is_tree(count, table):
    refine ⟨_, rfl, _, rfl, _, _, _, _, rfl, (by fail "om"), (by fail "om"), (by fail "hp"), (by assumption), (by assumption), fun b1 H1 sm1 tl1 => ⟨_, rfl, ?_⟩⟩
    refine nifB (fun g2 => ?_) (fun g2 => ?_)
    · -- return (1,)
      refine ⟨(by fail "sz"), fun p3 np3 => ?_⟩
      exact k _ _ _ (.inl ⟨fun z => (by rw [tl1.mpr z] at g2; cases g2), rfl⟩) (Same.new sm1 np3) (free_back np3 sm1) upd_same
    · refine ⟨fun σ H2 => H2 = H1 ∧ ∃ v : Bool, σ = [some (.int way), some (.int (n : Int)), some (.ref t), some (.int x), some (.int y), some (.bl v)] ∧ (v = true ↔ (InR n x ∧ InR n y)), ?_, ?_⟩
      · -- inside = 0 <= one < count and 0 <= other < count
        refine ⟨_, rfl, _, _, rfl, rfl, _, rfl, ?_⟩
        refine ifD (fun g4 => ?_) (fun g4 => ?_)
        · refine ⟨_, rfl, _, _, rfl, rfl, _, rfl, ?_⟩
          refine ifD (fun g5 => ?_) (fun g5 => ?_)
          · refine ⟨_, rfl, _, _, rfl, rfl, _, rfl, ?_⟩
            refine ifD (fun g6 => ?_) (fun g6 => ?_)
            · refine ⟨_, rfl, _, _, rfl, rfl, ?_⟩
              refine ⟨rfl, _, rfl, ⟨fun z => ⟨⟨g4, g5⟩, ⟨g6, of_decide_eq_true z⟩⟩, fun z => decide_eq_true z.2.2⟩⟩
            · refine ⟨rfl, _, rfl, ⟨fun z => (nomatch z), fun z => absurd z.2.1 g6⟩⟩
          · refine ⟨rfl, _, rfl, ⟨fun z => (nomatch z), fun z => absurd z.1.2 g5⟩⟩
        · refine ⟨_, rfl, ?_⟩
          fail "ite"
          refine ⟨rfl, _, rfl, ⟨fun z => (nomatch z), fun z => absurd z.1.1 g4⟩⟩
      · rintro σ Hj ⟨rfl, v, rfl, iv⟩
        have tr := tl1.mp g2
        have nti : v = false → ¬ (InR n x ∧ InR n y) := fun e z => by rw [iv.mpr z] at e; cases e
        -- if way == 2:
        refine ⟨_, rfl, rfl, _, rfl, ?_⟩
        refine ifEqI (fun g7 => ?_) (fun g7 => ?_)
        · -- if inside and table[one * count + other] == 1:
          refine ⟨_, rfl, _, rfl, ?_⟩
          refine ifB (fun g8 => ?_) (fun g8 => ?_)
          · refine ⟨_, rfl, _, rfl, _, rfl, _, _, rfl, rfl, (by fail "mul"), _, rfl, _, _, rfl, rfl, _, _, _, _, rfl, rfl, (by fail "hp"), tab_int tb (iv.mp (by assumption)).1 (iv.mp (by assumption)).2, rfl, _, rfl, ?_⟩
            refine ifEqI (fun g9 => ?_) (fun g9 => ?_)
            · -- return (0,)
              refine ⟨(by fail "sz"), fun p10 np10 => ?_⟩
              exact k _ _ _ (.inr (.inl ⟨tr, by assumption, .inl ⟨(tie_of (iv.mp (by assumption)).1 (iv.mp (by assumption)).2).mpr (bit_one.mp (by assumption)), rfl⟩⟩)) (Same.new sm1 (by assumption)) (free_back (by assumption) sm1) upd_same
            · -- return (3, one, other)
              refine ⟨_, rfl, _, rfl, (by fail "sz"), fun p11 np11 => ?_⟩
              exact k _ _ _ (.inr (.inl ⟨tr, by assumption, .inr ⟨fun z => absurd (bit_one.mpr ((tie_of (iv.mp (by assumption)).1 (iv.mp (by assumption)).2).mp z)) (by assumption), rfl⟩⟩)) (Same.new sm1 (by assumption)) (free_back (by assumption) sm1) upd_same
          · fail "ite"
            -- return (3, one, other)
            refine ⟨_, rfl, _, rfl, (by fail "sz"), fun p12 np12 => ?_⟩
            exact k _ _ _ (.inr (.inl ⟨tr, by assumption, .inr ⟨fun z => nti (by assumption) (tie_in z), rfl⟩⟩)) (Same.new sm1 (by assumption)) (free_back (by assumption) sm1) upd_same
        · -- if inside:
          refine ⟨_, rfl, _, rfl, ?_⟩
          refine ifB (fun g13 => ?_) (fun g13 => ?_)
          · -- return (0,)
            refine ⟨(by fail "sz"), fun p14 np14 => ?_⟩
            exact k _ _ _ (.inr (.inr ⟨tr, by assumption, .inl ⟨(iv.mp (by assumption)).1, (iv.mp (by assumption)).2, rfl⟩⟩)) (Same.new sm1 (by assumption)) (free_back (by assumption) sm1) upd_same
          · -- if 0 <= one < count:
            refine ⟨_, rfl, _, _, rfl, rfl, _, rfl, ?_⟩
            refine ifD (fun g15 => ?_) (fun g15 => ?_)
            · refine ⟨_, rfl, _, _, rfl, rfl, _, rfl, ?_⟩
              refine ifD (fun g16 => ?_) (fun g16 => ?_)
              · -- return (2, other)
                refine ⟨_, rfl, (by fail "sz"), fun p17 np17 => ?_⟩
                exact k _ _ _ (.inr (.inr ⟨tr, by assumption, .inr (.inl ⟨⟨by assumption, by assumption⟩, fun z => nti (by assumption) ⟨⟨by assumption, by assumption⟩, z⟩, rfl⟩)⟩)) (Same.new sm1 (by assumption)) (free_back (by assumption) sm1) upd_same
              · -- return (2, one)
                refine ⟨_, rfl, (by fail "sz"), fun p18 np18 => ?_⟩
                exact k _ _ _ (.inr (.inr ⟨tr, by assumption, .inr (.inr ⟨fun z => absurd z.2 (by assumption), rfl⟩)⟩)) (Same.new sm1 (by assumption)) (free_back (by assumption) sm1) upd_same
            · refine ⟨_, rfl, ?_⟩
              fail "ite"
              -- return (2, one)
              refine ⟨_, rfl, (by fail "sz"), fun p19 np19 => ?_⟩
              exact k _ _ _ (.inr (.inr ⟨tr, by assumption, .inr (.inr ⟨fun z => absurd z.1 (by assumption), rfl⟩)⟩)) (Same.new sm1 (by assumption)) (free_back (by assumption) sm1) upd_same
end
end K02

end
section
set_option Elab.async false
set_option linter.all false
set_option maxRecDepth 100000
set_option maxHeartbeats 4000000
namespace K02
open PySem L2 Kit KR KX KI RM
local macro_rules | `(tactic| fail "om") => `(tactic| first | omega | (simp only [List.length_map, List.length_append, List.length_cons, List.length_nil]; omega) | (simp only [List.length_map, List.length_append, List.length_cons, List.length_nil] at *; omega) | assumption | decide | (simp only [List.length_take, List.length_drop]; omega) | (rw [every_len]; omega) | fail "no om")
local macro_rules | `(tactic| fail "nz") => `(tactic| first | decide | omega | fail "no nz")
local macro_rules | `(tactic| fail "dv") => `(tactic| exact ⟨by first | decide | omega, by first | decide | omega⟩)
local macro_rules | `(tactic| fail "mul") => `(tactic| first | exact .inr ⟨by decide, by decide⟩ | exact .inl ⟨by decide, by decide⟩ | exact mulF (by decide) (by decide) | exact .inl ⟨by omega, by omega⟩ | exact .inr ⟨by omega, by omega⟩ | fail "no mul")
local macro_rules | `(tactic| fail "sz") => `(tactic| first | assumption | exact Nat.zero_le _ | (show 1 ≤ sizeLine; decide) | (show 2 ≤ sizeLine; decide) | (show 3 ≤ sizeLine; decide) | (show 4 ≤ sizeLine; decide) | (show 5 ≤ sizeLine; decide) | exact Evl.sz_of (by omega) | (refine Evl.sz_of ?_; simp only [List.length_append, List.length_map, List.length_cons, List.length_nil]; omega) | (refine Evl.sz_of ?_; simp only [List.length_append, List.length_map, List.length_cons, List.length_nil, List.length_take, List.length_drop]; omega) | fail "no sz")
local macro_rules | `(tactic| fail "szl") => `(tactic| first | exact Evl.sz_lt (by omega) | (refine Evl.sz_lt ?_; simp only [List.length_append, List.length_map, List.length_cons, List.length_nil]; omega) | fail "no szl")
local macro_rules | `(tactic| fail "ix") => `(tactic| first | assumption | exact ix0 | exact ix1 | exact ix2 | exact at_ref (by assumption) (by omega) | exact at_int (by assumption) (by omega) | exact at_drawn (by assumption) (by assumption) | exact at_lit (by first | assumption | omega) (by fail "om") | rfl | fail "no ix")
local macro_rules | `(tactic| fail "ixn") => `(tactic| first | rfl | assumption | fail "no ixn")
local macro_rules | `(tactic| fail "nb") => `(tactic| first | assumption | exact nb_tup | exact nb_nil | exact nb_ints | exact nb_refs | exact nb_ins | exact nb_dT | exact nb_frz | fail "no nb")
local macro_rules | `(tactic| fail "ne") => `(tactic| first | assumption | exact Ne.symm (by assumption) | exact ne_of_none (by assumption) (by assumption) | exact (ne_of_none (by assumption) (by assumption)).symm | exact ne_of (by assumption) (by assumption) (by intro q; cases q) | exact ne_of (by assumption) (by assumption) (by simp) | fail "no ne")
local macro_rules | `(tactic| fail "hp") => `(tactic| first | assumption | exact upd_same | exact lit0 | exact lit1 | exact lit3 | exact lit2 | (refine' Tk.get (by assumption) ?k1; (case k1 => fail "tk")) | (with_reducible refine' upd_new ?h1 ?n1; (case n1 => assumption); (case h1 => fail "hp")) | (refine' Same.get (by assumption) ?h1; (case h1 => fail "hp")) | (refine' Kp.get (by assumption) (by fail "bx") ?h1 ?d1; (case h1 => fail "hp"); (case d1 => fail "nb")) | (with_reducible refine' upd_oth ?h1 ?n1; (case n1 => fail "ne"); (case h1 => fail "hp")) | (with_reducible refine' upd_oth ?h1 ?n1; (case h1 => fail "hp"); (case n1 => fail "ne")) | (refine' Kq.get (by assumption) (by fail "bx") ?h1 ?d1 (by fail "ne"); (case h1 => fail "hp"); (case d1 => fail "nb")) | fail "no hp")
local macro_rules | `(tactic| fail "bx") => `(tactic| first | assumption | (with_reducible refine' BoxOk.new ?h1 ?n1; (case n1 => assumption); (case h1 => fail "bx")) | (refine' BoxOk.same (by assumption) ?h1; (case h1 => fail "bx")) | (with_reducible refine' BoxOk.mut ?h1 ?h2 ?n1; (case n1 => assumption); (case h2 => assumption); (case h1 => fail "bx")) | fail "no bx")
local macro_rules | `(tactic| fail "kp") => `(tactic| first | assumption | exact Kp.refl | (with_reducible refine' Kp.at ?h1; (case h1 => fail "kp")) | (with_reducible refine' Kp.new ?h1 ?n1; (case n1 => assumption); (case h1 => fail "kp")) | (with_reducible refine' Kp.mut ?h1 ?n1; (case n1 => assumption); (case h1 => fail "kp")) | (refine' Kp.tr (by assumption) ?h1; (case h1 => fail "kp")) | (refine' Kp.tr (Kp.of (by assumption)) ?h1; (case h1 => fail "kp")) | (refine' Kq.kp (by assumption) ?h1 (by assumption); (case h1 => fail "kp")) | fail "no kp")
local macro_rules | `(tactic| fail "ite") => `(tactic| first | refine iteT ?_ | refine iteF ?_)
local macro_rules | `(tactic| fail "tt") => `(tactic| first | rfl | exact decide_eq_true (by first | rfl | omega | assumption) | exact decide_eq_true (congrArg V.int (by first | rfl | omega)) | fail "no tt")
local macro_rules | `(tactic| fail "cv") => `(tactic| first | exact .ty _ | exact .own _)
local macro_rules | `(tactic| fail "tx") => `(tactic| first | exact .base (.int _) | exact .base (.bl _) | exact .base .non | exact .base (.lst (by fail "hp")) | exact .base (.tup (by fail "hp")) | fail "no tx")
local macro_rules | `(tactic| fail "dead") => `(tactic| (exfalso; first | omega | contradiction | simp_all))
local macro_rules | `(tactic| fail "dp") => `(tactic| first | exact .tup (SqT.of (by fail "hp")) (.cons (.int _) (.cons (.int _) .nil)) | exact .lst (SqL.of (by fail "hp")) (dpPrs (by fail "pr")) | exact .lst (SqL.of (by fail "hp")) (dpInts _) | exact .lst (SqL.of (by fail "hp")) .nil | fail "no dp")
local macro_rules | `(tactic| fail "shp") => `(tactic| first | assumption | exact prD_shaped _ | exact PySem.W.ke_shaped_ints _ | rfl | fail "no shp")
local macro_rules | `(tactic| fail "pr") => `(tactic| first | assumption | exact PrT.mono (by assumption) (by fail "tk") | fail "no pr")
local macro_rules | `(tactic| fail "tk") => `(tactic| first | assumption | exact Tk.refl | (with_reducible refine' Tk.new ?h1 ?n1; (case n1 => assumption); (case h1 => fail "tk")) | (refine' Tk.tr (Kp.tk (by assumption) (by fail "bx")) ?h1; (case h1 => fail "tk")) | (refine' Tk.tr (Same.tk (by assumption)) ?h1; (case h1 => fail "tk")) | (with_reducible refine' Tk.lst ?h1 ?n1; (case n1 => fail "hp"); (case h1 => fail "tk")) | fail "no tk")
local macro_rules | `(tactic| fail "lk") => `(tactic| first | exact netF_count _ _ | exact netF_links _ _ | exact netF_no _ _ (by decide +kernel) (by decide +kernel) | fail "no lk")
local macro_rules | `(tactic| fail "kt") => `(tactic| first | exact upd_same | assumption | fail "hp")
local macro_rules | `(tactic| fail "na") => `(tactic| first | assumption | (with_reducible refine' NetAt.new ?h1 ?n1; (case n1 => assumption); (case h1 => fail "na")) | (refine' NetAt.same (by assumption) ?h1; (case h1 => fail "na")) | (refine' NetAt.kp (by assumption) (by fail "bx") ?h1; (case h1 => fail "na")) | (with_reducible refine' NetAt.lst ?h1 ?n1; (case n1 => fail "hp"); (case h1 => fail "na")) | fail "no na")
local macro_rules | `(tactic| fail "mono") => `(tactic| first | exact fun _ _ _ _ h q => h _ _ q | exact fun _ _ _ _ h q => (let ⟨v, e, z⟩ := q; ⟨v, e, h _ _ z⟩) | exact fun _ _ _ _ h q => (let ⟨v, e, u, f, z⟩ := q; ⟨v, e, u, f, h _ _ z⟩) | fail "no mono")
local macro_rules | `(tactic| fail "sm") => `(tactic| first | assumption | exact Same.refl _ | (with_reducible refine' Same.new ?h1 ?n1; (case n1 => assumption); (case h1 => fail "sm")) | (refine' Same.tr (by assumption) ?h1; (case h1 => fail "sm")) | fail "no sm")
local macro_rules | `(tactic| fail "fld") => `(tactic| first | (show 0 < 1000; decide) | (show 1 < 1000; decide) | fail "no fld")
local macro_rules | `(tactic| fail "kq") => `(tactic| first | assumption | exact Kq.refl | (with_reducible refine' Kq.at ?h1; (case h1 => fail "kq")) | (with_reducible refine' Kq.new ?h1 ?n1; (case n1 => assumption); (case h1 => fail "kq")) | (refine' Kq.trans ?h1 (by assumption); (case h1 => fail "kq")) | (refine' Kq.trans ?h1 (Kq.of (by assumption)); (case h1 => fail "kq")) | (refine' Kq.trans ?h1 (Kq.ofS (by assumption)); (case h1 => fail "kq")) | fail "no kq")
local macro_rules | `(tactic| fail "mo") => `(tactic| first | assumption | exact MemOk.take (by assumption) _ | exact MemOk.drop (by assumption) _ | exact every_ok _ | fail "no mo")

section
variable {P : Program} {w : World} {K : PySem.W.Frag} {mg : Str → Option Value} {base : Heap} {CN CI CU CL CT CS Pt : Addr} {mc mu : Value}










theorem _root_.KI.Kq.net {C b P c a : Addr} {H H' : Hp} {n : Nat} {R : Rel} (k : Kq b P H H') (x : BoxOk H b c) (t : GxR.TabG H P) (na : NetAt C H a n R) : NetAt C H' a n R := by
  obtain ⟨⟨dx, d, h1, h2⟩, b1, b2, ir⟩ := na
  exact ⟨⟨dx, d, k.get x h1 nb_ins (tabG_ne t h1 fun _ z => nomatch z), k.get x h2 nb_dT (tabG_ne t h2 fun _ z => nomatch z)⟩, b1, b2, ir⟩
theorem _root_.KI.Kq.ints {b P c a : Addr} {H H' : Hp} {ns : List Int} (k : Kq b P H H') (x : BoxOk H b c) (t : GxR.TabG H P) (h : H a = some (.lst (ns.map V.int))) : H' a = some (.lst (ns.map V.int)) := k.get x h nb_ints (tabG_ne t h fun _ z => nomatch z)
theorem _root_.KI.Kq.refs {b P c a : Addr} {H H' : Hp} {as : List Addr} (k : Kq b P H H') (x : BoxOk H b c) (t : GxR.TabG H P) (h : H a = some (.lst (as.map V.ref))) : H' a = some (.lst (as.map V.ref)) := k.get x h nb_refs (tabG_ne t h fun _ z => nomatch z)
theorem _root_.KI.Kq.tk {b P c : Addr} {H H' : Hp} (k : Kq b P H H') (x : BoxOk H b c) (t : GxR.TabG H P) : Tk H H' := fun a xs h => k.get x h nb_tup (tabG_ne t h fun _ z => nomatch z)
theorem _root_.KI.Kq.of1 {b P : Addr} {H H' : Hp} (s : Sp1 P H H') : Kq b P H H' := fun a o _ m h => s a o m h
theorem tabG_kp {P b c : Addr} {H H' : Hp} (t : GxR.TabG H P) (k : Kp b H H') (x : BoxOk H b c) : GxR.TabG H' P := by
  have ne : b ≠ P := by
    obtain ⟨ms, x1, x2, x3, x4, hb, _⟩ := x
    exact tabG_ne t hb fun _ z => nomatch z
  obtain ⟨ps, h, q⟩ := t
  exact ⟨ps, k P _ ne.symm h, q⟩
/-- all but the table stays -/
structure Rn (P : Addr) (H H1 : Hp) : Prop where
  s : Sp1 P H H1
  t0 : GxR.TabG H P
  t : GxR.TabG H1 P
theorem tabG_at {P p : Addr} {H : Hp} {o : HO} (t : GxR.TabG H P) (n : p ≠ P) : GxR.TabG (upd H p o) P := by
  obtain ⟨ps, h, q⟩ := t
  exact ⟨ps, by rw [upd_ne n.symm]; exact h, q⟩
theorem tabG_free {P p : Addr} {H : Hp} (t : GxR.TabG H P) (n : H p = none) : p ≠ P := fun z => by
  obtain ⟨ps, h, _⟩ := t
  rw [z, h] at n
  cases n
section
variable {P p : Addr} {H H1 H2 : Hp} {o : HO}
theorem Rn.mk0 (t : GxR.TabG H P) : Rn P H H := ⟨Sp1.refl, t, t⟩
theorem Rn.go (x : Rn P H H1) (s : Sp1 P H1 H2) (t : GxR.TabG H2 P) : Rn P H H2 := ⟨x.s.trans s, x.t0, t⟩
theorem Rn.same (x : Rn P H H1) (s : Same H1 H2) : Rn P H H2 := ⟨x.s.trans (Sp1.of s), x.t0, tabG_same s x.t⟩
theorem Rn.new (x : Rn P H H1) (n : H1 p = none) : Rn P H (upd H1 p o) := x.same (Same.new (Same.refl _) n)
theorem Rn.mut (x : Rn P H H1) (n : H p = none) : Rn P H (upd H1 p o) := ⟨fun a u m h => by rw [upd_ne (ne_of_none h n)]; exact x.s a u m h, x.t0, tabG_at x.t (tabG_free x.t0 n)⟩
theorem Rn.free (x : Rn P H H1) (n : H1 p = none) : H p = none := sp1_free x.s x.t n
theorem Rn.lst {a : Addr} {xs : List V} (x : Rn P H H1) (h : H a = some (.lst xs)) : H1 a = some (.lst xs) := x.s _ _ (tabG_ne x.t0 h fun _ z => nomatch z) h
theorem Rn.tup {a : Addr} {xs : List V} (x : Rn P H H1) (h : H a = some (.tup xs)) : H1 a = some (.tup xs) := x.s _ _ (tabG_ne x.t0 h fun _ z => nomatch z) h
theorem Rn.net {C a : Addr} {n : Nat} {R : Rel} (x : Rn P H H1) (h : NetAt C H a n R) : NetAt C H1 a n R := Sp1.net x.s x.t0 h
theorem Rn.box {b c : Addr} (x : Rn P H H1) (h : BoxOk H b c) : BoxOk H1 b c := Sp1.box x.s x.t0 h
end
theorem least_ix {m : Int} : ∀ {ns : List Int}, m ∈ ns → ∃ j : Nat, ns[j]? = some m ∧ ∀ (i : Nat) (z : Int), i < j → ns[i]? = some z → z ≠ m
  | n :: ns, h => by
    by_cases e : n = m
    · exact ⟨0, by rw [e]; rfl, fun i z l => absurd l (Nat.not_lt_zero i)⟩
    · have h2 : m ∈ ns := (List.mem_cons.mp h).resolve_left fun q => e q.symm
      obtain ⟨j, e1, e2⟩ := least_ix h2
      refine ⟨j + 1, e1, fun i z l q => ?_⟩
      cases i with
      | zero =>
        obtain rfl : n = z := Option.some.inj q
        exact e
      | succ i => exact e2 i z (by omega) q
theorem flat_ints (ns : List Int) : (ns.map V.int).all flatV = true := List.all_eq_true.mpr fun v hv => by
  obtain ⟨z, _, rfl⟩ := List.mem_map.mp hv
  rfl
theorem tree_few {n : Nat} {R : Rel} (tr : Tree n R) (ir : ∀ x y, x < n → y < n → R x y = true → x ≠ y) : TM.Few n R := ⟨tr.2.1, ir, Nat.le_of_eq tr.1⟩
theorem tree_span {n r : Nat} {R : Rel} {D : Nat → Bool} {p d : Nat → Nat} (tr : Tree n R) (h : r < n) (g : TM.Grow n R r D p d) (rc : ∀ x, x < n → D x = rchB n R [(r : Int)] (every n) x) : (∀ x, x < n → D x = true) ∧ TM.Span n R r p d := by
  have all : ∀ x, x < n → D x = true := fun x hx => by rw [rc x hx]; exact rchB_iff.mpr (tr.2.2 r x h hx)
  exact ⟨all, g.span all⟩
def spPathsAre (CN Pt : Addr) : Sp := fun vs H Q _ => ∃ (b bc a t : Addr) (n : Nat) (M : List Int) (R : Rel), vs = [.ref b, .ref a, .int (n : Int), .ref t] ∧ BoxOk H b bc ∧ NetAt CN H a n R ∧ H t = some (.lst (M.map V.int)) ∧ IsTab n M R ∧ GxR.TabG H Pt ∧ Tree n R ∧
  ∀ H', Kq b Pt H H' → BoxOk H' b bc → GxR.TabG H' Pt → Q (.bl true) H'
theorem at_map {ns : List Int} {j : Nat} {m : Int} (h : ns[j]? = some m) : (ns.map V.int)[j]? = some (V.int m) := by rw [List.getElem?_map, h]; rfl
theorem ne_eqV {x y : Int} (h : x ≠ y) : eqV (V.int x) (V.int y) = false := by
  show (x == y) = false
  exact beq_eq_false_iff_ne.mpr h
abbrev sPathsAre : Stmt := top 44
theorem scPathsAre : FnScope ["box", "net", "count", "table", "asks", "x", "y", "far", "k", "ask", "due", "told", "again", "steps"] ["box", "net", "count", "table"] (defScope sPathsAre) := ⟨rfl, rfl, rfl, by decide +kernel, rfl, by decide +kernel, by decide +kernel⟩
theorem ok_PathsAre (D : Df K mg "_law_paths_are" sPathsAre ["box", "net", "count", "table"]) (T : LTx K mg CN CI CU CT CL CS mc mu) (GDraw : C8.Cal P w K mg base 1 "_law_draw" spDraw []) (GFar : C8.Cal P w K mg base 1 "_law_far" spFar []) (GPathIs : C8.Cal P w K mg base 2 "_law_path_is" spPathIs []) (GIsInt : C8.Cal P w K mg base 1 "_law_is_int" spIsInt []) (GTreePath : CalX P w K mg base 13 "tree_path" (spTreePath CN CU CT Pt)) (GTreeDist : CalX P w K mg base 14 "tree_distance" (spTreeDist CN CU CT Pt)) : C8.Cal P w K mg base 15 "_law_paths_are" (spPathsAre CN Pt) [] := by
  obtain ⟨f, fd, F, hm, hb⟩ := D
  refine ⟨f, fd, ["box", "net", "count", "table"], [], F.ok scPathsAre (fun vs H Q E h => ?_) (fun cdv A outer s H vs Q E hr h => ?_), hm, F.kp, hb, .nil⟩
  · obtain ⟨b, bc, a, t, n, M, R, rfl, bx, na, ht, tb, tg, tr, k⟩ := h
    rfl
  · obtain ⟨b, bc, a, t, n, M, R, rfl, bx, na, ht, tb, tg, tr, k⟩ := h
    have n1 := na.b1
    have n2 := na.b2
    have fw := tree_few tr na.ir
    have tw := tr.2.1
    refine ⟨_, (pss_cons (ps_set (i := 4) scPathsAre.nd rfl (Or.inl rfl) (pe_lst pa_nil))
      (C8.pss_cut (ps_if (pt_cmpR op_le (pv 2) pe_int (nomark _))
        (pss_one (ps_for PassesOwn.never rfl (pi_range1 rfl T.range (pa_cons (pv 2) pa_nil)) (pg_name (i := 5) scPathsAre.nd rfl (Or.inl rfl))
          (pss_one (ps_for PassesOwn.never rfl (pi_range1 rfl T.range (pa_cons (pv 2) pa_nil)) (pg_name (i := 6) scPathsAre.nd rfl (Or.inl rfl))
            (pss_one (ps_expr (pe_bm PySem.F.plainAttrs_list PySem.F.slot_list_append PySem.F.type_list_append mt_append (pv 4) (pa_cons (pe_tup (pa_cons (pv 5) (pa_cons (pv 6) pa_nil))) pa_nil))))))))
        (pss_cons (ps_set (i := 5) scPathsAre.nd rfl (Or.inl rfl) (C8.pe_c GDraw hr (by decide) (by rfl) (pa_cons (pv 0) (pa_cons (pv 2) pa_nil))))
        (pss_cons (ps_set (i := 7) scPathsAre.nd rfl (Or.inl rfl) (C8.pe_c GFar hr (by decide) (by rfl) (pa_cons (pv 2) (pa_cons (pv 3) (pa_cons (pv 5) pa_nil)))))
        (pss_cons (ps_expr (pe_bm PySem.F.plainAttrs_list PySem.F.slot_list_append PySem.F.type_list_append mt_append (pv 4) (pa_cons (pe_tup (pa_cons (pv 5) (pa_cons (pe_bm PySem.F.plainAttrs_list PySem.F.slot_list_index PySem.F.type_list_index mt_index (pv 7) (pa_cons (pe_callB (cr_max rfl) (by rfl) T.max (by decide +kernel) (pa_cons (pv 7) pa_nil)) pa_nil)) pa_nil))) pa_nil)))
        (pss_one (ps_for PassesOwn.never rfl (pi_range1 rfl T.range (pa_cons pe_int pa_nil)) (pg_name (i := 8) scPathsAre.nd rfl (Or.inl rfl))
          (pss_cons (ps_set (i := 5) scPathsAre.nd rfl (Or.inl rfl) (C8.pe_c GDraw hr (by decide) (by rfl) (pa_cons (pv 0) (pa_cons (pv 2) pa_nil))))
          (pss_one (ps_expr (pe_bm PySem.F.plainAttrs_list PySem.F.slot_list_append PySem.F.type_list_append mt_append (pv 4) (pa_cons (pe_tup (pa_cons (pv 5) (pa_cons (C8.pe_c GDraw hr (by decide) (by rfl) (pa_cons (pv 0) (pa_cons (pv 2) pa_nil))) pa_nil))) pa_nil)))))))))))
      (pss_cons (ps_for PassesOwn.never rfl (pi_list (pv 4)) (pg_name (i := 9) scPathsAre.nd rfl (Or.inl rfl))
        (pss_cons (ps_set (i := 10) scPathsAre.nd rfl (Or.inl rfl) (pe_ix ix_I (C8.pe_c GFar hr (by decide) (by rfl) (pa_cons (pv 2) (pa_cons (pv 3) (pa_cons (pe_ix ix_tup (pv 9) pe_int (fun _ _ => rfl)) pa_nil)))) (pe_ix ix_tup (pv 9) pe_int (fun _ _ => rfl)) (fun _ _ => rfl)))
        (pss_cons (ps_set (i := 11) scPathsAre.nd rfl (Or.inl rfl) (pe_cX GTreePath hr (by decide) (by rfl) passN (pa_cons (pv 1) (pa_cons (pe_ix ix_tup (pv 9) pe_int (fun _ _ => rfl)) (pa_cons (pe_ix ix_tup (pv 9) pe_int (fun _ _ => rfl)) pa_nil)))))
        (pss_cons (ps_if (PW.pt (pw_or (pt_not (pt_val (C8.pe_c GPathIs hr (by decide) (by rfl) (pa_cons (pv 11) (pa_cons (pv 2) (pa_cons (pv 3) (pa_cons (pe_ix ix_tup (pv 9) pe_int (fun _ _ => rfl)) (pa_cons (pe_ix ix_tup (pv 9) pe_int (fun _ _ => rfl)) pa_nil)))))))) (pw_or1 (pt_cmpR op_ne (pe_callB call_len_seq (by rfl) T.len (by decide +kernel) (pa_cons (pv 11) pa_nil)) (pe_op op_add (pv 10) pe_int) (nomark _)))))
          (pss_one (ps_ret pe_bl))
          pss_nil)
        (pss_cons (ps_expr (pe_bm0 PySem.F.plainAttrs_list PySem.F.slot_list_reverse PySem.F.type_list_reverse mt_reverse (pv 11)))
        (pss_cons (ps_expr (pe_bm PySem.F.plainAttrs_list PySem.F.slot_list_append PySem.F.type_list_append mt_append (pv 11) (pa_cons (pe_un un_neg pe_int) pa_nil)))
        (pss_cons (ps_set (i := 12) scPathsAre.nd rfl (Or.inl rfl) (pe_cX GTreePath hr (by decide) (by rfl) passN (pa_cons (pv 1) (pa_cons (pe_ix ix_tup (pv 9) pe_int (fun _ _ => rfl)) (pa_cons (pe_ix ix_tup (pv 9) pe_int (fun _ _ => rfl)) pa_nil)))))
        (pss_cons (ps_if (pt_not (pt_val (C8.pe_c GPathIs hr (by decide) (by rfl) (pa_cons (pv 12) (pa_cons (pv 2) (pa_cons (pv 3) (pa_cons (pe_ix ix_tup (pv 9) pe_int (fun _ _ => rfl)) (pa_cons (pe_ix ix_tup (pv 9) pe_int (fun _ _ => rfl)) pa_nil))))))))
          (pss_one (ps_ret pe_bl))
          pss_nil)
        (pss_cons (ps_set (i := 13) scPathsAre.nd rfl (Or.inl rfl) (pe_cX GTreeDist hr (by decide) (by rfl) passN (pa_cons (pv 1) (pa_cons (pe_ix ix_tup (pv 9) pe_int (fun _ _ => rfl)) (pa_cons (pe_ix ix_tup (pv 9) pe_int (fun _ _ => rfl)) pa_nil)))))
        (pss_one (ps_if (PW.pt (pw_or (pt_not (pt_val (C8.pe_c GIsInt hr (by decide) (by rfl) (pa_cons (pv 13) pa_nil)))) (pw_or1 (pt_cmpR op_ne (pv 13) (pv 10) (nomark _)))))
          (pss_one (ps_ret pe_bl))
          pss_nil)))))))))))
      (pss_one (ps_ret pe_bl))))), ?_⟩
    -- asks = []
    refine ⟨(by fail "sz"), fun p1 np1 => ?_⟩
    refine ⟨fun σ Hk => ∃ (as : List Addr) (ps : List (Int × Int)) (v5 v6 v7 v8 : Option V), σ = [some (.ref b), some (.ref a), some (.int (n : Int)), some (.ref t), some (.ref p1), v5, v6, v7, v8, none, none, none, none, none] ∧ Kp b H Hk ∧ BoxOk Hk b bc ∧ Hk p1 = some (.lst (as.map V.ref)) ∧ PrT Hk as ps ∧ (∀ q ∈ ps, InR n q.1 ∧ InR n q.2) ∧ as.length ≤ 30, ?_, ?_⟩
    · -- if count <= 4:
      refine ⟨_, rfl, _, _, rfl, rfl, _, rfl, ?_⟩
      refine ifD (fun g2 => ?_) (fun g2 => ?_)
      · -- for x in range(count):
        refine ⟨_, rfl, _, rfl, (by fail "om"), (by fail "om"), for_range (fun i σ Hk => ∃ (as : List Addr) (ps : List (Int × Int)) (v5 v6 : Option V), σ = [some (.ref b), some (.ref a), some (.int (n : Int)), some (.ref t), some (.ref p1), v5, v6, none, none, none, none, none, none, none] ∧ Kp b H Hk ∧ BoxOk Hk b bc ∧ Hk p1 = some (.lst (as.map V.ref)) ∧ PrT Hk as ps ∧ (∀ q ∈ ps, InR n q.1 ∧ InR n q.2) ∧ as.length ≤ 4 * i) ⟨[], [], none, none, rfl, Kp.new Kp.refl np1, BoxOk.new bx np1, upd_same, PrT.nil, fun q hq => absurd hq List.not_mem_nil, Nat.zero_le _⟩ ?_ ?_⟩
        · rintro i σ Hi hi ⟨as, ps, v5, v6, rfl, kpi, bxi, hpi, pti, inr, li⟩
          -- for y in range(count):
          refine ⟨_, rfl, _, rfl, (by fail "om"), (by fail "om"), for_range (fun j σ Hk => ∃ (cs : List Addr) (qs : List (Int × Int)) (v6 : Option V), σ = [some (.ref b), some (.ref a), some (.int (n : Int)), some (.ref t), some (.ref p1), some (.int (0 + (i : Int))), v6, none, none, none, none, none, none, none] ∧ Kp b H Hk ∧ BoxOk Hk b bc ∧ Hk p1 = some (.lst (cs.map V.ref)) ∧ PrT Hk cs qs ∧ (∀ q ∈ qs, InR n q.1 ∧ InR n q.2) ∧ cs.length ≤ 4 * i + j) ⟨as, ps, v6, rfl, kpi, bxi, hpi, pti, inr, li⟩ ?_ ?_⟩
          · rintro j σ Hj hj ⟨cs, qs, v6, rfl, kpj, bxj, hpj, ptj, inj, lj⟩
            -- asks.append((x, y))
            refine ⟨_, rfl, .inl ⟨rfl, _, SqL.of (by fail "hp")⟩, _, rfl, _, rfl, (by fail "sz"), fun p3 np3 => ⟨_, _, _, rfl, rfl, (by fail "hp"), (by fail "szl"), ?_⟩⟩
            refine ⟨cs ++ [p3], qs ++ [((0 : Int) + (i : Int), (0 : Int) + (j : Int))], _, rfl, Kp.mut (Kp.new kpj np3) np1, BoxOk.mut (BoxOk.new bxj np3) bx np1, by rw [upd_same, snocR], ?_, fun q hq => (List.mem_append.mp hq).elim (inj q) fun z => by rw [List.mem_singleton.mp z]; exact ⟨⟨by omega, by omega⟩, ⟨by omega, by omega⟩⟩, by rw [List.length_append]; show _ + 1 ≤ _; omega⟩
            exact PrT.snoc (PrT.mono ptj (Tk.lst (Tk.new Tk.refl np3) (upd_new hpj np3))) (by rw [upd_ne (ne_of_none hpj np3).symm]; exact upd_same)
          · rintro σ Hj ⟨cs, qs, v6, rfl, kpj, bxj, hpj, ptj, inj, lj⟩
            exact ⟨cs, qs, _, _, rfl, kpj, bxj, hpj, ptj, inj, by omega⟩
        · rintro σ Hi ⟨as, ps, v5, v6, rfl, kpi, bxi, hpi, pti, inr, li⟩
          exact ⟨as, ps, _, _, _, _, rfl, kpi, bxi, hpi, pti, inr, by omega⟩
      · -- x = _law_draw(box, count)
        refine ⟨_, rfl, _, rfl, _, _, _, rfl, (by fail "bx"), (by fail "om"), (by fail "om"), fun d4 H4 da4 db4 kp4 bx4 => ?_⟩
        obtain ⟨x4, e4, hx4⟩ := toN (n := n) da4 db4
        subst e4
        have ht4 := kp4.get (BoxOk.new (o := .lst []) bx np1) (upd_new ht np1) nb_ints
        -- far = _law_far(count, table, x)
        refine ⟨_, rfl, _, rfl, _, rfl, _, _, x4, _, _, rfl, (by fail "om"), (by fail "om"), (by fail "hp"), (by assumption), fun q5 D5 pp5 dd5 H5 gr5 rc5 nq5 sm5 hq5 => ?_⟩
        have kpA : Kp b H H5 := ((Kp.new Kp.refl np1).trans kp4).trans (Kp.of sm5)
        have bxA : BoxOk H5 b bc := BoxOk.same sm5 bx4
        have hp15 : H5 p1 = some (.lst (([] : List Addr).map V.ref)) := sm5 _ _ (kp4.get (BoxOk.new bx np1) upd_same nb_refs)
        -- asks.append((x, far.index(max(far))))
        refine ⟨_, rfl, .inl ⟨rfl, _, SqL.of (by fail "hp")⟩, _, rfl, _, rfl, .inl ⟨rfl, _, SqL.of (by fail "hp")⟩, _, rfl, _, _, rfl, SqL.of (by fail "hp"), (by rw [fl_len]; omega), fun m7 mm7 ml7 => ?_⟩
        obtain ⟨j7, e7, l7⟩ := least_ix mm7
        have j7n : j7 < n := by have := (List.getElem?_eq_some_iff.mp e7).1; rw [fl_len] at this; exact this
        refine ⟨_, _, _, j7, _, rfl, rfl, SqL.of (by fail "hp"), rfl, (flat_ints _), (at_map e7), (show (m7 == m7) = true from beq_self_eq_true m7), (fun m z lt e => (by obtain ⟨w, ew, rfl⟩ := item_of e; exact ne_eqV (l7 m w lt ew))), (by fail "sz"), fun p6 np6 => ⟨_, _, _, rfl, rfl, (by fail "hp"), (by fail "szl"), ?_⟩⟩
        -- for k in range(6):
        refine ⟨_, rfl, (by fail "om"), (by fail "om"), for_range (fun i σ Hk => ∃ (as : List Addr) (ps : List (Int × Int)) (v5 v8 : Option V), σ = [some (.ref b), some (.ref a), some (.int (n : Int)), some (.ref t), some (.ref p1), v5, none, some (.ref q5), v8, none, none, none, none, none] ∧ Kp b H Hk ∧ BoxOk Hk b bc ∧ Hk p1 = some (.lst (as.map V.ref)) ∧ PrT Hk as ps ∧ (∀ q ∈ ps, InR n q.1 ∧ InR n q.2) ∧ as.length ≤ 1 + i) ⟨[p6], [((x4 : Int), (j7 : Int))], _, _, rfl, Kp.mut (Kp.new kpA np6) np1, BoxOk.mut (BoxOk.new bxA np6) bx np1, upd_same, PrT.one (by rw [upd_ne (ne_of_none hp15 np6).symm]; exact upd_same), fun q hq => by rw [List.mem_singleton.mp hq]; exact ⟨⟨by omega, by omega⟩, ⟨by omega, by omega⟩⟩, by simp⟩ ?_ ?_⟩
        · rintro i σ Hi hi ⟨as, ps, v5, v8, rfl, kpi, bxi, hpi, pti, inr, li⟩
          -- x = _law_draw(box, count)
          refine ⟨_, rfl, _, rfl, _, _, _, rfl, (by fail "bx"), (by fail "om"), (by fail "om"), fun d8 H8 da8 db8 kp8 bx8 => ?_⟩
          -- asks.append((x, _law_draw(box, count)))
          refine ⟨_, rfl, .inl ⟨rfl, _, SqL.of (by fail "hp")⟩, _, rfl, _, rfl, _, rfl, _, _, _, rfl, (by fail "bx"), (by fail "om"), (by fail "om"), fun d10 H10 da10 db10 kp10 bx10 => ⟨(by fail "sz"), fun p9 np9 => ⟨_, _, _, rfl, rfl, (by fail "hp"), (by fail "szl"), ?_⟩⟩⟩
          have hpk := kp10.get bx8 (kp8.get bxi hpi nb_refs) nb_refs
          refine ⟨as ++ [p9], ps ++ [(d8, d10)], _, _, rfl, Kp.mut (Kp.new ((kpi.trans kp8).trans kp10) np9) np1, BoxOk.mut (BoxOk.new bx10 np9) bx np1, by rw [upd_same, snocR], ?_, fun q hq => (List.mem_append.mp hq).elim (inr q) fun z => by rw [List.mem_singleton.mp z]; exact ⟨⟨by omega, by omega⟩, ⟨by omega, by omega⟩⟩, by rw [List.length_append]; show _ + 1 ≤ _; omega⟩
          exact PrT.snoc (PrT.mono pti (Tk.lst (Tk.new (Tk.tr (Kp.tk kp10 bx8) (Kp.tk kp8 bxi)) np9) (upd_new hpk np9))) (by rw [upd_ne (ne_of_none hpk np9).symm]; exact upd_same)
        · rintro σ Hi ⟨as, ps, v5, v8, rfl, kpi, bxi, hpi, pti, inr, li⟩
          exact ⟨as, ps, _, _, _, _, rfl, kpi, bxi, hpi, pti, inr, by omega⟩
    · rintro σ Hm ⟨as, ps, v5, v6, v7, v8, rfl, kpm, bxm, hpm, ptm, inm, lm⟩
      have tgm := tabG_kp tg kpm bx
      have nam := NetAt.kp kpm bx na
      have htm := kpm.get bx ht nb_ints
      -- for ask in asks:
      refine ⟨_, rfl, _, rfl, ⟨_, SqL.of (by fail "hp")⟩, for_list (K := K) (a := p1) (xs := as.map V.ref) (fun i σ Hk => ∃ (u9 u10 u11 u12 u13 : Option V), σ = [some (.ref b), some (.ref a), some (.int (n : Int)), some (.ref t), some (.ref p1), v5, v6, v7, v8, u9, u10, u11, u12, u13] ∧ Kq b Pt Hm Hk ∧ BoxOk Hk b bc ∧ GxR.TabG Hk Pt) ⟨_, _, _, _, _, rfl, Kq.refl, bxm, tgm⟩ (fun i σ Hk _ z => by obtain ⟨_, _, _, _, _, _, kq, _⟩ := z; exact SqL.of (kq.refs bxm tgm hpm)) ?_ ?_⟩
      · rintro i x0 σ Hk hx0 ⟨u9, u10, u11, u12, u13, rfl, kqk, bxk, tgk⟩
        obtain ⟨a1, x1, y1, rfl, ea, ep, hta0⟩ := ptm.item hx0
        have hta := kqk.tk bxm tgm _ _ hta0
        have hgx := inm _ (List.mem_of_getElem? ep)
        obtain ⟨x, ex, hx⟩ := toN (n := n) (x := x1) hgx.1.1 hgx.1.2
        obtain ⟨y, ey, hy⟩ := toN (n := n) (x := y1) hgx.2.1 hgx.2.2
        subst ex
        subst ey
        have nak := kqk.net bxm tgm nam
        have htk := kqk.ints bxm tgm htm
        -- due = _law_far(count, table, ask[0])[ask[1]]
        refine ⟨_, rfl, _, rfl, _, rfl, _, _, _, _, rfl, rfl, SqT.of (by fail "hp"), (by fail "ix"), _, _, x, _, _, rfl, (by fail "om"), (by fail "om"), (by fail "hp"), (by assumption), fun q11 D11 pp11 dd11 H11 gr11 rc11 nq11 sm11 hq11 => ⟨_, rfl, _, _, _, _, rfl, rfl, SqT.of (by fail "hp"), (by fail "ix"), _, _, _, _, rfl, rfl, (by fail "hp"), fl_ix D11 dd11 hy, ?_⟩⟩
        have r11 : Rn Pt Hk H11 := (Rn.mk0 tgk).same sm11
        obtain ⟨all, spx⟩ := tree_span tr hx gr11 rc11
        have na11 := r11.net nak
        have tg11 := r11.t
        have hta11 := r11.tup hta
        -- told = tree_path(net, ask[0], ask[1])
        refine ⟨_, rfl, _, rfl, _, _, _, _, rfl, rfl, SqT.of (by fail "hp"), (by fail "ix"), _, rfl, _, _, _, _, rfl, rfl, SqT.of (by fail "hp"), (by fail "ix"), _, _, _, _, _, rfl, (by fail "na"), (by assumption), (fun _ fi12 la12 ex12 ey12 hfi12 hla12 p12 pf12 df12 H12 spn12 sp12 tp12 np12 hp12 => ?_), fun z => absurd tr z, fun _ z => absurd ⟨by omega, by omega⟩ z, fun _ _ z => absurd ⟨by omega, by omega⟩ z⟩
        have r12 : Rn Pt Hk H12 := r11.go sp12 tp12
        obtain rfl : x = fi12 := by omega
        obtain rfl : y = la12 := by omega
        have hta12 := r12.tup hta
        have ht12 := r12.lst htk
        have bk12 : dd11 y = df12 x := spx.back spn12 fw
        have pl12 := pth_len pf12 x (df12 x)
        have dn12 := span_lt spn12 hx
        have fy := fv_yes (d := dd11) (all y hy)
        -- if not _law_path_is(told, count, table, ask[0], ask[1]) or len(told) != due + 1:
        refine ⟨_, rfl, _, rfl, _, rfl, _, rfl, _, _, _, _, rfl, rfl, SqT.of (by fail "hp"), (by fail "ix"), _, rfl, _, _, _, _, rfl, rfl, SqT.of (by fail "hp"), (by fail "ix"), _, _, _, _, _, _, _, _, _, rfl, (by fail "om"), (by assumption), (by fail "hp"), (by fail "hp"), (by assumption), (by assumption), (by assumption), fun H13 sm13 => ⟨_, rfl, ?_⟩⟩
        fail "ite"
        refine ⟨_, rfl, _, _, rfl, .inl (SqL.of (by fail "hp")), _, rfl, _, _, rfl, rfl, rfl, _, rfl, ?_⟩
        refine ifNeI (fun g14 => ?_) (fun g14 => ?_)
        · -- return False
          rw [List.length_map] at g14
          exact absurd (by omega) g14
        · -- told.reverse()
          refine ⟨_, rfl, .inl ⟨rfl, _, SqL.of (by fail "hp")⟩, _, _, rfl, rfl, (by fail "hp"), ?_⟩
          -- told.append(-1)
          refine ⟨_, rfl, .inl ⟨rfl, _, SqL.of (by fail "hp")⟩, _, rfl, _, _, _, rfl, rfl, (by fail "hp"), Evl.sz_lt (by rw [List.length_reverse, List.length_map]; omega), ?_⟩
          have nP : Hk p12 = none := r11.free np12
          have rA := ((r12.same sm13).mut (o := .lst ((pth pf12 x (df12 x)).map V.int).reverse) nP).mut (o := .lst (((pth pf12 x (df12 x)).map V.int).reverse ++ [V.int (-1)])) nP
          have naA := rA.net nak
          have tgA := rA.t
          have htaA := rA.tup hta
          -- again = tree_path(net, ask[0], ask[1])
          refine ⟨_, rfl, _, rfl, _, _, _, _, rfl, rfl, SqT.of (by fail "hp"), (by fail "ix"), _, rfl, _, _, _, _, rfl, rfl, SqT.of (by fail "hp"), (by fail "ix"), _, _, _, _, _, rfl, (by fail "na"), (by assumption), (fun _ fi15 la15 ex15 ey15 hfi15 hla15 p15 pf15 df15 H15 spn15 sp15 tp15 np15 hp15 => ?_), fun z => absurd tr z, fun _ z => absurd ⟨by omega, by omega⟩ z, fun _ _ z => absurd ⟨by omega, by omega⟩ z⟩
          have r15 : Rn Pt Hk H15 := rA.go sp15 tp15
          obtain rfl : x = fi15 := by omega
          obtain rfl : y = la15 := by omega
          have hta15 := r15.tup hta
          have ht15 := r15.lst htk
          have pl15 := pth_len pf15 x (df15 x)
          have dn15 := span_lt spn15 hx
          -- if not _law_path_is(again, count, table, ask[0], ask[1]):
          refine ⟨_, rfl, _, rfl, _, rfl, _, rfl, _, _, _, _, rfl, rfl, SqT.of (by fail "hp"), (by fail "ix"), _, rfl, _, _, _, _, rfl, rfl, SqT.of (by fail "hp"), (by fail "ix"), _, _, _, _, _, _, _, _, _, rfl, (by fail "om"), (by assumption), (by fail "hp"), (by fail "hp"), (by assumption), (by assumption), (by assumption), fun H16 sm16 => ⟨_, rfl, ?_⟩⟩
          fail "ite"
          have r16 := r15.same sm16
          have na16 := r16.net nak
          have tg16 := r16.t
          have hta16 := r16.tup hta
          -- steps = tree_distance(net, ask[0], ask[1])
          refine ⟨_, rfl, _, rfl, _, _, _, _, rfl, rfl, SqT.of (by fail "hp"), (by fail "ix"), _, rfl, _, _, _, _, rfl, rfl, SqT.of (by fail "hp"), (by fail "ix"), _, _, _, _, _, rfl, (by fail "na"), (by assumption), (fun _ fi17 la17 ex17 ey17 hfi17 hla17 pf17 df17 H17 spn17 sp17 tp17 => ?_), fun z => absurd tr z, fun _ z => absurd ⟨by omega, by omega⟩ z, fun _ _ z => absurd ⟨by omega, by omega⟩ z⟩
          have r17 := r16.go sp17 tp17
          obtain rfl : x = fi17 := by omega
          obtain rfl : y = la17 := by omega
          have bk17 : dd11 y = df17 x := spx.back spn17 fw
          -- if not _law_is_int(steps) or steps != due:
          refine ⟨_, rfl, _, rfl, ⟨_, rfl, ?_⟩⟩
          fail "ite"
          refine ⟨_, rfl, _, rfl, rfl, _, rfl, ?_⟩
          refine ifNeI (fun g19 => ?_) (fun g19 => ?_)
          · -- return False
            exact absurd (by omega) g19
          · exact ⟨_, _, _, _, _, rfl, kqk.trans (Kq.of1 r17.s), r17.box bxk, r17.t⟩
      · rintro σ Hk ⟨u9, u10, u11, u12, u13, rfl, kqk, bxk, tgk⟩
        -- return True
        exact k _ ((Kq.of kpm).trans kqk) bxk tgk

end
end K02

end
section
set_option Elab.async false
set_option linter.all false
set_option maxRecDepth 100000
set_option maxHeartbeats 4000000
namespace K02
open PySem L2 Kit KR KX KI RM
local macro_rules | `(tactic| fail "om") => `(tactic| first | omega | (simp only [List.length_map, List.length_append, List.length_cons, List.length_nil]; omega) | (simp only [List.length_map, List.length_append, List.length_cons, List.length_nil] at *; omega) | assumption | decide | (simp only [List.length_take, List.length_drop]; omega) | (rw [every_len]; omega) | fail "no om")
local macro_rules | `(tactic| fail "nz") => `(tactic| first | decide | omega | fail "no nz")
local macro_rules | `(tactic| fail "dv") => `(tactic| exact ⟨by first | decide | omega, by first | decide | omega⟩)
local macro_rules | `(tactic| fail "mul") => `(tactic| first | exact .inr ⟨by decide, by decide⟩ | exact .inl ⟨by decide, by decide⟩ | exact mulF (by decide) (by decide) | exact .inl ⟨by omega, by omega⟩ | exact .inr ⟨by omega, by omega⟩ | fail "no mul")
local macro_rules | `(tactic| fail "sz") => `(tactic| first | assumption | exact Nat.zero_le _ | (show 1 ≤ sizeLine; decide) | (show 2 ≤ sizeLine; decide) | (show 3 ≤ sizeLine; decide) | (show 4 ≤ sizeLine; decide) | (show 5 ≤ sizeLine; decide) | exact Evl.sz_of (by omega) | (refine Evl.sz_of ?_; simp only [List.length_append, List.length_map, List.length_cons, List.length_nil]; omega) | (refine Evl.sz_of ?_; simp only [List.length_append, List.length_map, List.length_cons, List.length_nil, List.length_take, List.length_drop]; omega) | fail "no sz")
local macro_rules | `(tactic| fail "szl") => `(tactic| first | exact Evl.sz_lt (by omega) | (refine Evl.sz_lt ?_; simp only [List.length_append, List.length_map, List.length_cons, List.length_nil]; omega) | fail "no szl")
local macro_rules | `(tactic| fail "ix") => `(tactic| first | assumption | exact ix0 | exact ix1 | exact ix2 | exact at_ref (by assumption) (by omega) | exact at_int (by assumption) (by omega) | exact at_drawn (by assumption) (by assumption) | exact at_lit (by first | assumption | omega) (by fail "om") | rfl | fail "no ix")
local macro_rules | `(tactic| fail "ixn") => `(tactic| first | rfl | assumption | fail "no ixn")
local macro_rules | `(tactic| fail "nb") => `(tactic| first | assumption | exact nb_tup | exact nb_nil | exact nb_ints | exact nb_refs | exact nb_ins | exact nb_dT | exact nb_frz | fail "no nb")
local macro_rules | `(tactic| fail "ne") => `(tactic| first | assumption | exact Ne.symm (by assumption) | exact ne_of_none (by assumption) (by assumption) | exact (ne_of_none (by assumption) (by assumption)).symm | exact ne_of (by assumption) (by assumption) (by intro q; cases q) | exact ne_of (by assumption) (by assumption) (by simp) | fail "no ne")
local macro_rules | `(tactic| fail "hp") => `(tactic| first | assumption | exact upd_same | exact lit0 | exact lit1 | exact lit3 | exact lit2 | (refine' Tk.get (by assumption) ?k1; (case k1 => fail "tk")) | (with_reducible refine' upd_new ?h1 ?n1; (case n1 => assumption); (case h1 => fail "hp")) | (refine' Same.get (by assumption) ?h1; (case h1 => fail "hp")) | (refine' Kp.get (by assumption) (by fail "bx") ?h1 ?d1; (case h1 => fail "hp"); (case d1 => fail "nb")) | (with_reducible refine' upd_oth ?h1 ?n1; (case n1 => fail "ne"); (case h1 => fail "hp")) | (with_reducible refine' upd_oth ?h1 ?n1; (case h1 => fail "hp"); (case n1 => fail "ne")) | (refine' Kq.get (by assumption) (by fail "bx") ?h1 ?d1 (by fail "ne"); (case h1 => fail "hp"); (case d1 => fail "nb")) | fail "no hp")
local macro_rules | `(tactic| fail "bx") => `(tactic| first | assumption | (with_reducible refine' BoxOk.new ?h1 ?n1; (case n1 => assumption); (case h1 => fail "bx")) | (refine' BoxOk.same (by assumption) ?h1; (case h1 => fail "bx")) | (with_reducible refine' BoxOk.mut ?h1 ?h2 ?n1; (case n1 => assumption); (case h2 => assumption); (case h1 => fail "bx")) | fail "no bx")
local macro_rules | `(tactic| fail "kp") => `(tactic| first | assumption | exact Kp.refl | (with_reducible refine' Kp.at ?h1; (case h1 => fail "kp")) | (with_reducible refine' Kp.new ?h1 ?n1; (case n1 => assumption); (case h1 => fail "kp")) | (with_reducible refine' Kp.mut ?h1 ?n1; (case n1 => assumption); (case h1 => fail "kp")) | (refine' Kp.tr (by assumption) ?h1; (case h1 => fail "kp")) | (refine' Kp.tr (Kp.of (by assumption)) ?h1; (case h1 => fail "kp")) | (refine' Kq.kp (by assumption) ?h1 (by assumption); (case h1 => fail "kp")) | fail "no kp")
local macro_rules | `(tactic| fail "ite") => `(tactic| first | refine iteT ?_ | refine iteF ?_)
local macro_rules | `(tactic| fail "tt") => `(tactic| first | rfl | exact decide_eq_true (by first | rfl | omega | assumption) | exact decide_eq_true (congrArg V.int (by first | rfl | omega)) | fail "no tt")
local macro_rules | `(tactic| fail "cv") => `(tactic| first | exact .ty _ | exact .own _)
local macro_rules | `(tactic| fail "tx") => `(tactic| first | exact .base (.int _) | exact .base (.bl _) | exact .base .non | exact .base (.lst (by fail "hp")) | exact .base (.tup (by fail "hp")) | fail "no tx")
local macro_rules | `(tactic| fail "dead") => `(tactic| (exfalso; first | omega | contradiction | simp_all))
local macro_rules | `(tactic| fail "dp") => `(tactic| first | exact .tup (SqT.of (by fail "hp")) (.cons (.int _) (.cons (.int _) .nil)) | exact .lst (SqL.of (by fail "hp")) (dpPrs (by fail "pr")) | exact .lst (SqL.of (by fail "hp")) (dpInts _) | exact .lst (SqL.of (by fail "hp")) .nil | fail "no dp")
local macro_rules | `(tactic| fail "shp") => `(tactic| first | assumption | exact prD_shaped _ | exact PySem.W.ke_shaped_ints _ | rfl | fail "no shp")
local macro_rules | `(tactic| fail "pr") => `(tactic| first | assumption | exact PrT.mono (by assumption) (by fail "tk") | fail "no pr")
local macro_rules | `(tactic| fail "tk") => `(tactic| first | assumption | exact Tk.refl | (with_reducible refine' Tk.new ?h1 ?n1; (case n1 => assumption); (case h1 => fail "tk")) | (refine' Tk.tr (Kp.tk (by assumption) (by fail "bx")) ?h1; (case h1 => fail "tk")) | (refine' Tk.tr (Same.tk (by assumption)) ?h1; (case h1 => fail "tk")) | (with_reducible refine' Tk.lst ?h1 ?n1; (case n1 => fail "hp"); (case h1 => fail "tk")) | fail "no tk")
local macro_rules | `(tactic| fail "lk") => `(tactic| first | exact netF_count _ _ | exact netF_links _ _ | exact netF_no _ _ (by decide +kernel) (by decide +kernel) | fail "no lk")
local macro_rules | `(tactic| fail "kt") => `(tactic| first | exact upd_same | assumption | fail "hp")
local macro_rules | `(tactic| fail "na") => `(tactic| first | assumption | (with_reducible refine' NetAt.new ?h1 ?n1; (case n1 => assumption); (case h1 => fail "na")) | (refine' NetAt.same (by assumption) ?h1; (case h1 => fail "na")) | (refine' NetAt.kp (by assumption) (by fail "bx") ?h1; (case h1 => fail "na")) | (with_reducible refine' NetAt.lst ?h1 ?n1; (case n1 => fail "hp"); (case h1 => fail "na")) | fail "no na")
local macro_rules | `(tactic| fail "mono") => `(tactic| first | exact fun _ _ _ _ h q => h _ _ q | exact fun _ _ _ _ h q => (let ⟨v, e, z⟩ := q; ⟨v, e, h _ _ z⟩) | exact fun _ _ _ _ h q => (let ⟨v, e, u, f, z⟩ := q; ⟨v, e, u, f, h _ _ z⟩) | fail "no mono")
local macro_rules | `(tactic| fail "sm") => `(tactic| first | assumption | exact Same.refl _ | (with_reducible refine' Same.new ?h1 ?n1; (case n1 => assumption); (case h1 => fail "sm")) | (refine' Same.tr (by assumption) ?h1; (case h1 => fail "sm")) | fail "no sm")
local macro_rules | `(tactic| fail "fld") => `(tactic| first | (show 0 < 1000; decide) | (show 1 < 1000; decide) | fail "no fld")
local macro_rules | `(tactic| fail "kq") => `(tactic| first | assumption | exact Kq.refl | (with_reducible refine' Kq.at ?h1; (case h1 => fail "kq")) | (with_reducible refine' Kq.new ?h1 ?n1; (case n1 => assumption); (case h1 => fail "kq")) | (refine' Kq.trans ?h1 (by assumption); (case h1 => fail "kq")) | (refine' Kq.trans ?h1 (Kq.of (by assumption)); (case h1 => fail "kq")) | (refine' Kq.trans ?h1 (Kq.ofS (by assumption)); (case h1 => fail "kq")) | fail "no kq")
local macro_rules | `(tactic| fail "mo") => `(tactic| first | assumption | exact MemOk.take (by assumption) _ | exact MemOk.drop (by assumption) _ | exact every_ok _ | fail "no mo")

section
variable {P : Program} {w : World} {K : PySem.W.Frag} {mg : Str → Option Value} {base : Heap} {CN CI CU CL CT CS Pt : Addr} {mc mu : Value}











theorem tie_prs {n : Nat} {R : Rel} {x y : Nat} (hx : x < n) (hy : y < n) (m : ((x : Int), (y : Int)) ∈ prs R 1 (every n) (every n)) : R x y = true := by
  have := (mem_prs.mp m).2.2.2
  exact bit_one.mp this
theorem side_eq {n s t : Nat} {R : Rel} {q f q2 f2 : Nat → Nat} {D D2 : Nat → Bool} (h : TM.Span n R s q f) (g : TM.Span n R t q2 f2) (w : TM.Few n R) (ht : t < n) (e : R s t = true) (a1 : ∀ z, z < n → D z = true) (a2 : ∀ z, z < n → D2 z = true) :
    rchL n R [(s : Int)] (others n t) = tells (fun z => decide (fv D f z < fv D2 f2 z)) n := by
  unfold rchL
  refine tells_congr fun z hz => ?_
  rw [Bool.eq_iff_iff, decide_eq_true_iff, fv_yes (a1 z hz), fv_yes (a2 z hz), rchB_iff, h.reach w ht e (fun x hx => mem_others hx) hz, ← h.side g w ht e hz]
  omega
def spSidesAre (CN Pt : Addr) : Sp := fun vs H Q _ => ∃ (b bc a t : Addr) (n : Nat) (M : List Int) (R : Rel), vs = [.ref b, .ref a, .int (n : Int), .ref t] ∧ BoxOk H b bc ∧ NetAt CN H a n R ∧ H t = some (.lst (M.map V.int)) ∧ IsTab n M R ∧ GxR.TabG H Pt ∧ Tree n R ∧
  ∀ H', Kq b Pt H H' → BoxOk H' b bc → GxR.TabG H' Pt → Q (.bl true) H'
abbrev sSidesAre : Stmt := top 45
theorem scSidesAre : FnScope ["box", "net", "count", "table", "ties", "some", "tie", "near", "away", "due", "told", "k", "x"] ["box", "net", "count", "table"] (defScope sSidesAre) := ⟨rfl, rfl, rfl, by decide +kernel, rfl, by decide +kernel, by decide +kernel⟩
theorem ok_SidesAre (D : Df K mg "_law_sides_are" sSidesAre ["box", "net", "count", "table"]) (T : LTx K mg CN CI CU CT CL CS mc mu) (GDraw : C8.Cal P w K mg base 1 "_law_draw" spDraw []) (GFar : C8.Cal P w K mg base 1 "_law_far" spFar []) (GPairsR : C8.Cal P w K mg base 1 "_law_pairs" spPairsR []) (GIntsAre : C8.Cal P w K mg base 2 "_law_ints_are" spIntsAre []) (GTreeSide : CalX P w K mg base 13 "tree_side" (spTreeSide CN CL CT Pt)) : C8.Cal P w K mg base 14 "_law_sides_are" (spSidesAre CN Pt) [] := by
  obtain ⟨f, fd, F, hm, hb⟩ := D
  refine ⟨f, fd, ["box", "net", "count", "table"], [], F.ok scSidesAre (fun vs H Q E h => ?_) (fun cdv A outer s H vs Q E hr h => ?_), hm, F.kp, hb, .nil⟩
  · obtain ⟨b, bc, a, t, n, M, R, rfl, bx, na, ht, tb, tg, tr, k⟩ := h
    rfl
  · obtain ⟨b, bc, a, t, n, M, R, rfl, bx, na, ht, tb, tg, tr, k⟩ := h
    have n1 := na.b1
    have n2 := na.b2
    have fw := tree_few tr na.ir
    refine ⟨_, (pss_cons (ps_set (i := 4) scSidesAre.nd rfl (Or.inr rfl) (C8.pe_c GPairsR hr (by decide) (by rfl) (pa_cons (pv 2) (pa_cons (pv 3) (pa_cons pe_int pa_nil)))))
      (pss_cons (ps_set (i := 5) scSidesAre.nd rfl (Or.inl rfl) (pe_callTy call_list_of (by rfl) T.list (by decide +kernel) (pa_cons (pv 4) pa_nil)))
      (C8.pss_cut (ps_if (pt_cmpR op_gt (pv 2) pe_int (nomark _))
        (pss_one (ps_setLc (i := 5) (own := [("k", 11)]) (g := gName 11) (tt := tYes) rfl scSidesAre.nd rfl rfl (sw_true rfl rfl rfl (by decide +kernel)) (pi_range1 rfl T.range (pa_cons pe_int pa_nil)) (blkOk_by (N := ["box", "net", "count", "table", "ties", "some", "tie", "near", "away", "due", "told", "k", "x"]) (sc := defScope sSidesAre) (by decide +kernel)) (fun _ _ _ _ _ => (pg_name (i := 11) scSidesAre.nd rfl (Or.inl rfl))) (fun _ _ _ _ _ => pts_nil) (fun _ _ _ _ _ => (pe_ix (ix_listB (K := K) (by rfl)) (pv 4) (C8.pe_c GDraw hr (by decide) (by rfl) (pa_cons (pv 0) (pa_cons (pe_callB (call_len_seqB (K := K) (by rfl)) (by rfl) T.len (by decide +kernel) (pa_cons (pv 4) pa_nil)) pa_nil))) (fun _ _ => rfl)))))
        pss_nil)
      (pss_cons (ps_for PassesOwn.never rfl (pi_list (pv 5)) (pg_name (i := 6) scSidesAre.nd rfl (Or.inl rfl))
        (pss_cons (ps_set (i := 7) scSidesAre.nd rfl (Or.inr rfl) (C8.pe_c GFar hr (by decide) (by rfl) (pa_cons (pv 2) (pa_cons (pv 3) (pa_cons (pe_ix ix_tup (pv 6) pe_int (fun _ _ => rfl)) pa_nil)))))
        (pss_cons (ps_set (i := 8) scSidesAre.nd rfl (Or.inr rfl) (C8.pe_c GFar hr (by decide) (by rfl) (pa_cons (pv 2) (pa_cons (pv 3) (pa_cons (pe_ix ix_tup (pv 6) pe_int (fun _ _ => rfl)) pa_nil)))))
        (pss_cons (ps_setLc (i := 9) (own := [("x", 12)]) (g := gName 12) rfl scSidesAre.nd rfl rfl (sw_true rfl rfl rfl (by decide +kernel)) (pi_range1 rfl T.range (pa_cons (pv 2) pa_nil)) (blkOk_by (N := ["box", "net", "count", "table", "ties", "some", "tie", "near", "away", "due", "told", "k", "x"]) (sc := defScope sSidesAre) (by decide +kernel)) (fun _ _ _ _ _ => (pg_name (i := 12) scSidesAre.nd rfl (Or.inl rfl))) (fun _ _ _ _ _ => (pts_one (pt_cmpR op_lt (pe_ix ix_I (pv 7) (pv 12) (fun _ _ => rfl)) (pe_ix ix_I (pv 8) (pv 12) (fun _ _ => rfl)) (nomark _)))) (fun _ _ _ _ _ => (pv 12)))
        (pss_cons (ps_set (i := 10) scSidesAre.nd rfl (Or.inl rfl) (pe_cX GTreeSide hr (by decide) (by rfl) passN (pa_cons (pv 1) (pa_cons (pe_ix ix_tup (pv 6) pe_int (fun _ _ => rfl)) (pa_cons (pe_ix ix_tup (pv 6) pe_int (fun _ _ => rfl)) pa_nil)))))
        (pss_cons (ps_if (pt_not (pt_val (C8.pe_c GIntsAre hr (by decide) (by rfl) (pa_cons (pv 10) (pa_cons (pv 9) pa_nil)))))
          (pss_one (ps_ret pe_bl))
          pss_nil)
        (pss_cons (ps_expr (pe_bm0 PySem.F.plainAttrs_list PySem.F.slot_list_reverse PySem.F.type_list_reverse mt_reverse (pv 10)))
        (pss_cons (ps_expr (pe_bm PySem.F.plainAttrs_list PySem.F.slot_list_append PySem.F.type_list_append mt_append (pv 10) (pa_cons (pe_ix ix_tup (pv 6) pe_int (fun _ _ => rfl)) pa_nil)))
        (pss_one (ps_if (pt_not (pt_val (C8.pe_c GIntsAre hr (by decide) (by rfl) (pa_cons (pe_cX GTreeSide hr (by decide) (by rfl) passN (pa_cons (pv 1) (pa_cons (pe_ix ix_tup (pv 6) pe_int (fun _ _ => rfl)) (pa_cons (pe_ix ix_tup (pv 6) pe_int (fun _ _ => rfl)) pa_nil)))) (pa_cons (pv 9) pa_nil)))))
          (pss_one (ps_ret pe_bl))
          pss_nil))))))))))
      (pss_one (ps_ret pe_bl)))))), ?_⟩
    -- ties = _law_pairs(count, table, 1)
    refine ⟨_, rfl, _, rfl, _, _, _, _, _, rfl, (by fail "om"), (by fail "hp"), (by assumption), fun p1 as1 H1 sm1 np1 hp1 pt1 => ?_⟩
    -- some = list(ties)
    refine ⟨_, rfl, _, _, rfl, .inl (SqL.of (by fail "hp")), fun p2 np2 => ?_⟩
    refine ⟨fun σ Hk => ∃ (pS : Addr) (as : List Addr) (ps : List (Int × Int)), σ = [some (.ref b), some (.ref a), some (.int (n : Int)), some (.ref t), some (.ref p1), some (.ref pS), none, none, none, none, none, none, none] ∧ Kp b H Hk ∧ BoxOk Hk b bc ∧ Hk pS = some (.lst (as.map V.ref)) ∧ PrT Hk as ps ∧ (∀ q ∈ ps, q ∈ prs R 1 (every n) (every n)), ?_, ?_⟩
    · -- if count > 6:
      refine ⟨_, rfl, _, _, rfl, rfl, _, rfl, ?_⟩
      refine ifD (fun g3 => ?_) (fun g3 => ?_)
      · have ll := pt1.1
        have l5 : as1.length ≤ 576 := by rw [ll]; exact prs_576 R 1 (by rw [every_len]; exact n2)
        have e1 : 1 ≤ as1.length := by
          have z := tr.1
          obtain ⟨q, hq⟩ := List.exists_mem_of_length_pos (l := ties n R) (by omega)
          obtain ⟨x, y, hx, hy, r, e⟩ := mem_ties.mp hq
          have ne := na.ir x y hx hy r
          have m : ((x : Int), (y : Int)) ∈ prs R 1 (every n) (every n) := mem_prs.mpr ⟨mem_every.mpr ⟨by show (0 : Int) ≤ x; omega, by show (x : Int) < n; omega⟩, mem_every.mpr ⟨by show (0 : Int) ≤ y; omega, by show (y : Int) < n; omega⟩, by show (x : Int) ≠ y; omega, bit_one.mpr r⟩
          rw [ll]
          exact List.length_pos_of_mem m
        -- some = [ties[_law_draw(box, len(ties))] for k in range(6)]
        refine ⟨_, rfl, (by fail "om"), (by fail "om"), fun D1 nD1 => ?_⟩
        have nDH : H D1 = none := free_back nD1 (Same.new sm1 np2)
        have kpD : Kp b H (upd (upd H1 p2 (.lst (as1.map V.ref))) D1 (.lst [])) := Kp.of (Same.new (Same.new sm1 np2) nD1)
        refine lc_range (lo := 0) (n := ((6 : Int)).toNat) (fun i H' => ∃ (cs : List Addr) (qs : List (Int × Int)), Kp b H H' ∧ BoxOk H' b bc ∧ H' p1 = some (.lst (as1.map V.ref)) ∧ PrT H' as1 (prs R 1 (every n) (every n)) ∧ H' D1 = some (.lst (cs.map V.ref)) ∧ PrT H' cs qs ∧ (∀ q ∈ qs, q ∈ prs R 1 (every n) (every n)) ∧ cs.length = i) ⟨[], [], kpD, BoxOk.new (BoxOk.new (BoxOk.same sm1 bx) np2) nD1, upd_new (upd_new hp1 np2) nD1, PrT.mono pt1 (Tk.new (Tk.new Tk.refl np2) nD1), upd_same, PrT.nil, fun q hq => absurd hq List.not_mem_nil, rfl⟩ (fun i H' hi z => by
      obtain ⟨cs, qs, kpi, bxi, hpi, pai, hDi, pti, inr, li⟩ := z
      refine ⟨rfl, ?_⟩
      unfold tYes
      refine iteT ?_
      refine ⟨_, rfl, _, rfl, _, rfl, _, _, rfl, .inl (SqL.of hpi), _, _, _, rfl, bxi, (by fail "om"), (by fail "om"), fun d8 H8 da8 db8 kp8 bx8 => ?_⟩
      have pt8 := PrT.mono pai (Kp.tk kp8 bxi)
      have dlt : d8.toNat < (prs R 1 (every n) (every n)).length := by
        rw [← pt8.1]
        simp only [List.length_map] at db8
        omega
      obtain ⟨a1, x1, y1, ea, ep, hta⟩ := pt8.at dlt
      have ixa : atI (as1.map V.ref) d8 = some (V.ref a1) := at_ref ea (by omega)
      have h8 := kp8.get bxi hpi nb_refs
      have hD8 := kp8.get bxi hDi nb_refs
      have ne8 : p1 ≠ D1 := ne_of_none (upd_new (o := .lst (as1.map V.ref)) hp1 np2) nD1
      refine ⟨_, _, _, _, rfl, rfl, SqL.of h8, ixa, _, hD8, Evl.sz_lt (by rw [List.length_map]; omega), cs ++ [a1], qs ++ [(x1, y1)], Kp.mut (kpi.trans kp8) nDH, BoxOk.mut bx8 bx nDH, by rw [upd_ne ne8]; exact h8, PrT.mono pt8 (Tk.lst Tk.refl hD8), by rw [upd_same, snocR], ?_, fun q hq => (List.mem_append.mp hq).elim (inr q) fun z => by rw [List.mem_singleton.mp z]; exact List.mem_of_getElem? ep, by rw [List.length_append, li]; rfl⟩
      exact PrT.snoc (PrT.mono pti (Tk.lst (Kp.tk kp8 bxi) hD8)) (by rw [upd_ne (fun z => by rw [z, hD8] at hta; cases hta)]; exact hta)) (fun H3 z => ?_)
        obtain ⟨cs, qs, kp3, bx3, hp3, _, hD3, pt3, in3, l3⟩ := z
        exact ⟨D1, cs, qs, rfl, kp3, bx3, hD3, pt3, in3⟩
      · exact ⟨p2, as1, _, rfl, Kp.new (Kp.of sm1) np2, BoxOk.new (BoxOk.same sm1 bx) np2, upd_same, PrT.mono pt1 (Tk.new Tk.refl np2), fun q hq => hq⟩
    · rintro σ Hm ⟨pS, as, ps, rfl, kpm, bxm, hpm, ptm, inm⟩
      have tgm := tabG_kp tg kpm bx
      have nam := NetAt.kp kpm bx na
      have htm := kpm.get bx ht nb_ints
      -- for tie in some:
      refine ⟨_, rfl, _, rfl, ⟨_, SqL.of (by fail "hp")⟩, for_list (K := K) (a := pS) (xs := as.map V.ref) (fun i σ Hk => ∃ (u6 u7 u8 u9 u10 : Option V), σ = [some (.ref b), some (.ref a), some (.int (n : Int)), some (.ref t), some (.ref p1), some (.ref pS), u6, u7, u8, u9, u10, none, none] ∧ Kq b Pt Hm Hk ∧ BoxOk Hk b bc ∧ GxR.TabG Hk Pt) ⟨_, _, _, _, _, rfl, Kq.refl, bxm, tgm⟩ (fun i σ Hk _ z => by obtain ⟨_, _, _, _, _, _, kq, _⟩ := z; exact SqL.of (kq.refs bxm tgm hpm)) ?_ ?_⟩
      · rintro i x0 σ Hk hx0 ⟨u6, u7, u8, u9, u10, rfl, kqk, bxk, tgk⟩
        obtain ⟨a1, x1, y1, rfl, ea, ep, hta0⟩ := ptm.item hx0
        have hta := kqk.tk bxm tgm _ _ hta0
        have hmem := inm _ (List.mem_of_getElem? ep)
        have hg := prs_good (every_ok n) _ hmem
        obtain ⟨x, ex, hx⟩ := toN (n := n) (x := x1) hg.1 hg.2.1
        obtain ⟨y, ey, hy⟩ := toN (n := n) (x := y1) hg.2.2.1 hg.2.2.2.1
        subst ex
        subst ey
        have rxy := tie_prs hx hy hmem
        have mt : ((x : Int), (y : Int)) ∈ ties n R := mem_ties.mpr ⟨x, y, hx, hy, rxy, rfl⟩
        have nak := kqk.net bxm tgm nam
        have htk := kqk.ints bxm tgm htm
        -- near = _law_far(count, table, tie[0])
        refine ⟨_, rfl, _, rfl, _, rfl, _, _, _, _, rfl, rfl, SqT.of (by fail "hp"), (by fail "ix"), _, _, x, _, _, rfl, (by fail "om"), (by fail "om"), (by fail "hp"), (by assumption), fun q4 D4 pp4 dd4 H4 gr4 rc4 nq4 sm4 hq4 => ?_⟩
        have r4 : Rn Pt Hk H4 := (Rn.mk0 tgk).same sm4
        have ht4 := r4.lst htk
        have hta4 := r4.tup hta
        -- away = _law_far(count, table, tie[1])
        refine ⟨_, rfl, _, rfl, _, rfl, _, _, _, _, rfl, rfl, SqT.of (by fail "hp"), (by fail "ix"), _, _, y, _, _, rfl, (by fail "om"), (by fail "om"), (by fail "hp"), (by assumption), fun q5 D5 pp5 dd5 H5 gr5 rc5 nq5 sm5 hq5 => ?_⟩
        obtain ⟨al4, spx4⟩ := tree_span tr hx gr4 rc4
        obtain ⟨al5, spx5⟩ := tree_span tr hy gr5 rc5
        have se := side_eq spx4 spx5 fw hy rxy al4 al5
        -- due = [x for x in range(count) if near[x] < away[x]]
        refine ⟨_, rfl, _, rfl, (by fail "om"), (by fail "om"), fun D2 nD2 => lc_range (lo := 0) (n := ((n : Int)).toNat) (fun i H' => Same H5 H' ∧ H' D2 = some (.lst ((tells (fun z => decide (fv D4 dd4 z < fv D5 dd5 z)) i).map V.int))) ⟨Same.new (Same.refl _) nD2, upd_same⟩ (fun i H' hi z => by
      obtain ⟨sm, hD⟩ := z
      have lt := tells_len (fun z => decide (fv D4 dd4 z < fv D5 dd5 z)) i
      have hin : i < n := by omega
      have i4 : atI ((fl n D4 dd4).map V.int) ((0 : Int) + (i : Int)) = some (V.int (fv D4 dd4 i)) := by rw [Int.zero_add]; exact fl_ix D4 dd4 hin
      have i5 : atI ((fl n D5 dd5).map V.int) ((0 : Int) + (i : Int)) = some (V.int (fv D5 dd5 i)) := by rw [Int.zero_add]; exact fl_ix D5 dd5 hin
      have h4 := sm _ _ (sm5 _ _ hq4)
      have h5 := sm _ _ hq5
      refine ⟨rfl, ?_⟩
      refine ⟨_, rfl, _, rfl, _, _, _, _, rfl, rfl, h4, i4, _, rfl, _, rfl, _, _, _, _, rfl, rfl, h5, i5, _, _, rfl, rfl, _, rfl, ?_⟩
      refine ifD (fun g => ?_) fun g => ?_
      · refine ⟨_, rfl, _, hD, Evl.sz_lt (by rw [List.length_map]; omega), Same.mut sm nD2, ?_⟩
        rw [upd_same, tells_yes (D := fun z => decide (fv D4 dd4 z < fv D5 dd5 z)) (decide_eq_true g), List.map_append, Int.zero_add]
        rfl
      · exact ⟨sm, by rw [tells_no (D := fun z => decide (fv D4 dd4 z < fv D5 dd5 z)) (decide_eq_false g)]; exact hD⟩) (fun H7 z => ?_)⟩
        obtain ⟨sm7, hD7⟩ := z
        rw [Int.toNat_natCast] at hD7
        have r7 : Rn Pt Hk H7 := (r4.same sm5).same sm7
        have na7 := r7.net nak
        have tg7 := r7.t
        have hta7 := r7.tup hta
        -- told = tree_side(net, tie[0], tie[1])
        refine ⟨_, rfl, _, rfl, _, _, _, _, rfl, rfl, SqT.of (by fail "hp"), (by fail "ix"), _, rfl, _, _, _, _, rfl, rfl, SqT.of (by fail "hp"), (by fail "ix"), _, _, _, _, _, rfl, (by fail "na"), (by assumption), (fun _ s6 t6 ex6 ey6 hs6 ht6 rst6 p6 H6 sp6 tp6 np6 hp6 => ?_), fun z => absurd tr z, fun _ z => absurd mt z⟩
        have r6 : Rn Pt H7 H6 := (Rn.mk0 tg7).go sp6 tp6
        obtain rfl : x = s6 := by omega
        obtain rfl : y = t6 := by omega
        rw [se] at hp6
        have hD6 := r6.lst hD7
        have tl := tells_len (fun z => decide (fv D4 dd4 z < fv D5 dd5 z)) n
        have hta6 := r6.tup hta7
        -- if not _law_ints_are(told, due):
        refine ⟨_, rfl, _, rfl, _, _, _, rfl, (by fail "hp"), (by fail "hp"), (by fail "om"), ⟨_, rfl, ?_⟩⟩
        fail "ite"
        -- told.reverse()
        refine ⟨_, rfl, .inl ⟨rfl, _, SqL.of (by fail "hp")⟩, _, _, rfl, rfl, (by fail "hp"), ?_⟩
        -- told.append(tie[1])
        refine ⟨_, rfl, .inl ⟨rfl, _, SqL.of (by fail "hp")⟩, _, rfl, _, _, _, _, rfl, rfl, SqT.of (by fail "hp"), (by fail "ix"), _, _, _, rfl, rfl, (by fail "hp"), Evl.sz_lt (by rw [List.length_reverse, List.length_map]; omega), ?_⟩
        have rA := (r6.mut (o := .lst ((tells (fun z => decide (fv D4 dd4 z < fv D5 dd5 z)) n).map V.int).reverse) np6).mut (o := .lst (((tells (fun z => decide (fv D4 dd4 z < fv D5 dd5 z)) n).map V.int).reverse ++ [V.int (y : Int)])) np6
        have naA := rA.net na7
        have tgA := rA.t
        have htaA := rA.tup hta7
        -- if not _law_ints_are(tree_side(net, tie[0], tie[1]), due):
        refine ⟨_, rfl, _, rfl, _, _, _, _, rfl, rfl, SqT.of (by fail "hp"), (by fail "ix"), _, rfl, _, _, _, _, rfl, rfl, SqT.of (by fail "hp"), (by fail "ix"), _, _, _, _, _, rfl, (by fail "na"), (by assumption), (fun _ s9 t9 ex9 ey9 hs9 ht9 rst9 p9 H9 sp9 tp9 np9 hp9 => ?_), fun z => absurd tr z, fun _ z => absurd mt z⟩
        have r9 := rA.go sp9 tp9
        obtain rfl : x = s9 := by omega
        obtain rfl : y = t9 := by omega
        rw [se] at hp9
        have hD9 := r9.lst hD7
        refine ⟨_, rfl, _, _, _, rfl, (by fail "hp"), (by fail "hp"), (by fail "om"), ⟨_, rfl, ?_⟩⟩
        fail "ite"
        exact ⟨_, _, _, _, _, rfl, (kqk.trans (Kq.of1 r7.s)).trans (Kq.of1 r9.s), r9.box (r7.box bxk), r9.t⟩
      · rintro σ Hk ⟨u6, u7, u8, u9, u10, rfl, kqk, bxk, tgk⟩
        -- return True
        exact k _ ((Kq.of kpm).trans kqk) bxk tgk
end
end K02

end
section
set_option Elab.async false
set_option linter.all false
set_option maxRecDepth 100000
set_option maxHeartbeats 4000000
namespace K02
open PySem L2 Kit KR KX KI RM
local macro_rules | `(tactic| fail "om") => `(tactic| first | omega | (simp only [List.length_map, List.length_append, List.length_cons, List.length_nil]; omega) | (simp only [List.length_map, List.length_append, List.length_cons, List.length_nil] at *; omega) | assumption | decide | (simp only [List.length_take, List.length_drop]; omega) | (rw [every_len]; omega) | fail "no om")
local macro_rules | `(tactic| fail "nz") => `(tactic| first | decide | omega | fail "no nz")
local macro_rules | `(tactic| fail "dv") => `(tactic| exact ⟨by first | decide | omega, by first | decide | omega⟩)
local macro_rules | `(tactic| fail "mul") => `(tactic| first | exact .inr ⟨by decide, by decide⟩ | exact .inl ⟨by decide, by decide⟩ | exact mulF (by decide) (by decide) | exact .inl ⟨by omega, by omega⟩ | exact .inr ⟨by omega, by omega⟩ | fail "no mul")
local macro_rules | `(tactic| fail "sz") => `(tactic| first | assumption | exact Nat.zero_le _ | (show 1 ≤ sizeLine; decide) | (show 2 ≤ sizeLine; decide) | (show 3 ≤ sizeLine; decide) | (show 4 ≤ sizeLine; decide) | (show 5 ≤ sizeLine; decide) | exact Evl.sz_of (by omega) | (refine Evl.sz_of ?_; simp only [List.length_append, List.length_map, List.length_cons, List.length_nil]; omega) | (refine Evl.sz_of ?_; simp only [List.length_append, List.length_map, List.length_cons, List.length_nil, List.length_take, List.length_drop]; omega) | fail "no sz")
local macro_rules | `(tactic| fail "szl") => `(tactic| first | exact Evl.sz_lt (by omega) | (refine Evl.sz_lt ?_; simp only [List.length_append, List.length_map, List.length_cons, List.length_nil]; omega) | fail "no szl")
local macro_rules | `(tactic| fail "ix") => `(tactic| first | assumption | exact ix0 | exact ix1 | exact ix2 | exact at_ref (by assumption) (by omega) | exact at_int (by assumption) (by omega) | exact at_drawn (by assumption) (by assumption) | exact at_lit (by first | assumption | omega) (by fail "om") | rfl | fail "no ix")
local macro_rules | `(tactic| fail "ixn") => `(tactic| first | rfl | assumption | fail "no ixn")
local macro_rules | `(tactic| fail "nb") => `(tactic| first | assumption | exact nb_tup | exact nb_nil | exact nb_ints | exact nb_refs | exact nb_ins | exact nb_dT | exact nb_frz | fail "no nb")
local macro_rules | `(tactic| fail "ne") => `(tactic| first | assumption | exact Ne.symm (by assumption) | exact ne_of_none (by assumption) (by assumption) | exact (ne_of_none (by assumption) (by assumption)).symm | exact ne_of (by assumption) (by assumption) (by intro q; cases q) | exact ne_of (by assumption) (by assumption) (by simp) | fail "no ne")
local macro_rules | `(tactic| fail "hp") => `(tactic| first | assumption | exact upd_same | exact lit0 | exact lit1 | exact lit3 | exact lit2 | (refine' Tk.get (by assumption) ?k1; (case k1 => fail "tk")) | (with_reducible refine' upd_new ?h1 ?n1; (case n1 => assumption); (case h1 => fail "hp")) | (refine' Same.get (by assumption) ?h1; (case h1 => fail "hp")) | (refine' Kp.get (by assumption) (by fail "bx") ?h1 ?d1; (case h1 => fail "hp"); (case d1 => fail "nb")) | (with_reducible refine' upd_oth ?h1 ?n1; (case n1 => fail "ne"); (case h1 => fail "hp")) | (with_reducible refine' upd_oth ?h1 ?n1; (case h1 => fail "hp"); (case n1 => fail "ne")) | (refine' Kq.get (by assumption) (by fail "bx") ?h1 ?d1 (by fail "ne"); (case h1 => fail "hp"); (case d1 => fail "nb")) | fail "no hp")
local macro_rules | `(tactic| fail "bx") => `(tactic| first | assumption | (with_reducible refine' BoxOk.new ?h1 ?n1; (case n1 => assumption); (case h1 => fail "bx")) | (refine' BoxOk.same (by assumption) ?h1; (case h1 => fail "bx")) | (with_reducible refine' BoxOk.mut ?h1 ?h2 ?n1; (case n1 => assumption); (case h2 => assumption); (case h1 => fail "bx")) | fail "no bx")
local macro_rules | `(tactic| fail "kp") => `(tactic| first | assumption | exact Kp.refl | (with_reducible refine' Kp.at ?h1; (case h1 => fail "kp")) | (with_reducible refine' Kp.new ?h1 ?n1; (case n1 => assumption); (case h1 => fail "kp")) | (with_reducible refine' Kp.mut ?h1 ?n1; (case n1 => assumption); (case h1 => fail "kp")) | (refine' Kp.tr (by assumption) ?h1; (case h1 => fail "kp")) | (refine' Kp.tr (Kp.of (by assumption)) ?h1; (case h1 => fail "kp")) | (refine' Kq.kp (by assumption) ?h1 (by assumption); (case h1 => fail "kp")) | fail "no kp")
local macro_rules | `(tactic| fail "ite") => `(tactic| first | refine iteT ?_ | refine iteF ?_)
local macro_rules | `(tactic| fail "tt") => `(tactic| first | rfl | exact decide_eq_true (by first | rfl | omega | assumption) | exact decide_eq_true (congrArg V.int (by first | rfl | omega)) | fail "no tt")
local macro_rules | `(tactic| fail "cv") => `(tactic| first | exact .ty _ | exact .own _)
local macro_rules | `(tactic| fail "tx") => `(tactic| first | exact .base (.int _) | exact .base (.bl _) | exact .base .non | exact .base (.lst (by fail "hp")) | exact .base (.tup (by fail "hp")) | fail "no tx")
local macro_rules | `(tactic| fail "dead") => `(tactic| (exfalso; first | omega | contradiction | simp_all))
local macro_rules | `(tactic| fail "dp") => `(tactic| first | exact .tup (SqT.of (by fail "hp")) (.cons (.int _) (.cons (.int _) .nil)) | exact .lst (SqL.of (by fail "hp")) (dpPrs (by fail "pr")) | exact .lst (SqL.of (by fail "hp")) (dpInts _) | exact .lst (SqL.of (by fail "hp")) .nil | fail "no dp")
local macro_rules | `(tactic| fail "shp") => `(tactic| first | assumption | exact prD_shaped _ | exact PySem.W.ke_shaped_ints _ | rfl | fail "no shp")
local macro_rules | `(tactic| fail "pr") => `(tactic| first | assumption | exact PrT.mono (by assumption) (by fail "tk") | fail "no pr")
local macro_rules | `(tactic| fail "tk") => `(tactic| first | assumption | exact Tk.refl | (with_reducible refine' Tk.new ?h1 ?n1; (case n1 => assumption); (case h1 => fail "tk")) | (refine' Tk.tr (Kp.tk (by assumption) (by fail "bx")) ?h1; (case h1 => fail "tk")) | (refine' Tk.tr (Same.tk (by assumption)) ?h1; (case h1 => fail "tk")) | (with_reducible refine' Tk.lst ?h1 ?n1; (case n1 => fail "hp"); (case h1 => fail "tk")) | fail "no tk")
local macro_rules | `(tactic| fail "lk") => `(tactic| first | exact netF_count _ _ | exact netF_links _ _ | exact netF_no _ _ (by decide +kernel) (by decide +kernel) | fail "no lk")
local macro_rules | `(tactic| fail "kt") => `(tactic| first | exact upd_same | assumption | fail "hp")
local macro_rules | `(tactic| fail "na") => `(tactic| first | assumption | (with_reducible refine' NetAt.new ?h1 ?n1; (case n1 => assumption); (case h1 => fail "na")) | (refine' NetAt.same (by assumption) ?h1; (case h1 => fail "na")) | (refine' NetAt.kp (by assumption) (by fail "bx") ?h1; (case h1 => fail "na")) | (with_reducible refine' NetAt.lst ?h1 ?n1; (case n1 => fail "hp"); (case h1 => fail "na")) | fail "no na")
local macro_rules | `(tactic| fail "mono") => `(tactic| first | exact fun _ _ _ _ h q => h _ _ q | exact fun _ _ _ _ h q => (let ⟨v, e, z⟩ := q; ⟨v, e, h _ _ z⟩) | exact fun _ _ _ _ h q => (let ⟨v, e, u, f, z⟩ := q; ⟨v, e, u, f, h _ _ z⟩) | fail "no mono")
local macro_rules | `(tactic| fail "sm") => `(tactic| first | assumption | exact Same.refl _ | (with_reducible refine' Same.new ?h1 ?n1; (case n1 => assumption); (case h1 => fail "sm")) | (refine' Same.tr (by assumption) ?h1; (case h1 => fail "sm")) | fail "no sm")
local macro_rules | `(tactic| fail "fld") => `(tactic| first | (show 0 < 1000; decide) | (show 1 < 1000; decide) | fail "no fld")
local macro_rules | `(tactic| fail "kq") => `(tactic| first | assumption | exact Kq.refl | (with_reducible refine' Kq.at ?h1; (case h1 => fail "kq")) | (with_reducible refine' Kq.new ?h1 ?n1; (case n1 => assumption); (case h1 => fail "kq")) | (refine' Kq.trans ?h1 (by assumption); (case h1 => fail "kq")) | (refine' Kq.trans ?h1 (Kq.of (by assumption)); (case h1 => fail "kq")) | (refine' Kq.trans ?h1 (Kq.ofS (by assumption)); (case h1 => fail "kq")) | fail "no kq")
local macro_rules | `(tactic| fail "mo") => `(tactic| first | assumption | exact MemOk.take (by assumption) _ | exact MemOk.drop (by assumption) _ | exact every_ok _ | fail "no mo")

section
variable {P : Program} {w : World} {K : PySem.W.Frag} {mg : Str → Option Value} {base : Heap} {CN CI CU CL CT CS Pt : Addr} {mc mu : Value}












def spRefusalsAre (CN Pt : Addr) : Sp := fun vs H Q _ => ∃ (b bc a t : Addr) (n : Nat) (M : List Int) (R : Rel), vs = [.ref b, .ref a, .int (n : Int), .ref t] ∧ BoxOk H b bc ∧ NetAt CN H a n R ∧ H t = some (.lst (M.map V.int)) ∧ IsTab n M R ∧ GxR.TabG H Pt ∧
  ∀ H', Kq b Pt H H' → BoxOk H' b bc → GxR.TabG H' Pt → Q (.bl true) H'
def spNetIs (CN Pt : Addr) : Sp := spRefusalsAre CN Pt
abbrev sRefusalsAre : Stmt := top 48
theorem scRefusalsAre : FnScope ["box", "net", "count", "table", "way", "turn", "one", "other", "due", "apart", "k", "pair"] ["box", "net", "count", "table"] (defScope sRefusalsAre) := ⟨rfl, rfl, rfl, by decide +kernel, rfl, by decide +kernel, by decide +kernel⟩
theorem ok_RefusalsAre (D : Df K mg "_law_refusals_are" sRefusalsAre ["box", "net", "count", "table"]) (T : LTx K mg CN CI CU CT CL CS mc mu) (GDraw : C8.Cal P w K mg base 1 "_law_draw" spDraw []) (GPairsR : C8.Cal P w K mg base 1 "_law_pairs" spPairsR []) (GAny : C8.Cal P w K mg base 4 "_law_any" spAny []) (GDue : C8.Cal P w K mg base 3 "_law_due" spDue []) (GRefusal : C8.Cal P w K mg base 16 "_law_refusal" (spRefusal CN Pt) []) (GRefused2 : C8.Cal P w K mg base 2 "_law_refused" spRefused2 []) : C8.Cal P w K mg base 17 "_law_refusals_are" (spRefusalsAre CN Pt) [] := by
  obtain ⟨f, fd, F, hm, hb⟩ := D
  refine ⟨f, fd, ["box", "net", "count", "table"], [], F.ok scRefusalsAre (fun vs H Q E h => ?_) (fun cdv A outer s H vs Q E hr h => ?_), hm, F.kp, hb, .nil⟩
  · obtain ⟨b, bc, a, t, n, M, R, rfl, bx, na, ht, tb, tg, k⟩ := h
    rfl
  · obtain ⟨b, bc, a, t, n, M, R, rfl, bx, na, ht, tb, tg, k⟩ := h
    have n1 := na.b1
    have n2 := na.b2
    have ir := na.ir
    refine ⟨_, (pss_cons (ps_for PassesOwn.never rfl (pi_range1 rfl T.range (pa_cons pe_int pa_nil)) (pg_name (i := 4) scRefusalsAre.nd rfl (Or.inl rfl))
        (pss_one (ps_for PassesOwn.never rfl (pi_range1 rfl T.range (pa_cons pe_int pa_nil)) (pg_name (i := 5) scRefusalsAre.nd rfl (Or.inl rfl))
          (pss_cons (ps_set (i := 6) scRefusalsAre.nd rfl (Or.inl rfl) (C8.pe_c GAny hr (by decide) (by rfl) (pa_cons (pv 0) (pa_cons (pv 2) pa_nil))))
          (pss_cons (ps_set (i := 7) scRefusalsAre.nd rfl (Or.inl rfl) (C8.pe_c GAny hr (by decide) (by rfl) (pa_cons (pv 0) (pa_cons (pv 2) pa_nil))))
          (pss_cons (ps_set (i := 8) scRefusalsAre.nd rfl (Or.inl rfl) (C8.pe_c GDue hr (by decide) (by rfl) (pa_cons (pv 4) (pa_cons (pv 2) (pa_cons (pv 3) (pa_cons (pv 6) (pa_cons (pv 7) pa_nil)))))))
          (pss_one (ps_if (pt_not (pt_val (C8.pe_c GRefused2 hr (by decide) (by rfl) (pa_cons (C8.pe_c GRefusal hr (by decide) (by rfl) (pa_cons (pv 4) (pa_cons (pv 1) (pa_cons (pv 6) (pa_cons (pv 7) pa_nil))))) (pa_cons (pv 8) pa_nil)))))
            (pss_one (ps_ret pe_bl))
            pss_nil))))))))
      (pss_cons (ps_set (i := 9) scRefusalsAre.nd rfl (Or.inl rfl) (C8.pe_c GPairsR hr (by decide) (by rfl) (pa_cons (pv 2) (pa_cons (pv 3) (pa_cons pe_int pa_nil)))))
      (pss_cons (ps_for PassesOwn.never rfl (pi_range1 rfl T.range (pa_cons (pv 2) pa_nil)) (pg_name (i := 10) scRefusalsAre.nd rfl (Or.inl rfl))
        (pss_one (ps_expr (pe_bm PySem.F.plainAttrs_list PySem.F.slot_list_append PySem.F.type_list_append mt_append (pv 9) (pa_cons (pe_tup (pa_cons (pv 10) (pa_cons (pv 10) pa_nil))) pa_nil)))))
      (pss_cons (ps_for PassesOwn.never rfl (pi_range1 rfl T.range (pa_cons pe_int pa_nil)) (pg_name (i := 5) scRefusalsAre.nd rfl (Or.inl rfl))
        (pss_cons (ps_set (i := 11) scRefusalsAre.nd rfl (Or.inl rfl) (pe_ix ix_list (pv 9) (C8.pe_c GDraw hr (by decide) (by rfl) (pa_cons (pv 0) (pa_cons (pe_callB call_len_seq (by rfl) T.len (by decide +kernel) (pa_cons (pv 9) pa_nil)) pa_nil))) (fun _ _ => rfl)))
        (pss_cons (ps_set (i := 8) scRefusalsAre.nd rfl (Or.inl rfl) (C8.pe_c GDue hr (by decide) (by rfl) (pa_cons pe_int (pa_cons (pv 2) (pa_cons (pv 3) (pa_cons (pe_ix ix_tup (pv 11) pe_int (fun _ _ => rfl)) (pa_cons (pe_ix ix_tup (pv 11) pe_int (fun _ _ => rfl)) pa_nil)))))))
        (pss_one (ps_if (pt_not (pt_val (C8.pe_c GRefused2 hr (by decide) (by rfl) (pa_cons (C8.pe_c GRefusal hr (by decide) (by rfl) (pa_cons pe_int (pa_cons (pv 1) (pa_cons (pe_ix ix_tup (pv 11) pe_int (fun _ _ => rfl)) (pa_cons (pe_ix ix_tup (pv 11) pe_int (fun _ _ => rfl)) pa_nil))))) (pa_cons (pv 8) pa_nil)))))
          (pss_one (ps_ret pe_bl))
          pss_nil)))))
      (pss_one (ps_ret pe_bl)))))), ?_⟩
    -- for way in range(3):
    refine ⟨_, rfl, (by fail "om"), (by fail "om"), for_range (fun i σ Hk => ∃ (u4 u5 u6 u7 u8 : Option V), σ = [some (.ref b), some (.ref a), some (.int (n : Int)), some (.ref t), u4, u5, u6, u7, u8, none, none, none] ∧ Kq b Pt H Hk ∧ BoxOk Hk b bc ∧ GxR.TabG Hk Pt) ⟨_, _, _, _, _, rfl, Kq.refl, bx, tg⟩ ?_ ?_⟩
    · rintro i σ Hi hi ⟨u4, u5, u6, u7, u8, rfl, kqi, bxi, tgi⟩
      -- for turn in range(3):
      refine ⟨_, rfl, (by fail "om"), (by fail "om"), for_range (fun j σ Hk => ∃ (u5 u6 u7 u8 : Option V), σ = [some (.ref b), some (.ref a), some (.int (n : Int)), some (.ref t), some (.int (0 + (i : Int))), u5, u6, u7, u8, none, none, none] ∧ Kq b Pt H Hk ∧ BoxOk Hk b bc ∧ GxR.TabG Hk Pt) ⟨_, _, _, _, rfl, kqi, bxi, tgi⟩ ?_ ?_⟩
      · rintro j σ Hk hj ⟨u5, u6, u7, u8, rfl, kqk, bxk, tgk⟩
        have htk := kqk.ints bx tg ht
        have nak := kqk.net bx tg na
        -- one = _law_any(box, count)
        refine ⟨_, rfl, _, rfl, _, _, _, rfl, (by fail "bx"), (by fail "om"), (by fail "om"), fun d1 H1 kp1 bx1 => ?_⟩
        -- other = _law_any(box, count)
        refine ⟨_, rfl, _, rfl, _, _, _, rfl, (by fail "bx"), (by fail "om"), (by fail "om"), fun d2 H2 kp2 bx2 => ?_⟩
        have ht2 := kp2.get bx1 (kp1.get bxk htk nb_ints) nb_ints
        -- due = _law_due(way, count, table, one, other)
        refine ⟨_, rfl, _, rfl, _, rfl, _, rfl, _, rfl, _, _, _, _, _, _, _, rfl, (by fail "om"), (by fail "om"), (by fail "hp"), (by assumption), (by assumption), fun l3 u3 H3 du3 sm3 nu3 hu3 => ?_⟩
        have tg1 := tabG_kp tgk kp1 bxk
        have tg2 := tabG_kp tg1 kp2 bx1
        have tg3 := tabG_same sm3 tg2
        have na3 := NetAt.same sm3 (NetAt.kp kp2 bx1 (NetAt.kp kp1 bxk nak))
        -- if not _law_refused(_law_refusal(way, net, one, other), due):
        refine ⟨_, rfl, _, rfl, _, rfl, _, rfl, _, _, _, _, _, _, rfl, (by fail "om"), (by fail "om"), (by fail "na"), (by assumption), fun l5 t5 H5 du5 sp5 tp5 nt5 ht5 => ?_⟩
        obtain rfl : l3 = l5 := du3.fn du5
        have hu5 := ((Rn.mk0 tg3).go sp5 tp5).tup hu3
        have fw5 := du3.few
        refine ⟨_, rfl, _, _, _, rfl, (by fail "hp"), (by fail "hp"), (by assumption), ⟨_, rfl, ?_⟩⟩
        fail "ite"
        exact ⟨_, _, _, _, rfl, (((kqk.trans (Kq.of kp1)).trans (Kq.of kp2)).trans (Kq.ofS sm3)).trans (Kq.of1 sp5), Sp1.box sp5 tg3 (BoxOk.same sm3 bx2), tp5⟩
      · rintro σ Hk ⟨u5, u6, u7, u8, rfl, kqk, bxk, tgk⟩
        exact ⟨_, _, _, _, _, rfl, kqk, bxk, tgk⟩
    · rintro σ Hq ⟨u4, u5, u6, u7, u8, rfl, kqq, bxq, tgq⟩
      have htq := kqq.ints bx tg ht
      have naq := kqq.net bx tg na
      -- apart = _law_pairs(count, table, 0)
      refine ⟨_, rfl, _, rfl, _, _, _, _, _, rfl, (by fail "om"), (by fail "hp"), (by assumption), fun p6 as6 H6 sm6 np6 hp6 pt6 => ?_⟩
      -- for k in range(count):
      refine ⟨_, rfl, _, rfl, (by fail "om"), (by fail "om"), for_range (fun i σ Hk => ∃ (bs : List Addr) (qs : List (Int × Int)) (u10 : Option V), σ = [some (.ref b), some (.ref a), some (.int (n : Int)), some (.ref t), u4, u5, u6, u7, u8, some (.ref p6), u10, none] ∧ Same Hq Hk ∧ Hk p6 = some (.lst (bs.map V.ref)) ∧ PrT Hk bs (prs R 0 (every n) (every n) ++ qs) ∧ bs.length = as6.length + i) ⟨as6, [], _, rfl, sm6, hp6, by rw [List.append_nil]; exact pt6, rfl⟩ ?_ ?_⟩
      · rintro i σ Hk hi ⟨bs, qs, u10, rfl, smk, hpk, ptk, lk⟩
        have l6 : as6.length ≤ 576 := by rw [pt6.1]; exact prs_576 R 0 (by rw [every_len]; exact n2)
        -- apart.append((k, k))
        refine ⟨_, rfl, .inl ⟨rfl, _, SqL.of (by fail "hp")⟩, _, rfl, _, rfl, (by fail "sz"), fun p7 np7 => ⟨_, _, _, rfl, rfl, (by fail "hp"), (by fail "szl"), ?_⟩⟩
        refine ⟨bs ++ [p7], qs ++ [((0 : Int) + (i : Int), (0 : Int) + (i : Int))], _, rfl, Same.mut (Same.new smk np7) np6, by rw [upd_same, snocR], ?_, by rw [List.length_append, lk]; rfl⟩
        rw [← List.append_assoc]
        exact PrT.snoc (PrT.mono ptk (Tk.lst (Tk.new Tk.refl np7) (upd_new hpk np7))) (by rw [upd_ne (ne_of_none hpk np7).symm]; exact upd_same)
      · rintro σ Hr ⟨bs, qs, u10, rfl, smr, hpr, ptr, lr⟩
        have l6 : as6.length ≤ 576 := by rw [pt6.1]; exact prs_576 R 0 (by rw [every_len]; exact n2)
        have bxr := BoxOk.same smr bxq
        have tgr := tabG_same smr tgq
        have htr := smr _ _ htq
        have nar := NetAt.same smr naq
        -- for turn in range(2):
        refine ⟨_, rfl, (by fail "om"), (by fail "om"), for_range (fun i σ Hk => ∃ (w5 w8 w11 : Option V), σ = [some (.ref b), some (.ref a), some (.int (n : Int)), some (.ref t), u4, w5, u6, u7, w8, some (.ref p6), u10, w11] ∧ Kq b Pt Hr Hk ∧ BoxOk Hk b bc ∧ GxR.TabG Hk Pt) ⟨_, _, _, rfl, Kq.refl, bxr, tgr⟩ ?_ ?_⟩
        · rintro i σ Hk hi ⟨w5, w8, w11, rfl, kqk, bxk, tgk⟩
          have htk := kqk.ints bxr tgr htr
          have nak := kqk.net bxr tgr nar
          have hpk := kqk.refs bxr tgr hpr
          have ll := ptr.1
          -- pair = apart[_law_draw(box, len(apart))]
          refine ⟨_, rfl, _, rfl, _, rfl, _, _, rfl, .inl (SqL.of (by fail "hp")), _, _, _, rfl, (by fail "bx"), (by fail "om"), (by fail "om"), fun d8 H8 da8 db8 kp8 bx8 => ⟨_, _, _, _, rfl, rfl, SqL.of (by fail "hp"), (by fail "ix"), ?_⟩⟩
          have dlt : d8.toNat < (prs R 0 (every n) (every n) ++ qs).length := by
            rw [← ptr.1]
            simp only [List.length_map] at db8
            omega
          obtain ⟨a1, x1, y1, ea, ep, hta0⟩ := ptr.at dlt
          have eg : bs.getD d8.toNat 0 = a1 := by rw [List.getD_eq_getElem?_getD, ea]; rfl
          rw [eg]
          have hta8 := (Kp.tk kp8 bxk) _ _ ((kqk.tk bxr tgr) _ _ hta0)
          have ht8 := kp8.get bxk htk nb_ints
          -- due = _law_due(2, count, table, pair[0], pair[1])
          refine ⟨_, rfl, _, rfl, _, rfl, _, _, _, _, rfl, rfl, SqT.of (by fail "hp"), (by fail "ix"), _, rfl, _, _, _, _, rfl, rfl, SqT.of (by fail "hp"), (by fail "ix"), _, _, _, _, _, _, _, rfl, (by fail "om"), (by fail "om"), (by fail "hp"), (by assumption), (by assumption), fun l9 u9 H9 du9 sm9 nu9 hu9 => ?_⟩
          have tg8 := tabG_kp tgk kp8 bxk
          have tg9 := tabG_same sm9 tg8
          have na9 := NetAt.same sm9 (NetAt.kp kp8 bxk nak)
          have hta9 := sm9 _ _ hta8
          -- if not _law_refused(_law_refusal(2, net, pair[0], pair[1]), due):
          refine ⟨_, rfl, _, rfl, _, _, _, _, rfl, rfl, SqT.of (by fail "hp"), (by fail "ix"), _, rfl, _, _, _, _, rfl, rfl, SqT.of (by fail "hp"), (by fail "ix"), _, _, _, _, _, _, rfl, (by fail "om"), (by fail "om"), (by fail "na"), (by assumption), fun l11 t11 H11 du11 sp11 tp11 nt11 ht11 => ?_⟩
          obtain rfl : l9 = l11 := du9.fn du11
          have hu11 := ((Rn.mk0 tg9).go sp11 tp11).tup hu9
          have fw11 := du9.few
          refine ⟨_, rfl, _, _, _, rfl, (by fail "hp"), (by fail "hp"), (by assumption), ⟨_, rfl, ?_⟩⟩
          fail "ite"
          exact ⟨_, _, _, rfl, ((kqk.trans (Kq.of kp8)).trans (Kq.ofS sm9)).trans (Kq.of1 sp11), Sp1.box sp11 tg9 (BoxOk.same sm9 bx8), tp11⟩
        · rintro σ Hk ⟨w5, w8, w11, rfl, kqk, bxk, tgk⟩
          -- return True
          exact k _ ((kqq.trans (Kq.ofS smr)).trans kqk) bxk tgk
abbrev sNetIs : Stmt := top 49
theorem scNetIs : FnScope ["box", "net", "count", "table"] ["box", "net", "count", "table"] (defScope sNetIs) := ⟨rfl, rfl, rfl, by decide +kernel, rfl, by decide +kernel, by decide +kernel⟩
theorem ok_NetIs (D : Df K mg "_law_net_is" sNetIs ["box", "net", "count", "table"]) (T : LTx K mg CN CI CU CT CL CS mc mu) (GIsTree2 : C8.Cal P w K mg base 2 "_law_is_tree" spIsTree2 []) (GPathsAre : C8.Cal P w K mg base 15 "_law_paths_are" (spPathsAre CN Pt) []) (GSidesAre : C8.Cal P w K mg base 14 "_law_sides_are" (spSidesAre CN Pt) []) (GRefusalsAre : C8.Cal P w K mg base 17 "_law_refusals_are" (spRefusalsAre CN Pt) []) : C8.Cal P w K mg base 18 "_law_net_is" (spNetIs CN Pt) [] := by
  obtain ⟨f, fd, F, hm, hb⟩ := D
  refine ⟨f, fd, ["box", "net", "count", "table"], [], F.ok scNetIs (fun vs H Q E h => ?_) (fun cdv A outer s H vs Q E hr h => ?_), hm, F.kp, hb, .nil⟩
  · obtain ⟨b, bc, a, t, n, M, R, rfl, bx, na, ht, tb, tg, k⟩ := h
    rfl
  · obtain ⟨b, bc, a, t, n, M, R, rfl, bx, na, ht, tb, tg, k⟩ := h
    have n1 := na.b1
    have n2 := na.b2
    have ir := na.ir
    refine ⟨_, (pss_cons (ps_if (pt_val (C8.pe_c GIsTree2 hr (by decide) (by rfl) (pa_cons (pv 2) (pa_cons (pv 3) pa_nil))))
        (pss_cons (ps_if (pt_not (pt_val (C8.pe_c GPathsAre hr (by decide) (by rfl) (pa_cons (pv 0) (pa_cons (pv 1) (pa_cons (pv 2) (pa_cons (pv 3) pa_nil)))))))
          (pss_one (ps_ret pe_bl))
          pss_nil)
        (pss_one (ps_if (pt_not (pt_val (C8.pe_c GSidesAre hr (by decide) (by rfl) (pa_cons (pv 0) (pa_cons (pv 1) (pa_cons (pv 2) (pa_cons (pv 3) pa_nil)))))))
          (pss_one (ps_ret pe_bl))
          pss_nil)))
        pss_nil)
      (pss_one (ps_ret (C8.pe_c GRefusalsAre hr (by decide) (by rfl) (pa_cons (pv 0) (pa_cons (pv 1) (pa_cons (pv 2) (pa_cons (pv 3) pa_nil)))))))), ?_⟩
    -- if _law_is_tree(count, table):
    refine ⟨_, rfl, _, rfl, _, _, _, _, rfl, (by fail "om"), (by fail "om"), (by fail "hp"), (by assumption), (by assumption), fun b1 H1 sm1 tl1 => ⟨_, rfl, ?_⟩⟩
    refine ifB (fun g2 => ?_) (fun g2 => ?_)
    · have tr := tl1.mp g2
      have tg1 := tabG_same sm1 tg
      have bx1 := BoxOk.same sm1 bx
      have na1 := NetAt.same sm1 na
      have ht1 := sm1 _ _ ht
      -- if not _law_paths_are(box, net, count, table):
      refine ⟨_, rfl, _, rfl, _, rfl, _, rfl, _, _, _, _, _, _, _, rfl, (by fail "bx"), (by fail "na"), (by fail "hp"), (by assumption), (by assumption), (by assumption), fun H3 kq3 bx3 tp3 => ⟨_, rfl, ?_⟩⟩
      fail "ite"
      have na3 := kq3.net bx1 tg1 na1
      have ht3 := kq3.ints bx1 tg1 ht1
      -- if not _law_sides_are(box, net, count, table):
      refine ⟨_, rfl, _, rfl, _, rfl, _, rfl, _, _, _, _, _, _, _, rfl, (by fail "bx"), (by assumption), (by fail "hp"), (by assumption), (by assumption), (by assumption), fun H4 kq4 bx4 tp4 => ⟨_, rfl, ?_⟩⟩
      fail "ite"
      have na4 := kq4.net bx3 tp3 na3
      have ht4 := kq4.ints bx3 tp3 ht3
      -- return _law_refusals_are(box, net, count, table)
      refine ⟨_, rfl, _, rfl, _, rfl, _, rfl, _, _, _, _, _, _, _, rfl, (by fail "bx"), (by assumption), (by fail "hp"), (by assumption), (by assumption), fun H5 kq5 bx5 tp5 => ?_⟩
      exact k _ (((Kq.ofS sm1).trans kq3).trans (kq4.trans kq5)) bx5 tp5
    · have tg1 := tabG_same sm1 tg
      have bx1 := BoxOk.same sm1 bx
      have na1 := NetAt.same sm1 na
      have ht1 := sm1 _ _ ht
      -- return _law_refusals_are(box, net, count, table)
      refine ⟨_, rfl, _, rfl, _, rfl, _, rfl, _, _, _, _, _, _, _, rfl, (by fail "bx"), (by assumption), (by fail "hp"), (by assumption), (by assumption), fun H6 kq6 bx6 tp6 => ?_⟩
      exact k _ ((Kq.ofS sm1).trans kq6) bx6 tp6
end
end K02

end
section
set_option Elab.async false
set_option linter.all false
set_option maxRecDepth 100000
set_option maxHeartbeats 4000000
namespace K02
open PySem L2 Kit KR KX KI RM
local macro_rules | `(tactic| fail "om") => `(tactic| first | omega | (simp only [List.length_map, List.length_append, List.length_cons, List.length_nil]; omega) | (simp only [List.length_map, List.length_append, List.length_cons, List.length_nil] at *; omega) | assumption | decide | (simp only [List.length_take, List.length_drop]; omega) | (rw [every_len]; omega) | fail "no om")
local macro_rules | `(tactic| fail "nz") => `(tactic| first | decide | omega | fail "no nz")
local macro_rules | `(tactic| fail "dv") => `(tactic| exact ⟨by first | decide | omega, by first | decide | omega⟩)
local macro_rules | `(tactic| fail "mul") => `(tactic| first | exact .inr ⟨by decide, by decide⟩ | exact .inl ⟨by decide, by decide⟩ | exact mulF (by decide) (by decide) | exact .inl ⟨by omega, by omega⟩ | exact .inr ⟨by omega, by omega⟩ | fail "no mul")
local macro_rules | `(tactic| fail "sz") => `(tactic| first | assumption | exact Nat.zero_le _ | (show 1 ≤ sizeLine; decide) | (show 2 ≤ sizeLine; decide) | (show 3 ≤ sizeLine; decide) | (show 4 ≤ sizeLine; decide) | (show 5 ≤ sizeLine; decide) | exact Evl.sz_of (by omega) | (refine Evl.sz_of ?_; simp only [List.length_append, List.length_map, List.length_cons, List.length_nil]; omega) | (refine Evl.sz_of ?_; simp only [List.length_append, List.length_map, List.length_cons, List.length_nil, List.length_take, List.length_drop]; omega) | fail "no sz")
local macro_rules | `(tactic| fail "szl") => `(tactic| first | exact Evl.sz_lt (by omega) | (refine Evl.sz_lt ?_; simp only [List.length_append, List.length_map, List.length_cons, List.length_nil]; omega) | fail "no szl")
local macro_rules | `(tactic| fail "ix") => `(tactic| first | assumption | exact ix0 | exact ix1 | exact ix2 | exact at_ref (by assumption) (by omega) | exact at_int (by assumption) (by omega) | exact at_drawn (by assumption) (by assumption) | exact at_lit (by first | assumption | omega) (by fail "om") | rfl | fail "no ix")
local macro_rules | `(tactic| fail "ixn") => `(tactic| first | rfl | assumption | fail "no ixn")
local macro_rules | `(tactic| fail "nb") => `(tactic| first | assumption | exact nb_tup | exact nb_nil | exact nb_ints | exact nb_refs | exact nb_ins | exact nb_dT | exact nb_frz | fail "no nb")
local macro_rules | `(tactic| fail "ne") => `(tactic| first | assumption | exact Ne.symm (by assumption) | exact ne_of_none (by assumption) (by assumption) | exact (ne_of_none (by assumption) (by assumption)).symm | exact ne_of (by assumption) (by assumption) (by intro q; cases q) | exact ne_of (by assumption) (by assumption) (by simp) | fail "no ne")
local macro_rules | `(tactic| fail "hp") => `(tactic| first | assumption | exact upd_same | exact lit0 | exact lit1 | exact lit3 | exact lit2 | (refine' Tk.get (by assumption) ?k1; (case k1 => fail "tk")) | (with_reducible refine' upd_new ?h1 ?n1; (case n1 => assumption); (case h1 => fail "hp")) | (refine' Same.get (by assumption) ?h1; (case h1 => fail "hp")) | (refine' Kp.get (by assumption) (by fail "bx") ?h1 ?d1; (case h1 => fail "hp"); (case d1 => fail "nb")) | (with_reducible refine' upd_oth ?h1 ?n1; (case n1 => fail "ne"); (case h1 => fail "hp")) | (with_reducible refine' upd_oth ?h1 ?n1; (case h1 => fail "hp"); (case n1 => fail "ne")) | (refine' Kq.get (by assumption) (by fail "bx") ?h1 ?d1 (by fail "ne"); (case h1 => fail "hp"); (case d1 => fail "nb")) | fail "no hp")
local macro_rules | `(tactic| fail "bx") => `(tactic| first | assumption | (with_reducible refine' BoxOk.new ?h1 ?n1; (case n1 => assumption); (case h1 => fail "bx")) | (refine' BoxOk.same (by assumption) ?h1; (case h1 => fail "bx")) | (with_reducible refine' BoxOk.mut ?h1 ?h2 ?n1; (case n1 => assumption); (case h2 => assumption); (case h1 => fail "bx")) | fail "no bx")
local macro_rules | `(tactic| fail "kp") => `(tactic| first | assumption | exact Kp.refl | (with_reducible refine' Kp.at ?h1; (case h1 => fail "kp")) | (with_reducible refine' Kp.new ?h1 ?n1; (case n1 => assumption); (case h1 => fail "kp")) | (with_reducible refine' Kp.mut ?h1 ?n1; (case n1 => assumption); (case h1 => fail "kp")) | (refine' Kp.tr (by assumption) ?h1; (case h1 => fail "kp")) | (refine' Kp.tr (Kp.of (by assumption)) ?h1; (case h1 => fail "kp")) | (refine' Kq.kp (by assumption) ?h1 (by assumption); (case h1 => fail "kp")) | fail "no kp")
local macro_rules | `(tactic| fail "ite") => `(tactic| first | refine iteT ?_ | refine iteF ?_)
local macro_rules | `(tactic| fail "tt") => `(tactic| first | rfl | exact decide_eq_true (by first | rfl | omega | assumption) | exact decide_eq_true (congrArg V.int (by first | rfl | omega)) | fail "no tt")
local macro_rules | `(tactic| fail "cv") => `(tactic| first | exact .ty _ | exact .own _)
local macro_rules | `(tactic| fail "tx") => `(tactic| first | exact .base (.int _) | exact .base (.bl _) | exact .base .non | exact .base (.lst (by fail "hp")) | exact .base (.tup (by fail "hp")) | fail "no tx")
local macro_rules | `(tactic| fail "dead") => `(tactic| (exfalso; first | omega | contradiction | simp_all))
local macro_rules | `(tactic| fail "dp") => `(tactic| first | exact .tup (SqT.of (by fail "hp")) (.cons (.int _) (.cons (.int _) .nil)) | exact .lst (SqL.of (by fail "hp")) (dpPrs (by fail "pr")) | exact .lst (SqL.of (by fail "hp")) (dpInts _) | exact .lst (SqL.of (by fail "hp")) .nil | fail "no dp")
local macro_rules | `(tactic| fail "shp") => `(tactic| first | assumption | exact prD_shaped _ | exact PySem.W.ke_shaped_ints _ | rfl | fail "no shp")
local macro_rules | `(tactic| fail "pr") => `(tactic| first | assumption | exact PrT.mono (by assumption) (by fail "tk") | fail "no pr")
local macro_rules | `(tactic| fail "tk") => `(tactic| first | assumption | exact Tk.refl | (with_reducible refine' Tk.new ?h1 ?n1; (case n1 => assumption); (case h1 => fail "tk")) | (refine' Tk.tr (Kp.tk (by assumption) (by fail "bx")) ?h1; (case h1 => fail "tk")) | (refine' Tk.tr (Same.tk (by assumption)) ?h1; (case h1 => fail "tk")) | (with_reducible refine' Tk.lst ?h1 ?n1; (case n1 => fail "hp"); (case h1 => fail "tk")) | fail "no tk")
local macro_rules | `(tactic| fail "lk") => `(tactic| first | exact netF_count _ _ | exact netF_links _ _ | exact netF_no _ _ (by decide +kernel) (by decide +kernel) | fail "no lk")
local macro_rules | `(tactic| fail "kt") => `(tactic| first | exact upd_same | assumption | fail "hp")
local macro_rules | `(tactic| fail "na") => `(tactic| first | assumption | (with_reducible refine' NetAt.new ?h1 ?n1; (case n1 => assumption); (case h1 => fail "na")) | (refine' NetAt.same (by assumption) ?h1; (case h1 => fail "na")) | (refine' NetAt.kp (by assumption) (by fail "bx") ?h1; (case h1 => fail "na")) | (with_reducible refine' NetAt.lst ?h1 ?n1; (case n1 => fail "hp"); (case h1 => fail "na")) | fail "no na")
local macro_rules | `(tactic| fail "mono") => `(tactic| first | exact fun _ _ _ _ h q => h _ _ q | exact fun _ _ _ _ h q => (let ⟨v, e, z⟩ := q; ⟨v, e, h _ _ z⟩) | exact fun _ _ _ _ h q => (let ⟨v, e, u, f, z⟩ := q; ⟨v, e, u, f, h _ _ z⟩) | fail "no mono")
local macro_rules | `(tactic| fail "sm") => `(tactic| first | assumption | exact Same.refl _ | (with_reducible refine' Same.new ?h1 ?n1; (case n1 => assumption); (case h1 => fail "sm")) | (refine' Same.tr (by assumption) ?h1; (case h1 => fail "sm")) | fail "no sm")
local macro_rules | `(tactic| fail "fld") => `(tactic| first | (show 0 < 1000; decide) | (show 1 < 1000; decide) | fail "no fld")
local macro_rules | `(tactic| fail "kq") => `(tactic| first | assumption | exact Kq.refl | (with_reducible refine' Kq.at ?h1; (case h1 => fail "kq")) | (with_reducible refine' Kq.new ?h1 ?n1; (case n1 => assumption); (case h1 => fail "kq")) | (refine' Kq.trans ?h1 (by assumption); (case h1 => fail "kq")) | (refine' Kq.trans ?h1 (Kq.of (by assumption)); (case h1 => fail "kq")) | (refine' Kq.trans ?h1 (Kq.ofS (by assumption)); (case h1 => fail "kq")) | fail "no kq")
local macro_rules | `(tactic| fail "mo") => `(tactic| first | assumption | exact MemOk.take (by assumption) _ | exact MemOk.drop (by assumption) _ | exact every_ok _ | fail "no mo")

section
variable {P : Program} {w : World} {K : PySem.W.Frag} {mg : Str → Option Value} {base : Heap} {CN CI CU CL CT CS Pt : Addr} {mc mu : Value}













theorem rel_prs {n : Nat} {R : Rel} (ir : ∀ x y, x < n → y < n → R x y = true → x ≠ y) : ∀ x y, x < n → y < n → relP (prs R 1 (every n) (every n)) false x y = R x y := fun x y hx hy => by
  rw [Bool.eq_iff_iff, relP_iff, mem_prs]
  constructor
  · rintro (⟨_, _, _, h⟩ | h)
    · exact bit_one.mp h
    · exact absurd h.1 Bool.false_ne_true
  · intro r
    have := ir x y hx hy r
    exact .inl ⟨mem_every.mpr ⟨by show (0 : Int) ≤ x; omega, by show (x : Int) < n; omega⟩, mem_every.mpr ⟨by show (0 : Int) ≤ y; omega, by show (y : Int) < n; omega⟩, by show (x : Int) ≠ y; omega, bit_one.mpr r⟩
theorem cut_fromR {as : List Addr} {d : Int} (h : 0 ≤ d) : cutV (as.map V.ref) (some d) none = (as.drop d.toNat).map V.ref := by
  have e : HT.sIx (as.map V.ref).length 0 (some d) = min d.toNat as.length := by
    show (if d < 0 then _ else _) = _
    rw [if_neg (by omega), List.length_map]
  unfold cutV
  rw [e]
  show ((as.map V.ref).drop (min d.toNat as.length)).take ((as.map V.ref).length - min d.toNat as.length) = _
  rw [← List.map_drop, ← List.map_take]
  congr 1
  by_cases q : d.toNat ≤ as.length
  · rw [Nat.min_eq_left q, List.take_of_length_le (by rw [List.length_map, List.length_drop]; omega)]
  · rw [Nat.min_eq_right (by omega), List.drop_of_length_le (Nat.le_refl _), List.drop_of_length_le (by omega), List.take_nil]
theorem cut_toR {as : List Addr} {d : Int} (h : 0 ≤ d) : cutV (as.map V.ref) none (some d) = (as.take d.toNat).map V.ref := by
  have e : HT.sIx (as.map V.ref).length (as.map V.ref).length (some d) = min d.toNat as.length := by
    show (if d < 0 then _ else _) = _
    rw [if_neg (by omega), List.length_map]
  unfold cutV
  rw [e]
  show ((as.map V.ref).drop 0).take (min d.toNat as.length - 0) = _
  have e2 : as.take (min d.toNat as.length) = as.take d.toNat := List.take_eq_take_iff.mpr (by omega)
  rw [List.drop_zero, Nat.sub_zero, ← List.map_take, e2]
theorem mem_rot {α : Type} {xs : List α} {k : Nat} {x : α} : x ∈ xs.drop k ++ xs.take k ↔ x ∈ xs := by
  rw [List.mem_append]
  constructor
  · rintro (h | h)
    · exact List.mem_of_mem_drop h
    · exact List.mem_of_mem_take h
  · intro h
    rw [← List.take_append_drop k xs, List.mem_append] at h
    exact h.symm
theorem rel_rot {n k : Nat} {R : Rel} (ir : ∀ x y, x < n → y < n → R x y = true → x ≠ y) : ∀ x y, x < n → y < n → relP ((prs R 1 (every n) (every n)).drop k ++ (prs R 1 (every n) (every n)).take k) false x y = R x y := fun x y hx hy => by
  rw [← rel_prs ir x y hx hy, Bool.eq_iff_iff, relP_iff, relP_iff, mem_rot, mem_rot]
def spLaw (K : PySem.W.Frag) (Pt : Addr) : Sp := fun vs H Q _ => ∃ (a : Addr) (ns : List Int), vs = [.ref a] ∧ SqL K H a (ns.map V.int) ∧ ns.length ≤ 63 ∧ GxR.TabG H Pt ∧ ∀ H', Q (.bl true) H'
abbrev sLaw : Stmt := top 50
theorem scLaw : FnScope ["script", "box", "count", "twigs", "table", "net", "ties", "at", "bent", "other"] ["script"] (defScope sLaw) := ⟨rfl, rfl, rfl, by decide +kernel, rfl, by decide +kernel, by decide +kernel⟩
theorem fn_Law {f : Addr} {fd : FuncData} (F : L2.Fun K "law" "law" sLaw f fd) (T : LTx K mg CN CI CU CT CL CS mc mu) (GDraw : C8.Cal P w K mg base 1 "_law_draw" spDraw []) (GBox : C8.Cal P w K mg base 1 "_law_box" (spBox K) []) (GStep : C8.Cal P w K mg base 1 "_law_step" spStep []) (GCount : C8.Cal P w K mg base 2 "_law_count" spCount []) (GTwigs : C8.Cal P w K mg base 3 "_law_twigs" spTwigs []) (GTable2 : C8.Cal P w K mg base 1 "_law_table" spTable2 []) (GPairsR : C8.Cal P w K mg base 1 "_law_pairs" spPairsR []) (KNet : MakX P w K mg base 5 "Net" CN (spInit CN CI)) (Nboth_ways : ClmX P w K mg base 7 CN "both_ways" (spBoth CN CI)) (GNetIs : C8.Cal P w K mg base 18 "_law_net_is" (spNetIs CN Pt) []) (GNear2 : C8.Cal P w K mg base 3 "_law_near" spNear2 []) : FnOk P w K mg base CX0 19 f fd ["script"] (spLaw K Pt) := by
  refine F.ok scLaw (fun vs H Q E h => ?_) (fun cdv A outer s H vs Q E hr h => ?_)
  · obtain ⟨a, ns, rfl, hS, lns, tg, kQ⟩ := h
    rfl
  · obtain ⟨a, ns, rfl, hS, lns, tg, kQ⟩ := h
    refine ⟨_, (pss_cons (ps_set (i := 1) scLaw.nd rfl (Or.inl rfl) (C8.pe_c GBox hr (by decide) (by rfl) (pa_cons (pv 0) pa_nil)))
      (pss_cons (ps_expr (C8.pe_c GStep hr (by decide) (by rfl) (pa_cons (pv 1) pa_nil)))
      (pss_cons (ps_set (i := 2) scLaw.nd rfl (Or.inl rfl) (C8.pe_c GCount hr (by decide) (by rfl) (pa_cons (pv 1) pa_nil)))
      (pss_cons (ps_set (i := 3) scLaw.nd rfl (Or.inl rfl) (C8.pe_c GTwigs hr (by decide) (by rfl) (pa_cons (pv 1) (pa_cons (pv 2) pa_nil))))
      (pss_cons (ps_set (i := 4) scLaw.nd rfl (Or.inl rfl) (C8.pe_c GTable2 hr (by decide) (by rfl) (pa_cons (pv 2) (pa_cons (pv 3) pa_nil))))
      (C8.pss_cut (ps_if (pt_cmpR op_eq (C8.pe_c GDraw hr (by decide) (by rfl) (pa_cons (pv 1) (pa_cons pe_int pa_nil))) pe_int (nomark _))
        (pss_one (ps_set (i := 5) scLaw.nd rfl (Or.inl rfl) (pe_clm Nboth_ways hr (by decide) passN (pe_glob (v := .ref CN) rfl T.mgNet rfl) (pa_cons (pv 2) (pa_cons (pe_callTy call_list_of (by rfl) T.list (by decide +kernel) (pa_cons (pv 3) pa_nil)) pa_nil)))))
        (pss_cons (ps_set (i := 6) scLaw.nd rfl (Or.inl rfl) (C8.pe_c GPairsR hr (by decide) (by rfl) (pa_cons (pv 2) (pa_cons (pv 4) (pa_cons pe_int pa_nil)))))
        (pss_cons (ps_set (i := 7) scLaw.nd rfl (Or.inl rfl) (C8.pe_c GDraw hr (by decide) (by rfl) (pa_cons (pv 1) (pa_cons (pe_op op_add (pe_callB call_len_seq (by rfl) T.len (by decide +kernel) (pa_cons (pv 6) pa_nil)) pe_int) pa_nil))))
        (pss_one (ps_set (i := 5) scLaw.nd rfl (Or.inl rfl) (pe_mkX KNet hr (by decide) (by rfl) passN (pa_cons (pv 2) (pa_cons (pe_op op_cat (pe_slice sl_list (pv 6) (po_some (pv 7)) po_none) (pe_slice sl_list (pv 6) po_none (po_some (pv 7)))) pa_nil))))))))
      (pss_cons (ps_expr (C8.pe_c GStep hr (by decide) (by rfl) (pa_cons (pv 1) pa_nil)))
      (pss_cons (ps_if (pt_not (pt_val (C8.pe_c GNetIs hr (by decide) (by rfl) (pa_cons (pv 1) (pa_cons (pv 5) (pa_cons (pv 2) (pa_cons (pv 4) pa_nil)))))))
        (pss_one (ps_ret pe_bl))
        pss_nil)
      (pss_cons (ps_expr (C8.pe_c GStep hr (by decide) (by rfl) (pa_cons (pv 1) pa_nil)))
      (pss_cons (ps_set (i := 8) scLaw.nd rfl (Or.inl rfl) (C8.pe_c GNear2 hr (by decide) (by rfl) (pa_cons (pv 1) (pa_cons (pv 2) (pa_cons (pv 3) pa_nil)))))
      (pss_cons (ps_set (i := 9) scLaw.nd rfl (Or.inl rfl) (pe_mkX KNet hr (by decide) (by rfl) passN (pa_cons (pv 2) (pa_cons (C8.pe_c GPairsR hr (by decide) (by rfl) (pa_cons (pv 2) (pa_cons (pv 8) (pa_cons pe_int pa_nil)))) pa_nil))))
      (pss_cons (ps_expr (C8.pe_c GStep hr (by decide) (by rfl) (pa_cons (pv 1) pa_nil)))
      (pss_cons (ps_if (pt_not (pt_val (C8.pe_c GNetIs hr (by decide) (by rfl) (pa_cons (pv 1) (pa_cons (pv 9) (pa_cons (pv 2) (pa_cons (pv 8) pa_nil)))))))
        (pss_one (ps_ret pe_bl))
        pss_nil)
      (pss_one (ps_ret (C8.pe_c GNetIs hr (by decide) (by rfl) (pa_cons (pv 1) (pa_cons (pv 5) (pa_cons (pv 2) (pa_cons (pv 4) pa_nil)))))))))))))))))))), ?_⟩
    -- box = _law_box(script)
    refine ⟨_, rfl, _, _, rfl, hS, lns, fun b1 bc1 H1 nb1 sm1 bx1 => ?_⟩
    -- _law_step(box)
    refine ⟨_, rfl, _, _, rfl, (by fail "bx"), fun H2 kp2 bx2 => ?_⟩
    -- count = _law_count(box)
    refine ⟨_, rfl, _, _, rfl, (by fail "bx"), fun n3 H3 na3 nb3 kp3 bx3 => ?_⟩
    obtain ⟨n, rfl, c1, c2⟩ : ∃ n : Nat, n3 = n ∧ 1 ≤ n ∧ n ≤ 24 := ⟨n3.toNat, by omega, by omega, by omega⟩
    have tg3 := tabG_kp (tabG_kp (tabG_same sm1 tg) kp2 bx1) kp3 bx2
    -- twigs = _law_twigs(box, count)
    refine ⟨_, rfl, _, rfl, _, _, _, rfl, (by fail "bx"), (by fail "om"), (by fail "om"), fun p4 as4 ps4 H4 gps4 la4 kp4 bx4 np4 hp4 pt4 => ?_⟩
    have tg4 := tabG_kp tg3 kp4 bx3
    -- table = _law_table(count, twigs)
    refine ⟨_, rfl, _, rfl, _, _, _, _, rfl, (by fail "hp"), (by fail "pr"), (by fail "om"), (by assumption), fun t5 M5 H5 nt5 sm5 ht5 tb5 => ?_⟩
    refine ⟨fun σ Hm => ∃ (x : Addr) (v6 v7 : Option V), σ = [some (.ref a), some (.ref b1), some (.int (n : Int)), some (.ref p4), some (.ref t5), some (.ref x), v6, v7, none, none] ∧ BoxOk Hm b1 bc1 ∧ NetAt CN Hm x n (relP ps4 true) ∧ Hm t5 = some (.lst (M5.map V.int)) ∧ Hm p4 = some (.lst (as4.map V.ref)) ∧ PrT Hm as4 ps4 ∧ GxR.TabG Hm Pt, ?_, ?_⟩
    · -- if _law_draw(box, 2) == 0:
      refine ⟨_, rfl, _, _, _, rfl, (by fail "bx"), (by fail "om"), (by fail "om"), fun d6 H6 da6 db6 kp6 bx6 => ⟨rfl, _, rfl, ?_⟩⟩
      refine ifEqI (fun g7 => ?_) (fun g7 => ?_)
      · -- net = Net.both_ways(count, list(twigs))
        refine ⟨rfl, _, rfl, _, rfl, _, _, rfl, .inl (SqL.of (by fail "hp")), fun p9 np9 => ⟨_, _, _, _, rfl, (by fail "hp"), (by fail "pr"), (by fail "om"), fun n8 e8 c8 d8 g8 a8 H8 na8 sm8 nt8 => ?_, (fun z => absurd (show (1 : Int) ≤ (n : Int) ∧ (n : Int) ≤ 24 by omega) z), (fun m e _ _ => by obtain rfl : n = m := (by omega); exact BadP.none gps4)⟩⟩
        have bx5 := BoxOk.same sm5 bx4
        have smC : Same H6 H8 := (Same.new (Same.refl _) np9).trans sm8
        obtain rfl : n = n8 := by omega
        refine ⟨a8, _, _, rfl, BoxOk.same smC bx6, nt8, smC _ _ (kp6.get bx5 ht5 nb_ints), smC _ _ (kp6.get bx5 (sm5 _ _ hp4) nb_refs), PrT.mono pt4 (Tk.tr (Same.tk smC) (Tk.tr (Kp.tk kp6 bx5) (Same.tk sm5))), tabG_same smC (tabG_kp (tabG_same sm5 tg4) kp6 bx5)⟩
      · -- ties = _law_pairs(count, table, 1)
        refine ⟨_, rfl, _, rfl, _, _, _, _, _, rfl, (by fail "om"), (by fail "hp"), (by assumption), fun p10 as10 H10 sm10 np10 hp10 pt10 => ?_⟩
        have l5 : as10.length ≤ 576 := by rw [pt10.1]; exact prs_576 _ 1 (by rw [every_len]; exact c2)
        -- at = _law_draw(box, len(ties) + 1)
        refine ⟨_, rfl, _, rfl, _, _, rfl, .inl (SqL.of (by fail "hp")), _, _, rfl, rfl, _, _, _, rfl, (by fail "bx"), (by fail "om"), (by fail "om"), fun d11 H11 da11 db11 kp11 bx11 => ?_⟩
        have ptl := pt10.1
        -- net = Net(count, ties[at:] + ties[:at])
        refine ⟨_, rfl, _, rfl, _, rfl, _, rfl, _, _, rfl, SqL.of (by fail "hp"), fun p15 np15 => ⟨_, rfl, _, rfl, _, rfl, _, _, rfl, SqL.of (by fail "hp"), fun p14 np14 => ⟨_, _, _, _, rfl, rfl, (by fail "hp"), (by fail "hp"), (by rw [cut_fromR da11, cut_toR da11, List.length_map, List.length_map, List.length_drop, List.length_take]; exact Evl.sz_of (by omega)), fun p13 np13 => fun x12 dx12 nx12 ndx12 nex12 => mk_init1 nx12 ndx12 nex12 (as := as10.drop d11.toNat ++ as10.take d11.toNat) (by rw [upd_same, cut_fromR da11, cut_toR da11, List.map_append]) (PrT.mono ((pt10.drop d11.toNat).append (pt10.take d11.toNat)) (by fail "tk")) (by rw [List.length_append, List.length_drop, List.length_take]; omega) (fun n12 e12 c12 d12 g12 H12 sm12 nt12 => ?_) (fun z => absurd (show (1 : Int) ≤ (n : Int) ∧ (n : Int) ≤ 24 by omega) z) (fun m e _ _ => by obtain rfl : n = m := (by omega); exact BadRow.none (fun q hq => prs_good (every_ok n) q (mem_rot.mp hq)))⟩⟩⟩
        have bx5 := BoxOk.same sm5 bx4
        have smC : Same H6 H10 := sm10
        have bx10 := BoxOk.same smC bx6
        have smN : Same H11 H12 := (Same.new (Same.new (Same.new (Same.refl _) np15) np14) np13).trans sm12
        obtain rfl : n = n12 := by omega
        have irr : ∀ x y, x < n → y < n → relP ps4 true x y = true → x ≠ y := fun x y _ _ h => by
          rcases relP_iff.mp h with m | ⟨_, m⟩
          · have := (gps4 _ m).2.2.2.2
            exact fun z => this (by rw [z])
          · have := (gps4 _ m).2.2.2.2
            exact fun z => this (by rw [z])
        refine ⟨x12, _, _, rfl, BoxOk.same smN bx11, NetAt.congr nt12 (rel_rot (k := d11.toNat) irr), smN _ _ (kp11.get bx10 (smC _ _ (kp6.get bx5 ht5 nb_ints)) nb_ints), smN _ _ (kp11.get bx10 (smC _ _ (kp6.get bx5 (sm5 _ _ hp4) nb_refs)) nb_refs), PrT.mono pt4 (Tk.tr (Same.tk smN) (Tk.tr (Kp.tk kp11 bx10) (Tk.tr (Same.tk smC) (Tk.tr (Kp.tk kp6 bx5) (Same.tk sm5))))), tabG_same smN (tabG_kp (tabG_same smC (tabG_kp (tabG_same sm5 tg4) kp6 bx5)) kp11 bx10)⟩
    · rintro σ Hm ⟨x, v6, v7, rfl, bxm, nam, htm, hpm, ptm, tgm⟩
      -- _law_step(box)
      refine ⟨_, rfl, _, _, rfl, (by fail "bx"), fun H16 kp16 bx16 => ?_⟩
      have tg16 := tabG_kp tgm kp16 bxm
      have na16 := NetAt.kp kp16 bxm nam
      have ht16 := kp16.get bxm htm nb_ints
      -- if not _law_net_is(box, net, count, table):
      refine ⟨_, rfl, _, rfl, _, rfl, _, rfl, _, _, _, _, _, _, _, rfl, (by fail "bx"), (by assumption), (by fail "hp"), (by assumption), (by assumption), fun H17 kq17 bx17 tp17 => ⟨_, rfl, ?_⟩⟩
      fail "ite"
      -- _law_step(box)
      refine ⟨_, rfl, _, _, rfl, (by fail "bx"), fun H18 kp18 bx18 => ?_⟩
      have tg18 := tabG_kp tp17 kp18 bx17
      have q17 : Kq b1 Pt Hm H18 := ((Kq.of kp16).trans kq17).trans (Kq.of kp18)
      have hp18 := q17.refs bxm tgm hpm
      have pt18 := PrT.mono ptm (q17.tk bxm tgm)
      -- bent = _law_near(box, count, twigs)
      refine ⟨_, rfl, _, rfl, _, rfl, _, _, _, _, _, _, rfl, (by fail "bx"), (by fail "om"), (by fail "om"), (by fail "hp"), (by fail "pr"), (by assumption), (by fail "om"), fun t19 M19 H19 tb19 kp19 bx19 nt19 ht19 => ?_⟩
      have tg19 := tabG_kp tg18 kp19 bx18
      obtain ⟨R2, tbx, ir2⟩ := id tb19
      -- other = Net(count, _law_pairs(count, bent, 1))
      refine ⟨_, rfl, _, rfl, _, rfl, _, _, _, _, _, rfl, (by fail "om"), (by fail "hp"), (by assumption), fun p21 as21 H21 sm21 np21 hp21 pt21 => fun x20 dx20 nx20 ndx20 nex20 => mk_init1 nx20 ndx20 nex20 (by fail "hp") (by fail "pr") (by rw [pt21.1]; have := prs_576 R2 1 (ms := every n) (by rw [every_len]; exact c2); omega) (fun n20 e20 c20 d20 g20 H20 sm20 nt20 => ?_) (fun z => absurd (show (1 : Int) ≤ (n : Int) ∧ (n : Int) ≤ 24 by omega) z) (fun m e _ _ => by obtain rfl : n = m := (by omega); exact BadRow.none (fun q hq => prs_good (every_ok n) q hq))⟩
      -- _law_step(box)
      refine ⟨_, rfl, _, _, rfl, (by fail "bx"), fun H22 kp22 bx22 => ?_⟩
      obtain rfl : n = n20 := by omega
      have smB : Same H19 H20 := sm21.trans sm20
      have bx20 := BoxOk.same smB bx19
      have tg20 := tabG_same smB tg19
      have nab : NetAt CN H20 x20 n R2 := NetAt.congr nt20 (rel_prs ir2)
      have htb := smB _ _ ht19
      have tg22 := tabG_kp tg20 kp22 bx20
      have na22 := NetAt.kp kp22 bx20 nab
      have ht22 := kp22.get bx20 htb nb_ints
      -- if not _law_net_is(box, other, count, bent):
      refine ⟨_, rfl, _, rfl, _, rfl, _, rfl, _, _, _, _, _, _, _, rfl, (by fail "bx"), (by assumption), (by fail "hp"), (by assumption), (by assumption), fun H23 kq23 bx23 tp23 => ⟨_, rfl, ?_⟩⟩
      fail "ite"
      have q23 : Kq b1 Pt Hm H23 := (((q17.trans (Kq.of kp19)).trans (Kq.ofS smB)).trans (Kq.of kp22)).trans kq23
      have na23 := q23.net bxm tgm nam
      have ht23 := q23.ints bxm tgm htm
      -- return _law_net_is(box, net, count, table)
      refine ⟨_, rfl, _, rfl, _, rfl, _, rfl, _, _, _, _, _, _, _, rfl, (by fail "bx"), (by assumption), (by fail "hp"), (by assumption), (by assumption), fun H24 kq24 bx24 tp24 => ?_⟩
      exact kQ _
end
end K02

end
section
set_option Elab.async false
set_option linter.all false
set_option maxRecDepth 100000
set_option maxHeartbeats 4000000
namespace K02
open PySem L2 Kit KR KX KI RM
/-- a method, a classmethod, a property, an error, as they stand in the row -/
def DfM (K : PySem.W.Frag) (C : Addr) (m q : Str) (st : Stmt) (ps : List Str) : Prop := ∃ (f : Addr) (fd : FuncData), L2.Fun K m q st f fd ∧ Meth K C m f ∧ Binds K fd ps []
def DfC (K : PySem.W.Frag) (C : Addr) (mc : Value) (m q : Str) (st : Stmt) (ps : List Str) : Prop := ∃ (p g : Addr) (fd : FuncData), L2.Fun K m q st g fd ∧ ClX.CMet K C mc m p g ∧ Binds K fd ps []
def DfP (K : PySem.W.Frag) (C : Addr) (m q : Str) (st : Stmt) (ps : List Str) : Prop := ∃ (p g : Addr) (fd : FuncData), L2.Fun K m q st g fd ∧ PropOf K C m p g ∧ Binds K fd ps []
def DfI (K : PySem.W.Frag) (C : Addr) (q : Str) (st : Stmt) (ps : List Str) : Prop := ∃ (f : Addr) (fd : FuncData), L2.Fun K "__init__" q st f fd ∧ Mk K C f ∧ Binds K fd ps []
def DfE (K : PySem.W.Frag) (C : Addr) (q : Str) (st : Stmt) (ps : List Str) : Prop := ∃ (f : Addr) (fd : FuncData), L2.Fun K "__init__" q st f fd ∧ PySem.W.findIn K (.ref C) "__init__" = some (some (.ref f)) ∧ PySem.W.typeIn K (.ref f) = some (.type "function") ∧ Binds K fd ps []
theorem exm_sub {K : PySem.W.Frag} {C S : Addr} (h1 : PySem.W.subIn K (.ref S) (.type "BaseException") = some true) (h2 : PySem.W.isClsIn K S = true) (h3 : PySem.W.typeIn K (.ref S) = some (.type "type")) (h4 : PySem.W.subIn K (.ref C) (.ref S) = some true) : PySem.W.exmOne K (.ref C) (.ref S) = some true := by
  have e1 : (PySem.W.subIn K (.ref S) (.type "BaseException") == some true) = true := by rw [h1] <;> rfl
  have e2 : ((PySem.W.clsIn K S).isSome && PySem.W.typeIn K (.ref S) == some (.type "type")) = true := by
    rw [show (PySem.W.clsIn K S).isSome = true from h2, h3] <;> rfl
  exact (if_pos e1).trans ((if_pos e2).trans h4)
theorem kit_same {K : PySem.W.Frag} {C : Addr} : PySem.W.kitOne K (.ref C) (.ref C) = some true := if_pos (beq_self_eq_true _)
theorem kit_other {K : PySem.W.Frag} {C D : Addr} {b : Bool} (ne : C ≠ D) (h2 : PySem.W.isClsIn K D = true) (h3 : PySem.W.typeIn K (.ref D) = some (.type "type")) (h4 : PySem.W.subIn K (.ref C) (.ref D) = some b) : PySem.W.kitOne K (.ref C) (.ref D) = some b := by
  have e1 : ¬ (Value.ref C == Value.ref D) = true := fun e => ne (Value.ref.inj (eq_of_beq e))
  have e2 : ((PySem.W.clsIn K D).isSome && PySem.W.typeIn K (.ref D) == some (.type "type")) = true := by
    rw [show (PySem.W.clsIn K D).isSome = true from h2, h3] <;> rfl
  exact (if_neg e1).trans ((if_pos e2).trans h4)
theorem kit_value {K : PySem.W.Frag} {C : Addr} (h4 : PySem.W.subIn K (.ref C) (.type "ValueError") = some true) : PySem.W.kitOne K (.ref C) (.type "ValueError") = some true := by
  have e1 : ¬ (Value.ref C == Value.type "ValueError") = true := fun e => nomatch eq_of_beq e
  have e2 : PySem.W.kitMeta "ValueError" = true := by decide +kernel
  show (if (Value.ref C == Value.type "ValueError") = true then some true else if PySem.W.kitMeta "ValueError" = true then PySem.W.subIn K (.ref C) (.type "ValueError") else none) = some true
  rw [if_neg e1, if_pos e2]
  exact h4
/-- an error's class, as the row has it -/
theorem err_mk {K : PySem.W.Frag} {C CS : Addr} {nm q : Str} {N : Addr} {bs : List Value} {sn : List Str} {sub : List Value} {ab : Bool} {col : Option Bool} {dd : Option Addr} {m0 m1 m2 m3 m5 : Option Value}
    (xL : K.lookup C = some (excClassObj nm q C N bs [.ref CS, .type "ValueError", .type "Exception", .type "BaseException", .type "object"] true sn sub ab col dd m0 m1 m2 m3 m5 "ValueError.__new__"))
    (sa : PySem.W.findIn K (.ref C) "__setattr__" = some (some (.builtin "object.__setattr__"))) (ga : PySem.W.findIn K (.ref C) "__getattribute__" = some (some (.builtin "BaseException.__getattribute__"))) (gg : PySem.W.findIn K (.ref C) "__getattr__" = some none)
    (ex : PySem.W.subIn K (.ref C) (.type "BaseException") = some true) (ty : PySem.W.typeIn K (.ref C) = some (.type "type")) (kp : PySem.W.keepIn K (.ref C) = true) (ic : PySem.W.isClsIn K C = true)
    (cc : PySem.W.findIn K (.ref C) "__class__" = some (some (.builtin "object.__class__"))) (cg : PySem.W.specialIn K (.builtin "object.__class__") "__get__" = some (some (.builtin "getset_descriptor.__get__"))) (tk : PySem.W.takesIn K (.builtin "object.__class__") = some true)
    (mo : PySem.W.mroIn K C (.type "object") = some true) (hd : PySem.W.hasDictIn K C = true) : OexC K C ∧ IsX K C :=
  ⟨⟨⟨nm, q, N, bs, _, sn, sub, ab, col, dd, m0, m1, m2, m3, m5, xL, by show PySem.HandSPX.refsVE [.type "ValueError", .type "Exception", .type "BaseException", .type "object"] = true; decide +kernel⟩, sa, ex, ty, kp⟩, ⟨ic, ga, gg, ex, cc, cg, tk, mo, hd⟩⟩
section
variable {K : PySem.W.Frag} {h : Heap} {mg : Str → Option Value} {f g p C : Addr} {oc kV dc pm cd ct mc : Value} {od an : Option Addr} {sl : Array (Option Value)} {rest : List Value}

end
/-- an own error's class without an __init__ -/
structure NtX (K : PySem.W.Frag) (C : Addr) : Prop where
  ei : PySem.W.excIn K C [.type "ValueError", .type "Exception", .type "BaseException", .type "object"] "ValueError.__new__" = true
  kC : PySem.W.keepIn K (.ref C) = true
  sb : PySem.W.subIn K (.ref C) (.type "BaseException") = some true
  ty : PySem.W.typeIn K (.ref C) = some (.type "type")
theorem nt_mk {K : PySem.W.Frag} {C : Addr} (ei : PySem.W.excIn K C [.type "ValueError", .type "Exception", .type "BaseException", .type "object"] "ValueError.__new__" = true)
    (ga : PySem.W.findIn K (.ref C) "__getattribute__" = some (some (.builtin "BaseException.__getattribute__"))) (gg : PySem.W.findIn K (.ref C) "__getattr__" = some none)
    (ex : PySem.W.subIn K (.ref C) (.type "BaseException") = some true) (ty : PySem.W.typeIn K (.ref C) = some (.type "type")) (kp : PySem.W.keepIn K (.ref C) = true) (ic : PySem.W.isClsIn K C = true)
    (cc : PySem.W.findIn K (.ref C) "__class__" = some (some (.builtin "object.__class__"))) (cg : PySem.W.specialIn K (.builtin "object.__class__") "__get__" = some (some (.builtin "getset_descriptor.__get__"))) (tk : PySem.W.takesIn K (.builtin "object.__class__") = some true)
    (mo : PySem.W.mroIn K C (.type "object") = some true) (hd : PySem.W.hasDictIn K C = true) : NtX K C ∧ IsX K C := ⟨⟨ei, kp, ex, ty⟩, ⟨ic, ga, gg, ex, cc, cg, tk, mo, hd⟩⟩
section
variable {K : PySem.W.Frag} {h : Heap} {mg : Str → Option Value} {f g p C : Addr} {oc kV dc pm cd ct mc : Value} {od an : Option Addr} {sl : Array (Option Value)} {rest : List Value}
theorem f_sDraw (X : K.In h) (G : h.Ns mainGlobals mg) (a : PySem.W.nsIn K mainGlobals "_law_draw" = some (some (.ref f))) (l : K.lookup f = some ⟨oc, od, .func (PySem.W.fnOf "_law_draw" "_law_draw" (defArgs sDraw) (defBody sDraw) (defScope sDraw) .none kV dc pm an cd ct), sl⟩) (c : PySem.W.codeIn K cd "_law_draw" = true) (k : PySem.W.keepIn K (.ref f) = true) : Df K mg "_law_draw" sDraw ["box", "many"] :=
  have F := fun_mk (st := sDraw) l c k
  ⟨f, _, F, PySem.W.mg_of X G a, F.binds (ps := ["box", "many"]) fun _ _ _ _ _ _ us hl => match us, hl with | [_, _], _ => rfl⟩
theorem f_sGreat (X : K.In h) (G : h.Ns mainGlobals mg) (a : PySem.W.nsIn K mainGlobals "_law_great" = some (some (.ref f))) (l : K.lookup f = some ⟨oc, od, .func (PySem.W.fnOf "_law_great" "_law_great" (defArgs sGreat) (defBody sGreat) (defScope sGreat) .none kV dc pm an cd ct), sl⟩) (c : PySem.W.codeIn K cd "_law_great" = true) (k : PySem.W.keepIn K (.ref f) = true) : Df K mg "_law_great" sGreat ["box"] :=
  have F := fun_mk (st := sGreat) l c k
  ⟨f, _, F, PySem.W.mg_of X G a, F.binds (ps := ["box"]) fun _ _ _ _ _ _ us hl => match us, hl with | [_], _ => rfl⟩
theorem f_sIsInt (X : K.In h) (G : h.Ns mainGlobals mg) (a : PySem.W.nsIn K mainGlobals "_law_is_int" = some (some (.ref f))) (l : K.lookup f = some ⟨oc, od, .func (PySem.W.fnOf "_law_is_int" "_law_is_int" (defArgs sIsInt) (defBody sIsInt) (defScope sIsInt) .none kV dc pm an cd ct), sl⟩) (c : PySem.W.codeIn K cd "_law_is_int" = true) (k : PySem.W.keepIn K (.ref f) = true) : Df K mg "_law_is_int" sIsInt ["actual"] :=
  have F := fun_mk (st := sIsInt) l c k
  ⟨f, _, F, PySem.W.mg_of X G a, F.binds (ps := ["actual"]) fun _ _ _ _ _ _ us hl => match us, hl with | [_], _ => rfl⟩
theorem f_sStranger (X : K.In h) (G : h.Ns mainGlobals mg) (a : PySem.W.nsIn K mainGlobals "_law_stranger" = some (some (.ref f))) (l : K.lookup f = some ⟨oc, od, .func (PySem.W.fnOf "_law_stranger" "_law_stranger" (defArgs sStranger) (defBody sStranger) (defScope sStranger) .none kV dc pm an cd ct), sl⟩) (c : PySem.W.codeIn K cd "_law_stranger" = true) (k : PySem.W.keepIn K (.ref f) = true) : Df K mg "_law_stranger" sStranger ["box", "count"] :=
  have F := fun_mk (st := sStranger) l c k
  ⟨f, _, F, PySem.W.mg_of X G a, F.binds (ps := ["box", "count"]) fun _ _ _ _ _ _ us hl => match us, hl with | [_, _], _ => rfl⟩
theorem f_sCount (X : K.In h) (G : h.Ns mainGlobals mg) (a : PySem.W.nsIn K mainGlobals "_law_count" = some (some (.ref f))) (l : K.lookup f = some ⟨oc, od, .func (PySem.W.fnOf "_law_count" "_law_count" (defArgs sCount) (defBody sCount) (defScope sCount) .none kV dc pm an cd ct), sl⟩) (c : PySem.W.codeIn K cd "_law_count" = true) (k : PySem.W.keepIn K (.ref f) = true) : Df K mg "_law_count" sCount ["box"] :=
  have F := fun_mk (st := sCount) l c k
  ⟨f, _, F, PySem.W.mg_of X G a, F.binds (ps := ["box"]) fun _ _ _ _ _ _ us hl => match us, hl with | [_], _ => rfl⟩
theorem f_sIntsAre (X : K.In h) (G : h.Ns mainGlobals mg) (a : PySem.W.nsIn K mainGlobals "_law_ints_are" = some (some (.ref f))) (l : K.lookup f = some ⟨oc, od, .func (PySem.W.fnOf "_law_ints_are" "_law_ints_are" (defArgs sIntsAre) (defBody sIntsAre) (defScope sIntsAre) .none kV dc pm an cd ct), sl⟩) (c : PySem.W.codeIn K cd "_law_ints_are" = true) (k : PySem.W.keepIn K (.ref f) = true) : Df K mg "_law_ints_are" sIntsAre ["told", "due"] :=
  have F := fun_mk (st := sIntsAre) l c k
  ⟨f, _, F, PySem.W.mg_of X G a, F.binds (ps := ["told", "due"]) fun _ _ _ _ _ _ us hl => match us, hl with | [_, _], _ => rfl⟩
theorem f_sBox (X : K.In h) (G : h.Ns mainGlobals mg) (a : PySem.W.nsIn K mainGlobals "_law_box" = some (some (.ref f))) (l : K.lookup f = some ⟨oc, od, .func (PySem.W.fnOf "_law_box" "_law_box" (defArgs sBox) (defBody sBox) (defScope sBox) .none kV dc pm an cd ct), sl⟩) (c : PySem.W.codeIn K cd "_law_box" = true) (k : PySem.W.keepIn K (.ref f) = true) : Df K mg "_law_box" sBox ["script"] :=
  have F := fun_mk (st := sBox) l c k
  ⟨f, _, F, PySem.W.mg_of X G a, F.binds (ps := ["script"]) fun _ _ _ _ _ _ us hl => match us, hl with | [_], _ => rfl⟩
theorem f_sStep (X : K.In h) (G : h.Ns mainGlobals mg) (a : PySem.W.nsIn K mainGlobals "_law_step" = some (some (.ref f))) (l : K.lookup f = some ⟨oc, od, .func (PySem.W.fnOf "_law_step" "_law_step" (defArgs sStep) (defBody sStep) (defScope sStep) .none kV dc pm an cd ct), sl⟩) (c : PySem.W.codeIn K cd "_law_step" = true) (k : PySem.W.keepIn K (.ref f) = true) : Df K mg "_law_step" sStep ["box"] :=
  have F := fun_mk (st := sStep) l c k
  ⟨f, _, F, PySem.W.mg_of X G a, F.binds (ps := ["box"]) fun _ _ _ _ _ _ us hl => match us, hl with | [_], _ => rfl⟩
theorem f_sCheckCount (X : K.In h) (G : h.Ns mainGlobals mg) (a : PySem.W.nsIn K mainGlobals "check_count" = some (some (.ref f))) (l : K.lookup f = some ⟨oc, od, .func (PySem.W.fnOf "check_count" "check_count" (defArgs sCheckCount) (defBody sCheckCount) (defScope sCheckCount) .none kV dc pm an cd ct), sl⟩) (c : PySem.W.codeIn K cd "check_count" = true) (k : PySem.W.keepIn K (.ref f) = true) : Df K mg "check_count" sCheckCount ["count"] :=
  have F := fun_mk (st := sCheckCount) l c k
  ⟨f, _, F, PySem.W.mg_of X G a, F.binds (ps := ["count"]) fun _ _ _ _ _ _ us hl => match us, hl with | [_], _ => rfl⟩
theorem f_sCheckPair (X : K.In h) (G : h.Ns mainGlobals mg) (a : PySem.W.nsIn K mainGlobals "check_pair" = some (some (.ref f))) (l : K.lookup f = some ⟨oc, od, .func (PySem.W.fnOf "check_pair" "check_pair" (defArgs sCheckPair) (defBody sCheckPair) (defScope sCheckPair) .none kV dc pm an cd ct), sl⟩) (c : PySem.W.codeIn K cd "check_pair" = true) (k : PySem.W.keepIn K (.ref f) = true) : Df K mg "check_pair" sCheckPair ["count", "link"] :=
  have F := fun_mk (st := sCheckPair) l c k
  ⟨f, _, F, PySem.W.mg_of X G a, F.binds (ps := ["count", "link"]) fun _ _ _ _ _ _ us hl => match us, hl with | [_, _], _ => rfl⟩
theorem f_sCheckReplica (X : K.In h) (G : h.Ns mainGlobals mg) (a : PySem.W.nsIn K mainGlobals "check_replica" = some (some (.ref f))) (l : K.lookup f = some ⟨oc, od, .func (PySem.W.fnOf "check_replica" "check_replica" (defArgs sCheckReplica) (defBody sCheckReplica) (defScope sCheckReplica) .none kV dc pm an cd ct), sl⟩) (c : PySem.W.codeIn K cd "check_replica" = true) (k : PySem.W.keepIn K (.ref f) = true) : Df K mg "check_replica" sCheckReplica ["net", "replica"] :=
  have F := fun_mk (st := sCheckReplica) l c k
  ⟨f, _, F, PySem.W.mg_of X G a, F.binds (ps := ["net", "replica"]) fun _ _ _ _ _ _ us hl => match us, hl with | [_, _], _ => rfl⟩
theorem f_sCheckLink (X : K.In h) (G : h.Ns mainGlobals mg) (a : PySem.W.nsIn K mainGlobals "check_link" = some (some (.ref f))) (l : K.lookup f = some ⟨oc, od, .func (PySem.W.fnOf "check_link" "check_link" (defArgs sCheckLink) (defBody sCheckLink) (defScope sCheckLink) .none kV dc pm an cd ct), sl⟩) (c : PySem.W.codeIn K cd "check_link" = true) (k : PySem.W.keepIn K (.ref f) = true) : Df K mg "check_link" sCheckLink ["net", "source", "reader"] :=
  have F := fun_mk (st := sCheckLink) l c k
  ⟨f, _, F, PySem.W.mg_of X G a, F.binds (ps := ["net", "source", "reader"]) fun _ _ _ _ _ _ us hl => match us, hl with | [_, _, _], _ => rfl⟩
theorem f_sShuffle (X : K.In h) (G : h.Ns mainGlobals mg) (a : PySem.W.nsIn K mainGlobals "_law_shuffle" = some (some (.ref f))) (l : K.lookup f = some ⟨oc, od, .func (PySem.W.fnOf "_law_shuffle" "_law_shuffle" (defArgs sShuffle) (defBody sShuffle) (defScope sShuffle) .none kV dc pm an cd ct), sl⟩) (c : PySem.W.codeIn K cd "_law_shuffle" = true) (k : PySem.W.keepIn K (.ref f) = true) : Df K mg "_law_shuffle" sShuffle ["box", "count"] :=
  have F := fun_mk (st := sShuffle) l c k
  ⟨f, _, F, PySem.W.mg_of X G a, F.binds (ps := ["box", "count"]) fun _ _ _ _ _ _ us hl => match us, hl with | [_, _], _ => rfl⟩
theorem f_sReachWithin (X : K.In h) (G : h.Ns mainGlobals mg) (a : PySem.W.nsIn K mainGlobals "reach_within" = some (some (.ref f))) (l : K.lookup f = some ⟨oc, od, .func (PySem.W.fnOf "reach_within" "reach_within" (defArgs sReachWithin) (defBody sReachWithin) (defScope sReachWithin) .none kV dc pm an cd ct), sl⟩) (c : PySem.W.codeIn K cd "reach_within" = true) (k : PySem.W.keepIn K (.ref f) = true) : Df K mg "reach_within" sReachWithin ["net", "starts", "allowed"] :=
  have F := fun_mk (st := sReachWithin) l c k
  ⟨f, _, F, PySem.W.mg_of X G a, F.binds (ps := ["net", "starts", "allowed"]) fun _ _ _ _ _ _ us hl => match us, hl with | [_, _, _], _ => rfl⟩
theorem f_sReachesAll (X : K.In h) (G : h.Ns mainGlobals mg) (a : PySem.W.nsIn K mainGlobals "reaches_all" = some (some (.ref f))) (l : K.lookup f = some ⟨oc, od, .func (PySem.W.fnOf "reaches_all" "reaches_all" (defArgs sReachesAll) (defBody sReachesAll) (defScope sReachesAll) .none kV dc pm an cd ct), sl⟩) (c : PySem.W.codeIn K cd "reaches_all" = true) (k : PySem.W.keepIn K (.ref f) = true) : Df K mg "reaches_all" sReachesAll ["net"] :=
  have F := fun_mk (st := sReachesAll) l c k
  ⟨f, _, F, PySem.W.mg_of X G a, F.binds (ps := ["net"]) fun _ _ _ _ _ _ us hl => match us, hl with | [_], _ => rfl⟩
theorem f_sIsStrong (X : K.In h) (G : h.Ns mainGlobals mg) (a : PySem.W.nsIn K mainGlobals "is_strong" = some (some (.ref f))) (l : K.lookup f = some ⟨oc, od, .func (PySem.W.fnOf "is_strong" "is_strong" (defArgs sIsStrong) (defBody sIsStrong) (defScope sIsStrong) .none kV dc pm an cd ct), sl⟩) (c : PySem.W.codeIn K cd "is_strong" = true) (k : PySem.W.keepIn K (.ref f) = true) : Df K mg "is_strong" sIsStrong ["net"] :=
  have F := fun_mk (st := sIsStrong) l c k
  ⟨f, _, F, PySem.W.mg_of X G a, F.binds (ps := ["net"]) fun _ _ _ _ _ _ us hl => match us, hl with | [_], _ => rfl⟩
theorem f_sIsTree (X : K.In h) (G : h.Ns mainGlobals mg) (a : PySem.W.nsIn K mainGlobals "is_tree" = some (some (.ref f))) (l : K.lookup f = some ⟨oc, od, .func (PySem.W.fnOf "is_tree" "is_tree" (defArgs sIsTree) (defBody sIsTree) (defScope sIsTree) .none kV dc pm an cd ct), sl⟩) (c : PySem.W.codeIn K cd "is_tree" = true) (k : PySem.W.keepIn K (.ref f) = true) : Df K mg "is_tree" sIsTree ["net"] :=
  have F := fun_mk (st := sIsTree) l c k
  ⟨f, _, F, PySem.W.mg_of X G a, F.binds (ps := ["net"]) fun _ _ _ _ _ _ us hl => match us, hl with | [_], _ => rfl⟩
theorem f_sSteps (X : K.In h) (G : h.Ns mainGlobals mg) (a : PySem.W.nsIn K mainGlobals "steps_toward" = some (some (.ref f))) (l : K.lookup f = some ⟨oc, od, .func (PySem.W.fnOf "steps_toward" "steps_toward" (defArgs sSteps) (defBody sSteps) (defScope sSteps) .none kV dc pm an cd ct), sl⟩) (c : PySem.W.codeIn K cd "steps_toward" = true) (k : PySem.W.keepIn K (.ref f) = true) : Df K mg "steps_toward" sSteps ["net", "last"] :=
  have F := fun_mk (st := sSteps) l c k
  ⟨f, _, F, PySem.W.mg_of X G a, F.binds (ps := ["net", "last"]) fun _ _ _ _ _ _ us hl => match us, hl with | [_, _], _ => rfl⟩
theorem f_sCheckTree (X : K.In h) (G : h.Ns mainGlobals mg) (a : PySem.W.nsIn K mainGlobals "check_tree" = some (some (.ref f))) (l : K.lookup f = some ⟨oc, od, .func (PySem.W.fnOf "check_tree" "check_tree" (defArgs sCheckTree) (defBody sCheckTree) (defScope sCheckTree) .none kV dc pm an cd ct), sl⟩) (c : PySem.W.codeIn K cd "check_tree" = true) (k : PySem.W.keepIn K (.ref f) = true) : Df K mg "check_tree" sCheckTree ["net"] :=
  have F := fun_mk (st := sCheckTree) l c k
  ⟨f, _, F, PySem.W.mg_of X G a, F.binds (ps := ["net"]) fun _ _ _ _ _ _ us hl => match us, hl with | [_], _ => rfl⟩
theorem f_sTreePath (X : K.In h) (G : h.Ns mainGlobals mg) (a : PySem.W.nsIn K mainGlobals "tree_path" = some (some (.ref f))) (l : K.lookup f = some ⟨oc, od, .func (PySem.W.fnOf "tree_path" "tree_path" (defArgs sTreePath) (defBody sTreePath) (defScope sTreePath) .none kV dc pm an cd ct), sl⟩) (c : PySem.W.codeIn K cd "tree_path" = true) (k : PySem.W.keepIn K (.ref f) = true) : Df K mg "tree_path" sTreePath ["net", "first", "last"] :=
  have F := fun_mk (st := sTreePath) l c k
  ⟨f, _, F, PySem.W.mg_of X G a, F.binds (ps := ["net", "first", "last"]) fun _ _ _ _ _ _ us hl => match us, hl with | [_, _, _], _ => rfl⟩
theorem f_sTreeDist (X : K.In h) (G : h.Ns mainGlobals mg) (a : PySem.W.nsIn K mainGlobals "tree_distance" = some (some (.ref f))) (l : K.lookup f = some ⟨oc, od, .func (PySem.W.fnOf "tree_distance" "tree_distance" (defArgs sTreeDist) (defBody sTreeDist) (defScope sTreeDist) .none kV dc pm an cd ct), sl⟩) (c : PySem.W.codeIn K cd "tree_distance" = true) (k : PySem.W.keepIn K (.ref f) = true) : Df K mg "tree_distance" sTreeDist ["net", "first", "last"] :=
  have F := fun_mk (st := sTreeDist) l c k
  ⟨f, _, F, PySem.W.mg_of X G a, F.binds (ps := ["net", "first", "last"]) fun _ _ _ _ _ _ us hl => match us, hl with | [_, _, _], _ => rfl⟩
theorem f_sTreeSide (X : K.In h) (G : h.Ns mainGlobals mg) (a : PySem.W.nsIn K mainGlobals "tree_side" = some (some (.ref f))) (l : K.lookup f = some ⟨oc, od, .func (PySem.W.fnOf "tree_side" "tree_side" (defArgs sTreeSide) (defBody sTreeSide) (defScope sTreeSide) .none kV dc pm an cd ct), sl⟩) (c : PySem.W.codeIn K cd "tree_side" = true) (k : PySem.W.keepIn K (.ref f) = true) : Df K mg "tree_side" sTreeSide ["net", "source", "reader"] :=
  have F := fun_mk (st := sTreeSide) l c k
  ⟨f, _, F, PySem.W.mg_of X G a, F.binds (ps := ["net", "source", "reader"]) fun _ _ _ _ _ _ us hl => match us, hl with | [_, _, _], _ => rfl⟩
theorem f_sTwigs (X : K.In h) (G : h.Ns mainGlobals mg) (a : PySem.W.nsIn K mainGlobals "_law_twigs" = some (some (.ref f))) (l : K.lookup f = some ⟨oc, od, .func (PySem.W.fnOf "_law_twigs" "_law_twigs" (defArgs sTwigs) (defBody sTwigs) (defScope sTwigs) .none kV dc pm an cd ct), sl⟩) (c : PySem.W.codeIn K cd "_law_twigs" = true) (k : PySem.W.keepIn K (.ref f) = true) : Df K mg "_law_twigs" sTwigs ["box", "count"] :=
  have F := fun_mk (st := sTwigs) l c k
  ⟨f, _, F, PySem.W.mg_of X G a, F.binds (ps := ["box", "count"]) fun _ _ _ _ _ _ us hl => match us, hl with | [_, _], _ => rfl⟩
theorem f_sTable2 (X : K.In h) (G : h.Ns mainGlobals mg) (a : PySem.W.nsIn K mainGlobals "_law_table" = some (some (.ref f))) (l : K.lookup f = some ⟨oc, od, .func (PySem.W.fnOf "_law_table" "_law_table" (defArgs sTable2) (defBody sTable2) (defScope sTable2) .none kV dc pm an cd ct), sl⟩) (c : PySem.W.codeIn K cd "_law_table" = true) (k : PySem.W.keepIn K (.ref f) = true) : Df K mg "_law_table" sTable2 ["count", "twigs"] :=
  have F := fun_mk (st := sTable2) l c k
  ⟨f, _, F, PySem.W.mg_of X G a, F.binds (ps := ["count", "twigs"]) fun _ _ _ _ _ _ us hl => match us, hl with | [_, _], _ => rfl⟩
theorem f_sPairsR (X : K.In h) (G : h.Ns mainGlobals mg) (a : PySem.W.nsIn K mainGlobals "_law_pairs" = some (some (.ref f))) (l : K.lookup f = some ⟨oc, od, .func (PySem.W.fnOf "_law_pairs" "_law_pairs" (defArgs sPairsR) (defBody sPairsR) (defScope sPairsR) .none kV dc pm an cd ct), sl⟩) (c : PySem.W.codeIn K cd "_law_pairs" = true) (k : PySem.W.keepIn K (.ref f) = true) : Df K mg "_law_pairs" sPairsR ["count", "table", "there"] :=
  have F := fun_mk (st := sPairsR) l c k
  ⟨f, _, F, PySem.W.mg_of X G a, F.binds (ps := ["count", "table", "there"]) fun _ _ _ _ _ _ us hl => match us, hl with | [_, _, _], _ => rfl⟩
theorem f_sNear2 (X : K.In h) (G : h.Ns mainGlobals mg) (a : PySem.W.nsIn K mainGlobals "_law_near" = some (some (.ref f))) (l : K.lookup f = some ⟨oc, od, .func (PySem.W.fnOf "_law_near" "_law_near" (defArgs sNear2) (defBody sNear2) (defScope sNear2) .none kV dc pm an cd ct), sl⟩) (c : PySem.W.codeIn K cd "_law_near" = true) (k : PySem.W.keepIn K (.ref f) = true) : Df K mg "_law_near" sNear2 ["box", "count", "twigs"] :=
  have F := fun_mk (st := sNear2) l c k
  ⟨f, _, F, PySem.W.mg_of X G a, F.binds (ps := ["box", "count", "twigs"]) fun _ _ _ _ _ _ us hl => match us, hl with | [_, _, _], _ => rfl⟩
theorem f_sFar (X : K.In h) (G : h.Ns mainGlobals mg) (a : PySem.W.nsIn K mainGlobals "_law_far" = some (some (.ref f))) (l : K.lookup f = some ⟨oc, od, .func (PySem.W.fnOf "_law_far" "_law_far" (defArgs sFar) (defBody sFar) (defScope sFar) .none kV dc pm an cd ct), sl⟩) (c : PySem.W.codeIn K cd "_law_far" = true) (k : PySem.W.keepIn K (.ref f) = true) : Df K mg "_law_far" sFar ["count", "table", "first"] :=
  have F := fun_mk (st := sFar) l c k
  ⟨f, _, F, PySem.W.mg_of X G a, F.binds (ps := ["count", "table", "first"]) fun _ _ _ _ _ _ us hl => match us, hl with | [_, _, _], _ => rfl⟩
theorem f_sIsTree2 (X : K.In h) (G : h.Ns mainGlobals mg) (a : PySem.W.nsIn K mainGlobals "_law_is_tree" = some (some (.ref f))) (l : K.lookup f = some ⟨oc, od, .func (PySem.W.fnOf "_law_is_tree" "_law_is_tree" (defArgs sIsTree2) (defBody sIsTree2) (defScope sIsTree2) .none kV dc pm an cd ct), sl⟩) (c : PySem.W.codeIn K cd "_law_is_tree" = true) (k : PySem.W.keepIn K (.ref f) = true) : Df K mg "_law_is_tree" sIsTree2 ["count", "table"] :=
  have F := fun_mk (st := sIsTree2) l c k
  ⟨f, _, F, PySem.W.mg_of X G a, F.binds (ps := ["count", "table"]) fun _ _ _ _ _ _ us hl => match us, hl with | [_, _], _ => rfl⟩
theorem f_sPathIs (X : K.In h) (G : h.Ns mainGlobals mg) (a : PySem.W.nsIn K mainGlobals "_law_path_is" = some (some (.ref f))) (l : K.lookup f = some ⟨oc, od, .func (PySem.W.fnOf "_law_path_is" "_law_path_is" (defArgs sPathIs) (defBody sPathIs) (defScope sPathIs) .none kV dc pm an cd ct), sl⟩) (c : PySem.W.codeIn K cd "_law_path_is" = true) (k : PySem.W.keepIn K (.ref f) = true) : Df K mg "_law_path_is" sPathIs ["told", "count", "table", "first", "last"] :=
  have F := fun_mk (st := sPathIs) l c k
  ⟨f, _, F, PySem.W.mg_of X G a, F.binds (ps := ["told", "count", "table", "first", "last"]) fun _ _ _ _ _ _ us hl => match us, hl with | [_, _, _, _, _], _ => rfl⟩
theorem f_sAsked2 (X : K.In h) (G : h.Ns mainGlobals mg) (a : PySem.W.nsIn K mainGlobals "_law_asked" = some (some (.ref f))) (l : K.lookup f = some ⟨oc, od, .func (PySem.W.fnOf "_law_asked" "_law_asked" (defArgs sAsked2) (defBody sAsked2) (defScope sAsked2) .none kV dc pm an cd ct), sl⟩) (c : PySem.W.codeIn K cd "_law_asked" = true) (k : PySem.W.keepIn K (.ref f) = true) : Df K mg "_law_asked" sAsked2 ["way", "net", "one", "other"] :=
  have F := fun_mk (st := sAsked2) l c k
  ⟨f, _, F, PySem.W.mg_of X G a, F.binds (ps := ["way", "net", "one", "other"]) fun _ _ _ _ _ _ us hl => match us, hl with | [_, _, _, _], _ => rfl⟩
theorem f_sRefusal (X : K.In h) (G : h.Ns mainGlobals mg) (a : PySem.W.nsIn K mainGlobals "_law_refusal" = some (some (.ref f))) (l : K.lookup f = some ⟨oc, od, .func (PySem.W.fnOf "_law_refusal" "_law_refusal" (defArgs sRefusal) (defBody sRefusal) (defScope sRefusal) .none kV dc pm an cd ct), sl⟩) (c : PySem.W.codeIn K cd "_law_refusal" = true) (k : PySem.W.keepIn K (.ref f) = true) : Df K mg "_law_refusal" sRefusal ["way", "net", "one", "other"] :=
  have F := fun_mk (st := sRefusal) l c k
  ⟨f, _, F, PySem.W.mg_of X G a, F.binds (ps := ["way", "net", "one", "other"]) fun _ _ _ _ _ _ us hl => match us, hl with | [_, _, _, _], _ => rfl⟩
theorem f_sRefused2 (X : K.In h) (G : h.Ns mainGlobals mg) (a : PySem.W.nsIn K mainGlobals "_law_refused" = some (some (.ref f))) (l : K.lookup f = some ⟨oc, od, .func (PySem.W.fnOf "_law_refused" "_law_refused" (defArgs sRefused2) (defBody sRefused2) (defScope sRefused2) .none kV dc pm an cd ct), sl⟩) (c : PySem.W.codeIn K cd "_law_refused" = true) (k : PySem.W.keepIn K (.ref f) = true) : Df K mg "_law_refused" sRefused2 ["told", "due"] :=
  have F := fun_mk (st := sRefused2) l c k
  ⟨f, _, F, PySem.W.mg_of X G a, F.binds (ps := ["told", "due"]) fun _ _ _ _ _ _ us hl => match us, hl with | [_, _], _ => rfl⟩
theorem f_sAny (X : K.In h) (G : h.Ns mainGlobals mg) (a : PySem.W.nsIn K mainGlobals "_law_any" = some (some (.ref f))) (l : K.lookup f = some ⟨oc, od, .func (PySem.W.fnOf "_law_any" "_law_any" (defArgs sAny) (defBody sAny) (defScope sAny) .none kV dc pm an cd ct), sl⟩) (c : PySem.W.codeIn K cd "_law_any" = true) (k : PySem.W.keepIn K (.ref f) = true) : Df K mg "_law_any" sAny ["box", "count"] :=
  have F := fun_mk (st := sAny) l c k
  ⟨f, _, F, PySem.W.mg_of X G a, F.binds (ps := ["box", "count"]) fun _ _ _ _ _ _ us hl => match us, hl with | [_, _], _ => rfl⟩
theorem f_sDue (X : K.In h) (G : h.Ns mainGlobals mg) (a : PySem.W.nsIn K mainGlobals "_law_due" = some (some (.ref f))) (l : K.lookup f = some ⟨oc, od, .func (PySem.W.fnOf "_law_due" "_law_due" (defArgs sDue) (defBody sDue) (defScope sDue) .none kV dc pm an cd ct), sl⟩) (c : PySem.W.codeIn K cd "_law_due" = true) (k : PySem.W.keepIn K (.ref f) = true) : Df K mg "_law_due" sDue ["way", "count", "table", "one", "other"] :=
  have F := fun_mk (st := sDue) l c k
  ⟨f, _, F, PySem.W.mg_of X G a, F.binds (ps := ["way", "count", "table", "one", "other"]) fun _ _ _ _ _ _ us hl => match us, hl with | [_, _, _, _, _], _ => rfl⟩
theorem f_sPathsAre (X : K.In h) (G : h.Ns mainGlobals mg) (a : PySem.W.nsIn K mainGlobals "_law_paths_are" = some (some (.ref f))) (l : K.lookup f = some ⟨oc, od, .func (PySem.W.fnOf "_law_paths_are" "_law_paths_are" (defArgs sPathsAre) (defBody sPathsAre) (defScope sPathsAre) .none kV dc pm an cd ct), sl⟩) (c : PySem.W.codeIn K cd "_law_paths_are" = true) (k : PySem.W.keepIn K (.ref f) = true) : Df K mg "_law_paths_are" sPathsAre ["box", "net", "count", "table"] :=
  have F := fun_mk (st := sPathsAre) l c k
  ⟨f, _, F, PySem.W.mg_of X G a, F.binds (ps := ["box", "net", "count", "table"]) fun _ _ _ _ _ _ us hl => match us, hl with | [_, _, _, _], _ => rfl⟩
theorem f_sSidesAre (X : K.In h) (G : h.Ns mainGlobals mg) (a : PySem.W.nsIn K mainGlobals "_law_sides_are" = some (some (.ref f))) (l : K.lookup f = some ⟨oc, od, .func (PySem.W.fnOf "_law_sides_are" "_law_sides_are" (defArgs sSidesAre) (defBody sSidesAre) (defScope sSidesAre) .none kV dc pm an cd ct), sl⟩) (c : PySem.W.codeIn K cd "_law_sides_are" = true) (k : PySem.W.keepIn K (.ref f) = true) : Df K mg "_law_sides_are" sSidesAre ["box", "net", "count", "table"] :=
  have F := fun_mk (st := sSidesAre) l c k
  ⟨f, _, F, PySem.W.mg_of X G a, F.binds (ps := ["box", "net", "count", "table"]) fun _ _ _ _ _ _ us hl => match us, hl with | [_, _, _, _], _ => rfl⟩
theorem f_sRefusalsAre (X : K.In h) (G : h.Ns mainGlobals mg) (a : PySem.W.nsIn K mainGlobals "_law_refusals_are" = some (some (.ref f))) (l : K.lookup f = some ⟨oc, od, .func (PySem.W.fnOf "_law_refusals_are" "_law_refusals_are" (defArgs sRefusalsAre) (defBody sRefusalsAre) (defScope sRefusalsAre) .none kV dc pm an cd ct), sl⟩) (c : PySem.W.codeIn K cd "_law_refusals_are" = true) (k : PySem.W.keepIn K (.ref f) = true) : Df K mg "_law_refusals_are" sRefusalsAre ["box", "net", "count", "table"] :=
  have F := fun_mk (st := sRefusalsAre) l c k
  ⟨f, _, F, PySem.W.mg_of X G a, F.binds (ps := ["box", "net", "count", "table"]) fun _ _ _ _ _ _ us hl => match us, hl with | [_, _, _, _], _ => rfl⟩
theorem f_sNetIs (X : K.In h) (G : h.Ns mainGlobals mg) (a : PySem.W.nsIn K mainGlobals "_law_net_is" = some (some (.ref f))) (l : K.lookup f = some ⟨oc, od, .func (PySem.W.fnOf "_law_net_is" "_law_net_is" (defArgs sNetIs) (defBody sNetIs) (defScope sNetIs) .none kV dc pm an cd ct), sl⟩) (c : PySem.W.codeIn K cd "_law_net_is" = true) (k : PySem.W.keepIn K (.ref f) = true) : Df K mg "_law_net_is" sNetIs ["box", "net", "count", "table"] :=
  have F := fun_mk (st := sNetIs) l c k
  ⟨f, _, F, PySem.W.mg_of X G a, F.binds (ps := ["box", "net", "count", "table"]) fun _ _ _ _ _ _ us hl => match us, hl with | [_, _, _, _], _ => rfl⟩
theorem f_sIsTwoWay {c : Addr} (X : K.In h) (G : h.Ns mainGlobals mg) (a : PySem.W.nsIn K mainGlobals "is_two_way" = some (some (.ref f))) (l : K.lookup f = some ⟨oc, od, .func (PySem.W.fnOf "is_two_way" "is_two_way" (defArgs sIsTwoWay) (defBody sIsTwoWay) (defScope sIsTwoWay) .none kV dc pm an (.ref c) ct), sl⟩) (q : PySem.W.codeIn K (.ref c) "is_two_way" = true) (k : PySem.W.keepIn K (.ref f) = true) : DfT K mg "is_two_way" sIsTwoWay ["net"] c :=
  have F := fun_mk (st := sIsTwoWay) l q k
  ⟨f, _, ⟨⟨oc, kV, dc, pm, ct, od, an, sl, rfl, l, q⟩, k⟩, PySem.W.mg_of X G a, F.binds (ps := ["net"]) fun _ _ _ _ _ _ us hl => match us, hl with | [_], _ => rfl⟩
theorem f_sNetHasLink (a : PySem.W.findIn K (.ref C) "has_link" = some (some (.ref f))) (i : PySem.W.isFn K (.ref f) = true) (l : K.lookup f = some ⟨oc, od, .func (PySem.W.fnOf "has_link" "Net.has_link" (defArgs sNetHasLink) (defBody sNetHasLink) (defScope sNetHasLink) .none kV dc pm an cd ct), sl⟩) (c : PySem.W.codeIn K cd "Net.has_link" = true) (k : PySem.W.keepIn K (.ref f) = true) : DfM K C "has_link" "Net.has_link" sNetHasLink ["self", "source", "reader"] :=
  have F := fun_mk (st := sNetHasLink) l c k
  ⟨f, _, F, ⟨a, i, k⟩, F.binds (ps := ["self", "source", "reader"]) fun _ _ _ _ _ _ us hl => match us, hl with | [_, _, _], _ => rfl⟩
theorem f_sNetReaders (a : PySem.W.findIn K (.ref C) "readers" = some (some (.ref f))) (i : PySem.W.isFn K (.ref f) = true) (l : K.lookup f = some ⟨oc, od, .func (PySem.W.fnOf "readers" "Net.readers" (defArgs sNetReaders) (defBody sNetReaders) (defScope sNetReaders) .none kV dc pm an cd ct), sl⟩) (c : PySem.W.codeIn K cd "Net.readers" = true) (k : PySem.W.keepIn K (.ref f) = true) : DfM K C "readers" "Net.readers" sNetReaders ["self", "source"] :=
  have F := fun_mk (st := sNetReaders) l c k
  ⟨f, _, F, ⟨a, i, k⟩, F.binds (ps := ["self", "source"]) fun _ _ _ _ _ _ us hl => match us, hl with | [_, _], _ => rfl⟩
theorem f_sNetLinks (a : PySem.W.findIn K (.ref C) "links" = some (some (.ref p))) (i : PySem.W.specialIn K (.ref p) "__get__" = some (some (.builtin "property.__get__"))) (e : PySem.W.takesIn K (.ref p) = some true) (r : PySem.W.recIn K p "property" = some (.ref g :: rest)) (l : K.lookup g = some ⟨oc, od, .func (PySem.W.fnOf "links" "Net.links" (defArgs sNetLinks) (defBody sNetLinks) (defScope sNetLinks) .none kV dc pm an cd ct), sl⟩) (c : PySem.W.codeIn K cd "Net.links" = true) (k : PySem.W.keepIn K (.ref g) = true) : DfP K C "links" "Net.links" sNetLinks ["self"] :=
  have F := fun_mk (st := sNetLinks) l c k
  ⟨p, g, _, F, ⟨a, i, e, rest, r⟩, F.binds (ps := ["self"]) fun _ _ _ _ _ _ us hl => match us, hl with | [_], _ => rfl⟩
theorem f_sNetInit (e : PySem.W.makesIn K C = true) (a : PySem.W.findIn K (.ref C) "__init__" = some (some (.ref f))) (i : PySem.W.isFn K (.ref f) = true) (j : PySem.W.keepIn K (.ref C) = true) (l : K.lookup f = some ⟨oc, od, .func (PySem.W.fnOf "__init__" "Net.__init__" (defArgs sNetInit) (defBody sNetInit) (defScope sNetInit) .none kV dc pm an cd ct), sl⟩) (c : PySem.W.codeIn K cd "Net.__init__" = true) (k : PySem.W.keepIn K (.ref f) = true) : DfI K C "Net.__init__" sNetInit ["self", "count", "links"] :=
  have F := fun_mk (st := sNetInit) l c k
  ⟨f, _, F, ⟨e, a, i, j⟩, F.binds (ps := ["self", "count", "links"]) fun _ _ _ _ _ _ us hl => match us, hl with | [_, _, _], _ => rfl⟩
theorem f_sNetBothWays (a : PySem.W.findCls K (.ref C) mc "both_ways" = some (.get (.builtin "classmethod.__get__") (.ref p) .none (.ref C))) (r : PySem.W.recIn K p "classmethod" = some (.ref g :: rest)) (i : PySem.W.fnIn K g = true) (l : K.lookup g = some ⟨oc, od, .func (PySem.W.fnOf "both_ways" "Net.both_ways" (defArgs sNetBothWays) (defBody sNetBothWays) (defScope sNetBothWays) .none kV dc pm an cd ct), sl⟩) (c : PySem.W.codeIn K cd "Net.both_ways" = true) (k : PySem.W.keepIn K (.ref g) = true) : DfC K C mc "both_ways" "Net.both_ways" sNetBothWays ["cls", "count", "pairs"] :=
  have F := fun_mk (st := sNetBothWays) l c k
  ⟨p, g, _, F, ⟨a, ⟨rest, r⟩, i⟩, F.binds (ps := ["cls", "count", "pairs"]) fun _ _ _ _ _ _ us hl => match us, hl with | [_, _, _], _ => rfl⟩
theorem f_sEI (a : PySem.W.findIn K (.ref C) "__init__" = some (some (.ref f))) (i : PySem.W.typeIn K (.ref f) = some (.type "function")) (l : K.lookup f = some ⟨oc, od, .func (PySem.W.fnOf "__init__" "InvalidNet.__init__" (defArgs sEI) (defBody sEI) (defScope sEI) .none kV dc pm an cd ct), sl⟩) (c : PySem.W.codeIn K cd "InvalidNet.__init__" = true) (k : PySem.W.keepIn K (.ref f) = true) : DfE K C "InvalidNet.__init__" sEI ["self", "link"] :=
  have F := fun_mk (st := sEI) l c k
  ⟨f, _, F, a, i, F.binds (ps := ["self", "link"]) fun _ _ _ _ _ _ us hl => match us, hl with | [_, _], _ => rfl⟩
theorem f_sEU (a : PySem.W.findIn K (.ref C) "__init__" = some (some (.ref f))) (i : PySem.W.typeIn K (.ref f) = some (.type "function")) (l : K.lookup f = some ⟨oc, od, .func (PySem.W.fnOf "__init__" "UnknownReplica.__init__" (defArgs sEU) (defBody sEU) (defScope sEU) .none kV dc pm an cd ct), sl⟩) (c : PySem.W.codeIn K cd "UnknownReplica.__init__" = true) (k : PySem.W.keepIn K (.ref f) = true) : DfE K C "UnknownReplica.__init__" sEU ["self", "replica"] :=
  have F := fun_mk (st := sEU) l c k
  ⟨f, _, F, a, i, F.binds (ps := ["self", "replica"]) fun _ _ _ _ _ _ us hl => match us, hl with | [_, _], _ => rfl⟩
theorem f_sEL (a : PySem.W.findIn K (.ref C) "__init__" = some (some (.ref f))) (i : PySem.W.typeIn K (.ref f) = some (.type "function")) (l : K.lookup f = some ⟨oc, od, .func (PySem.W.fnOf "__init__" "NotLinked.__init__" (defArgs sEL) (defBody sEL) (defScope sEL) .none kV dc pm an cd ct), sl⟩) (c : PySem.W.codeIn K cd "NotLinked.__init__" = true) (k : PySem.W.keepIn K (.ref f) = true) : DfE K C "NotLinked.__init__" sEL ["self", "source", "reader"] :=
  have F := fun_mk (st := sEL) l c k
  ⟨f, _, F, a, i, F.binds (ps := ["self", "source", "reader"]) fun _ _ _ _ _ _ us hl => match us, hl with | [_, _, _], _ => rfl⟩
end
theorem all_ok {P : Program} {w : World} {K : PySem.W.Frag} {mg : Str → Option Value} {base : Heap} {CN CI CU CL CT CS c Pt : Addr} {mc mu : Value} (T : LTx K mg CN CI CU CT CL CS mc mu) (noI : PySem.W.findIn K (.ref CI) "link" = some none) (oxI : OexC K CI ∧ IsX K CI) (oxU : OexC K CU ∧ IsX K CU) (oxL : OexC K CL ∧ IsX K CL) (ntT : NtX K CT ∧ IsX K CT) (TB : GxR.TabB base mg c Pt)
    (dDraw : Df K mg "_law_draw" sDraw ["box", "many"])
    (dGreat : Df K mg "_law_great" sGreat ["box"])
    (dIsInt : Df K mg "_law_is_int" sIsInt ["actual"])
    (dStranger : Df K mg "_law_stranger" sStranger ["box", "count"])
    (dCount : Df K mg "_law_count" sCount ["box"])
    (dIntsAre : Df K mg "_law_ints_are" sIntsAre ["told", "due"])
    (dBox : Df K mg "_law_box" sBox ["script"])
    (dStep : Df K mg "_law_step" sStep ["box"])
    (dCheckCount : Df K mg "check_count" sCheckCount ["count"])
    (dCheckPair : Df K mg "check_pair" sCheckPair ["count", "link"])
    (dCheckReplica : Df K mg "check_replica" sCheckReplica ["net", "replica"])
    (dCheckLink : Df K mg "check_link" sCheckLink ["net", "source", "reader"])
    (dShuffle : Df K mg "_law_shuffle" sShuffle ["box", "count"])
    (dReachWithin : Df K mg "reach_within" sReachWithin ["net", "starts", "allowed"])
    (dReachesAll : Df K mg "reaches_all" sReachesAll ["net"])
    (dIsStrong : Df K mg "is_strong" sIsStrong ["net"])
    (dIsTree : Df K mg "is_tree" sIsTree ["net"])
    (dSteps : Df K mg "steps_toward" sSteps ["net", "last"])
    (dCheckTree : Df K mg "check_tree" sCheckTree ["net"])
    (dTreePath : Df K mg "tree_path" sTreePath ["net", "first", "last"])
    (dTreeDist : Df K mg "tree_distance" sTreeDist ["net", "first", "last"])
    (dTreeSide : Df K mg "tree_side" sTreeSide ["net", "source", "reader"])
    (dTwigs : Df K mg "_law_twigs" sTwigs ["box", "count"])
    (dTable2 : Df K mg "_law_table" sTable2 ["count", "twigs"])
    (dPairsR : Df K mg "_law_pairs" sPairsR ["count", "table", "there"])
    (dNear2 : Df K mg "_law_near" sNear2 ["box", "count", "twigs"])
    (dFar : Df K mg "_law_far" sFar ["count", "table", "first"])
    (dIsTree2 : Df K mg "_law_is_tree" sIsTree2 ["count", "table"])
    (dPathIs : Df K mg "_law_path_is" sPathIs ["told", "count", "table", "first", "last"])
    (dAsked2 : Df K mg "_law_asked" sAsked2 ["way", "net", "one", "other"])
    (dRefusal : Df K mg "_law_refusal" sRefusal ["way", "net", "one", "other"])
    (dRefused2 : Df K mg "_law_refused" sRefused2 ["told", "due"])
    (dAny : Df K mg "_law_any" sAny ["box", "count"])
    (dDue : Df K mg "_law_due" sDue ["way", "count", "table", "one", "other"])
    (dPathsAre : Df K mg "_law_paths_are" sPathsAre ["box", "net", "count", "table"])
    (dSidesAre : Df K mg "_law_sides_are" sSidesAre ["box", "net", "count", "table"])
    (dRefusalsAre : Df K mg "_law_refusals_are" sRefusalsAre ["box", "net", "count", "table"])
    (dNetIs : Df K mg "_law_net_is" sNetIs ["box", "net", "count", "table"])
    (dIsTwoWay : DfT K mg "is_two_way" sIsTwoWay ["net"] c)
    (mNetHasLink : DfM K CN "has_link" "Net.has_link" sNetHasLink ["self", "source", "reader"])
    (mNetReaders : DfM K CN "readers" "Net.readers" sNetReaders ["self", "source"])
    (mNetLinks : DfP K CN "links" "Net.links" sNetLinks ["self"])
    (mNetInit : DfI K CN "Net.__init__" sNetInit ["self", "count", "links"])
    (mNetBothWays : DfC K CN mc "both_ways" "Net.both_ways" sNetBothWays ["cls", "count", "pairs"])
    (eEI : DfE K CI "InvalidNet.__init__" sEI ["self", "link"])
    (eEU : DfE K CU "UnknownReplica.__init__" sEU ["self", "replica"])
    (eEL : DfE K CL "NotLinked.__init__" sEL ["self", "source", "reader"])
    {f : Addr} {fd : FuncData} (F : L2.Fun K "law" "law" sLaw f fd) : FnOk P w K mg base CX0 19 f fd ["script"] (spLaw K Pt) := by
  have MNotTree : MkN K mg "NotTree" CT := ⟨ntT.1.ei, T.mgNotTree, ntT.1.kC, ntT.1.sb, ntT.1.ty⟩
  have MInvalidNet : Mke P w K mg base 1 "InvalidNet" CI (spErr1 CI "link") := (let ⟨f, fd, F, a, i, b⟩ := eEI; ⟨⟨oxI.1, T.mgInvalidNet, oxI.2⟩, f, fd, _, a, i, ok_EI F oxI.1 noI, b⟩)
  have MUnknownReplica : Mke P w K mg base 1 "UnknownReplica" CU (spErr1 CU "replica") := (let ⟨f, fd, F, a, i, b⟩ := eEU; ⟨⟨oxU.1, T.mgUnknownReplica, oxU.2⟩, f, fd, _, a, i, ok_EU F oxU.1 T.noU, b⟩)
  have MNotLinked : Mke P w K mg base 1 "NotLinked" CL (spErr2 CL "source" "reader") := (let ⟨f, fd, F, a, i, b⟩ := eEL; ⟨⟨oxL.1, T.mgNotLinked, oxL.2⟩, f, fd, _, a, i, ok_EL F oxL.1 T.noL1 T.noL2, b⟩)
  have DH : DfH K CN := (let ⟨f, fd, F, a, b⟩ := mNetHasLink; ⟨f, fd, F, a, b⟩)
  have GDraw : C8.Cal P w K mg base 1 "_law_draw" spDraw [] := ok_Draw dDraw T.toNTx.toTxt
  have GGreat : C8.Cal P w K mg base 2 "_law_great" spGreat [] := ok_Great dGreat T.toNTx.toTxt GDraw
  have GIsInt : C8.Cal P w K mg base 1 "_law_is_int" spIsInt [] := ok_IsInt dIsInt T.toNTx.toTxt
  have GStranger : C8.Cal P w K mg base 3 "_law_stranger" spStranger [] := ok_Stranger dStranger T.toNTx.toTxt GDraw GGreat
  have GCount : C8.Cal P w K mg base 2 "_law_count" spCount [] := ok_Count dCount T.toNTx.toTxt GDraw
  have GIntsAre : C8.Cal P w K mg base 2 "_law_ints_are" spIntsAre [] := ok_IntsAre dIntsAre T.toNTx.toTxt GIsInt
  have GBox : C8.Cal P w K mg base 1 "_law_box" (spBox K) [] := ok_Box dBox T.toNTx.toTxt
  have GStep : C8.Cal P w K mg base 1 "_law_step" spStep [] := ok_Step dStep T.toNTx.toTxt
  have GCheckCount : CalX P w K mg base 3 "check_count" (spCheckCount CI) := ok_CheckCount dCheckCount T.toNTx MInvalidNet
  have GCheckPair : CalX P w K mg base 3 "check_pair" (spCheckPair CI) := ok_CheckPair dCheckPair T.toNTx MInvalidNet
  have GCheckReplica : CalX P w K mg base 3 "check_replica" (spCheckReplica CN CU) := ok_CheckReplica dCheckReplica T.toNTx MUnknownReplica
  have KNetHasLink : C8.Met P w K mg base 1 CN "has_link" (spHas CN) [] := (let ⟨f, fd, F, a, b⟩ := mNetHasLink; ⟨f, fd, _, [], T.cl, a, ok_NetHasLink F T.toNTx, b, .nil⟩)
  have GCheckLink : CalX P w K mg base 3 "check_link" (spCheckLink CN CL) := ok_CheckLink dCheckLink T.toNTx MNotLinked KNetHasLink
  have KNetLinks : PropC P w K mg base 1 CN "links" (spLinks CN) := (let ⟨p, g, fd, F, a, b⟩ := mNetLinks; ⟨p, g, fd, _, T.cl, a, ok_NetLinks F T.toNTx, b⟩)
  have KNetReaders : MetX P w K mg base 5 CN "readers" (spReaders CN CU) := (let ⟨f, fd, F, a, b⟩ := mNetReaders; ⟨f, fd, _, T.cl, a, ok_NetReaders F T.toNTx GCheckReplica, b⟩)
  have KNetInit : MakX P w K mg base 5 "Net" CN (spInit CN CI) := (let ⟨f, fd, F, a, b⟩ := mNetInit; ⟨f, fd, _, a, ok_NetInit F T.toNTx GCheckCount GCheckPair, T.mgNet, b⟩)
  have KNetBothWays : ClmX P w K mg base 7 CN "both_ways" (spBoth CN CI) := (let ⟨p, g, fd, F, a, b⟩ := mNetBothWays; ⟨p, g, fd, _, mc, T.rd, a, ok_NetBothWays F T.toNTx KNetInit, b⟩)
  have GShuffle : C8.Cal P w K mg base 2 "_law_shuffle" spShuffle [] := ok_Shuffle dShuffle T.toNTx.toTxt GDraw
  have GReachWithin : CalX P w K mg base 6 "reach_within" (spReach CN CU) := ok_ReachWithin dReachWithin T.toNTx GCheckReplica KNetReaders
  have GReachesAll : C8.Cal P w K mg base 7 "reaches_all" (spReachesAll CN) [] := ok_ReachesAll dReachesAll T.toNTx GReachWithin
  have GIsStrong : C8.Cal P w K mg base 8 "is_strong" (spStrong CN) [] := ok_IsStrong dIsStrong T.toNTx GReachesAll KNetInit KNetLinks
  have GIsTwoWay : C8.Cal P w K mg base 9 "is_two_way" (spTwoWay CN Pt) [] := ok_IsTwoWay dIsTwoWay T.toNTx T.all TB DH KNetLinks
  have GIsTree : C8.Cal P w K mg base 11 "is_tree" (spIsTree CN Pt) [] := ok_IsTree dIsTree T.toNTx GIsTwoWay GIsStrong KNetLinks
  have GSteps : CalX P w K mg base 6 "steps_toward" (spSteps CN) := ok_Steps dSteps T.toNTx KNetReaders
  have GCheckTree : CalX P w K mg base 12 "check_tree" (spCheckTree CN CT Pt) := ok_CheckTree dCheckTree T.toNTx GIsTree MNotTree
  have GTreePath : CalX P w K mg base 13 "tree_path" (spTreePath CN CU CT Pt) := ok_TreePath dTreePath T.toNTx GCheckTree GCheckReplica GSteps
  have GTreeDist : CalX P w K mg base 14 "tree_distance" (spTreeDist CN CU CT Pt) := ok_TreeDist dTreeDist T.toNTx GTreePath
  have GTreeSide : CalX P w K mg base 13 "tree_side" (spTreeSide CN CL CT Pt) := ok_TreeSide dTreeSide T.toNTx GCheckTree GCheckLink GReachWithin
  have GTwigs : C8.Cal P w K mg base 3 "_law_twigs" spTwigs [] := ok_Twigs dTwigs T.toNTx.toTxt GDraw GShuffle
  have GTable2 : C8.Cal P w K mg base 1 "_law_table" spTable2 [] := ok_Table2 dTable2 T.toNTx.toTxt
  have GPairsR : C8.Cal P w K mg base 1 "_law_pairs" spPairsR [] := ok_PairsR dPairsR T.toNTx.toTxt
  have GNear2 : C8.Cal P w K mg base 3 "_law_near" spNear2 [] := ok_Near2 dNear2 T.toNTx.toTxt GDraw GShuffle GTable2 GPairsR
  have GFar : C8.Cal P w K mg base 1 "_law_far" spFar [] := ok_Far dFar T.toNTx.toTxt
  have GIsTree2 : C8.Cal P w K mg base 2 "_law_is_tree" spIsTree2 [] := ok_IsTree2 dIsTree2 T.toNTx.toTxt GFar GPairsR
  have GPathIs : C8.Cal P w K mg base 2 "_law_path_is" spPathIs [] := ok_PathIs dPathIs T.toNTx.toTxt GIsInt
  have GAsked2 : CalX P w K mg base 15 "_law_asked" (spAsked2 CN CU CL CT Pt) := ok_Asked2 dAsked2 T GTreePath GTreeDist GTreeSide
  have GRefusal : C8.Cal P w K mg base 16 "_law_refusal" (spRefusal CN Pt) [] := ok_Refusal dRefusal T GAsked2
  have GRefused2 : C8.Cal P w K mg base 2 "_law_refused" spRefused2 [] := ok_Refused2 dRefused2 T.toNTx.toTxt GIsInt
  have GAny : C8.Cal P w K mg base 4 "_law_any" spAny [] := ok_Any dAny T.toNTx.toTxt GDraw GStranger
  have GDue : C8.Cal P w K mg base 3 "_law_due" spDue [] := ok_Due dDue T.toNTx.toTxt GIsTree2
  have GPathsAre : C8.Cal P w K mg base 15 "_law_paths_are" (spPathsAre CN Pt) [] := ok_PathsAre dPathsAre T GDraw GFar GPathIs GIsInt GTreePath GTreeDist
  have GSidesAre : C8.Cal P w K mg base 14 "_law_sides_are" (spSidesAre CN Pt) [] := ok_SidesAre dSidesAre T GDraw GFar GPairsR GIntsAre GTreeSide
  have GRefusalsAre : C8.Cal P w K mg base 17 "_law_refusals_are" (spRefusalsAre CN Pt) [] := ok_RefusalsAre dRefusalsAre T GDraw GPairsR GAny GDue GRefusal GRefused2
  have GNetIs : C8.Cal P w K mg base 18 "_law_net_is" (spNetIs CN Pt) [] := ok_NetIs dNetIs T GIsTree2 GPathsAre GSidesAre GRefusalsAre
  exact fn_Law F T GDraw GBox GStep GCount GTwigs GTable2 GPairsR KNetInit KNetBothWays GNetIs GNear2
/-- the law, as it stands in the row, with the table of is_two_way's code -/
def AtT (P : Program) (w : World) (K : PySem.W.Frag) (mg : Str → Option Value) (fa c Pt : Addr) : Prop := ∃ fd : FuncData, (∀ (s : Shared) (v : Value), BindsTo s fd ⟨[v], []⟩ [("script", v)]) ∧ ∀ base : Heap, K.In base → base.Ns mainGlobals mg → GxR.TabB base mg c Pt → FnOk P w K mg base CX0 19 fa fd ["script"] (spLaw K Pt)
theorem all_mk {P : Program} {w : World} {K : PySem.W.Frag} {h : Heap} {mg : Str → Option Value} {fa f CN CI CU CT CL CS c Pt : Addr} {mc oc kV dc pm cd ct : Value} {tk : Tok} {od an : Option Addr} {sl : Array (Option Value)} (X : K.In h) (G : h.Ns mainGlobals mg)
    (fa_ : mg "law" = some (.ref fa))
    (aN : PySem.W.nsIn K mainGlobals "Net" = some (some (.ref CN)))
    (aI : PySem.W.nsIn K mainGlobals "InvalidNet" = some (some (.ref CI)))
    (aU : PySem.W.nsIn K mainGlobals "UnknownReplica" = some (some (.ref CU)))
    (aL : PySem.W.nsIn K mainGlobals "NotLinked" = some (some (.ref CL)))
    (aT : PySem.W.nsIn K mainGlobals "NotTree" = some (some (.ref CT)))
    (aS : PySem.W.nsIn K mainGlobals "StoreError" = some (some (.ref CS)))
    (zV : PySem.W.nsIn K mainGlobals "ValueError" = some none)
    (zAll : PySem.W.nsIn K mainGlobals "all" = some none)
    (z_len : PySem.W.nsIn K mainGlobals "len" = some none)
    (z_int : PySem.W.nsIn K mainGlobals "int" = some none)
    (z_bool : PySem.W.nsIn K mainGlobals "bool" = some none)
    (z_list : PySem.W.nsIn K mainGlobals "list" = some none)
    (z_tuple : PySem.W.nsIn K mainGlobals "tuple" = some none)
    (z_range : PySem.W.nsIn K mainGlobals "range" = some none)
    (z_isinstance : PySem.W.nsIn K mainGlobals "isinstance" = some none)
    (z_sum : PySem.W.nsIn K mainGlobals "sum" = some none)
    (z_max : PySem.W.nsIn K mainGlobals "max" = some none)
    (z_min : PySem.W.nsIn K mainGlobals "min" = some none)
    (z_set : PySem.W.nsIn K mainGlobals "set" = some none)
    (z_sorted : PySem.W.nsIn K mainGlobals "sorted" = some none)
    (tN : PySem.W.typeIn K (.ref CN) = some mc)
    (pg : PySem.W.plainGet K CN Str.empty = true)
    (hd : PySem.W.hasDictIn K CN = true)
    (po : PySem.W.plainOver K CN = true)
    (sa : PySem.W.findIn K (.ref CN) "__setattr__" = some (some (.builtin "object.__setattr__")))
    (rd : PySem.W.readsIn K CN mc = true)
    (rg : PySem.W.specialIn K (.ref CN) "__getattribute__" = some (some (.builtin "type.__getattribute__")))
    (mo : PySem.W.findCls K (.ref CN) mc "MOST" = some (.val (.int 24 tk)))
    (nc : PySem.W.findIn K (.ref CN) "count" = some none)
    (nl : PySem.W.findIn K (.ref CN) "_links" = some none)
    (noI : PySem.W.findIn K (.ref CI) "link" = some none)
    (noU : PySem.W.findIn K (.ref CU) "replica" = some none)
    (noL1 : PySem.W.findIn K (.ref CL) "source" = some none)
    (noL2 : PySem.W.findIn K (.ref CL) "reader" = some none)
    (sB : PySem.W.subIn K (.ref CS) (.type "BaseException") = some true)
    (sC : PySem.W.isClsIn K CS = true)
    (sT : PySem.W.typeIn K (.ref CS) = some (.type "type"))
    (sTS : PySem.W.subIn K (.ref CT) (.ref CS) = some true)
    (sTV : PySem.W.subIn K (.ref CT) (.type "ValueError") = some true)
    (sUS : PySem.W.subIn K (.ref CU) (.ref CS) = some true)
    (sUV : PySem.W.subIn K (.ref CU) (.type "ValueError") = some true)
    (sLS : PySem.W.subIn K (.ref CL) (.ref CS) = some true)
    (sLV : PySem.W.subIn K (.ref CL) (.type "ValueError") = some true)
    (sTU : PySem.W.subIn K (.ref CT) (.ref CU) = some false)
    (nTU : CT ≠ CU)
    (sTL : PySem.W.subIn K (.ref CT) (.ref CL) = some false)
    (nTL : CT ≠ CL)
    (sUT : PySem.W.subIn K (.ref CU) (.ref CT) = some false)
    (nUT : CU ≠ CT)
    (sUL : PySem.W.subIn K (.ref CU) (.ref CL) = some false)
    (nUL : CU ≠ CL)
    (sLT : PySem.W.subIn K (.ref CL) (.ref CT) = some false)
    (nLT : CL ≠ CT)
    (sLU : PySem.W.subIn K (.ref CL) (.ref CU) = some false)
    (nLU : CL ≠ CU)
    (oxI : OexC K CI ∧ IsX K CI) (oxU : OexC K CU ∧ IsX K CU) (oxL : OexC K CL ∧ IsX K CL) (ntT : NtX K CT ∧ IsX K CT)
    (dDraw : Df K mg "_law_draw" sDraw ["box", "many"])
    (dGreat : Df K mg "_law_great" sGreat ["box"])
    (dIsInt : Df K mg "_law_is_int" sIsInt ["actual"])
    (dStranger : Df K mg "_law_stranger" sStranger ["box", "count"])
    (dCount : Df K mg "_law_count" sCount ["box"])
    (dIntsAre : Df K mg "_law_ints_are" sIntsAre ["told", "due"])
    (dBox : Df K mg "_law_box" sBox ["script"])
    (dStep : Df K mg "_law_step" sStep ["box"])
    (dCheckCount : Df K mg "check_count" sCheckCount ["count"])
    (dCheckPair : Df K mg "check_pair" sCheckPair ["count", "link"])
    (dCheckReplica : Df K mg "check_replica" sCheckReplica ["net", "replica"])
    (dCheckLink : Df K mg "check_link" sCheckLink ["net", "source", "reader"])
    (dShuffle : Df K mg "_law_shuffle" sShuffle ["box", "count"])
    (dReachWithin : Df K mg "reach_within" sReachWithin ["net", "starts", "allowed"])
    (dReachesAll : Df K mg "reaches_all" sReachesAll ["net"])
    (dIsStrong : Df K mg "is_strong" sIsStrong ["net"])
    (dIsTree : Df K mg "is_tree" sIsTree ["net"])
    (dSteps : Df K mg "steps_toward" sSteps ["net", "last"])
    (dCheckTree : Df K mg "check_tree" sCheckTree ["net"])
    (dTreePath : Df K mg "tree_path" sTreePath ["net", "first", "last"])
    (dTreeDist : Df K mg "tree_distance" sTreeDist ["net", "first", "last"])
    (dTreeSide : Df K mg "tree_side" sTreeSide ["net", "source", "reader"])
    (dTwigs : Df K mg "_law_twigs" sTwigs ["box", "count"])
    (dTable2 : Df K mg "_law_table" sTable2 ["count", "twigs"])
    (dPairsR : Df K mg "_law_pairs" sPairsR ["count", "table", "there"])
    (dNear2 : Df K mg "_law_near" sNear2 ["box", "count", "twigs"])
    (dFar : Df K mg "_law_far" sFar ["count", "table", "first"])
    (dIsTree2 : Df K mg "_law_is_tree" sIsTree2 ["count", "table"])
    (dPathIs : Df K mg "_law_path_is" sPathIs ["told", "count", "table", "first", "last"])
    (dAsked2 : Df K mg "_law_asked" sAsked2 ["way", "net", "one", "other"])
    (dRefusal : Df K mg "_law_refusal" sRefusal ["way", "net", "one", "other"])
    (dRefused2 : Df K mg "_law_refused" sRefused2 ["told", "due"])
    (dAny : Df K mg "_law_any" sAny ["box", "count"])
    (dDue : Df K mg "_law_due" sDue ["way", "count", "table", "one", "other"])
    (dPathsAre : Df K mg "_law_paths_are" sPathsAre ["box", "net", "count", "table"])
    (dSidesAre : Df K mg "_law_sides_are" sSidesAre ["box", "net", "count", "table"])
    (dRefusalsAre : Df K mg "_law_refusals_are" sRefusalsAre ["box", "net", "count", "table"])
    (dNetIs : Df K mg "_law_net_is" sNetIs ["box", "net", "count", "table"])
    (dIsTwoWay : DfT K mg "is_two_way" sIsTwoWay ["net"] c)
    (mNetHasLink : DfM K CN "has_link" "Net.has_link" sNetHasLink ["self", "source", "reader"])
    (mNetReaders : DfM K CN "readers" "Net.readers" sNetReaders ["self", "source"])
    (mNetLinks : DfP K CN "links" "Net.links" sNetLinks ["self"])
    (mNetInit : DfI K CN "Net.__init__" sNetInit ["self", "count", "links"])
    (mNetBothWays : DfC K CN mc "both_ways" "Net.both_ways" sNetBothWays ["cls", "count", "pairs"])
    (eEI : DfE K CI "InvalidNet.__init__" sEI ["self", "link"])
    (eEU : DfE K CU "UnknownReplica.__init__" sEU ["self", "replica"])
    (eEL : DfE K CL "NotLinked.__init__" sEL ["self", "source", "reader"])
    (f_a : PySem.W.nsIn K mainGlobals "law" = some (some (.ref f)))
    (f_l : K.lookup f = some ⟨oc, od, .func (PySem.W.fnOf "law" "law" (defArgs sLaw) (defBody sLaw) (defScope sLaw) .none kV dc pm an cd ct), sl⟩)
    (f_c : PySem.W.codeIn K cd "law" = true)
    (f_k : PySem.W.keepIn K (.ref f) = true) : AtT P w K mg fa c Pt := by
  have e := fa_.symm.trans (PySem.W.mg_of X G f_a)
  cases e
  have T : LTx K mg CN CI CU CT CL CS mc (.int 24 tk) := { len := PySem.W.mg_none_of X G z_len, int := PySem.W.mg_none_of X G z_int, bool := PySem.W.mg_none_of X G z_bool, list := PySem.W.mg_none_of X G z_list, tuple := PySem.W.mg_none_of X G z_tuple, range := PySem.W.mg_none_of X G z_range, isinstance := PySem.W.mg_none_of X G z_isinstance, sum := PySem.W.mg_none_of X G z_sum, max := PySem.W.mg_none_of X G z_max, min := PySem.W.mg_none_of X G z_min, set := PySem.W.mg_none_of X G z_set, sorted := PySem.W.mg_none_of X G z_sorted, cl := ⟨pg, hd, po, sa⟩, rd := ⟨rd, rg⟩, most := ⟨mo, ⟨_, rfl⟩⟩, n_count := nc, n__links := nl, mgNet := PySem.W.mg_of X G aN, all := PySem.W.mg_none_of X G zAll, mgInvalidNet := PySem.W.mg_of X G aI, mgUnknownReplica := PySem.W.mg_of X G aU, mgNotTree := PySem.W.mg_of X G aT, mgStoreError := PySem.W.mg_of X G aS, mgNotLinked := PySem.W.mg_of X G aL, mgV := PySem.W.mg_none_of X G zV, isT := ntT.2, isU := oxU.2, isL := oxL.2, xT := exm_sub sB sC sT sTS, xU := exm_sub sB sC sT sUS, xL := exm_sub sB sC sT sLS, kTT := kit_same, kTU := kit_other nTU oxU.2.cl oxU.1.tyC sTU, kTL := kit_other nTL oxL.2.cl oxL.1.tyC sTL, kUT := kit_other nUT ntT.2.cl ntT.1.ty sUT, kUU := kit_same, kUL := kit_other nUL oxL.2.cl oxL.1.tyC sUL, kLT := kit_other nLT ntT.2.cl ntT.1.ty sLT, kLU := kit_other nLU oxU.2.cl oxU.1.tyC sLU, kLL := kit_same, kTV := kit_value sTV, kUV := kit_value sUV, kLV := kit_value sLV, noU := noU, noL1 := noL1, noL2 := noL2 }
  exact ⟨PySem.W.fnOf "law" "law" (defArgs sLaw) (defBody sLaw) (defScope sLaw) .none kV dc pm an cd ct, fun s v => .of_eq rfl, fun base _ _ TB => all_ok T noI oxI oxU oxL ntT TB dDraw dGreat dIsInt dStranger dCount dIntsAre dBox dStep dCheckCount dCheckPair dCheckReplica dCheckLink dShuffle dReachWithin dReachesAll dIsStrong dIsTree dSteps dCheckTree dTreePath dTreeDist dTreeSide dTwigs dTable2 dPairsR dNear2 dFar dIsTree2 dPathIs dAsked2 dRefusal dRefused2 dAny dDue dPathsAre dSidesAre dRefusalsAre dNetIs dIsTwoWay mNetHasLink mNetReaders mNetLinks mNetInit mNetBothWays eEI eEU eEL (fun_mk (st := sLaw) f_l f_c f_k)⟩
theorem tab_mk {K : PySem.W.Frag} {x : Str} {f c P : Addr} {oc cc : Value} {od dd : Option Addr} {sl ss : Array (Option Value)} {fd : FuncData} {vs : Array Value} (a : PySem.W.nsIn K mainGlobals x = some (some (.ref f))) (l : K.lookup f = some ⟨oc, od, .func fd, sl⟩) (e : fd.code = .ref c) (m : K.lookup c = some ⟨cc, dd, .fields vs, ss⟩) (v : (vs[11]? : Option Value) = some (.ref P)) : PySem.W.tabIn K x = some (c, P) := by
  unfold PySem.W.tabIn
  simp only [a, l, e, m, v]
theorem walk {l : PySem.W.OpenLaw} {q : Program} {loose : List Str} {XP : (Str → Option Value) → Heap → Prop} {YP : World → Heap → Prop} {d : DefRec} {K : Params → PySem.W.Frag} {c Pt : Addr} (hn : l.most = some 63) (hdf : d.params.defaults = []) (hY : ∀ (w : World) (h : Heap), YP w h → (K w.params).In h)
    (hd2 : ((PyProof.Rows.recsOf q).find? (fun e => e.name == ("is_two_way" : Str))).isSome = true) (hti : ∀ w : World, PySem.W.tabIn (K w.params) "is_two_way" = some (c, Pt)) (hnl : ∀ w : World, (K w.params).lookup Pt = none)
    (F : ∀ (w : World) (mg : Str → Option Value) (fa : Addr) (h : Heap), (K w.params).In h → h.Ns mainGlobals mg → mg d.name = some (.ref fa) → AtT l.prog w (K w.params) mg fa c Pt) :
    PySem.W.WalkO q loose XP YP l.row.toRowW d [] (fun f vs => PySem.call f vs) := by
  refine Att.attach_callB hn hdf fun w s0 s1 mg mb fa o pm cd doc a vs ns G Y ho hd hcd hmg hob hin hlen hbits hg => ?_
  have KX := hY w _ Y
  obtain ⟨fd, hb, hF⟩ := F w mg fa _ KX G.T.g hmg
  obtain ⟨d2, hd2⟩ := Option.isSome_iff_exists.mp hd2
  obtain ⟨hc, ht⟩ := PySem.W.tab_of G.T KX hd2 (hti w)
  have one : ∀ {A : Addr × Addr → Prop}, A (c, Pt) → ∀ p ∈ [(c, Pt)], A p := fun h p hp => by rw [List.mem_singleton.mp hp]; exact h
  exact LamX.law_callTs (CX := CX0) (k := 19) (sp := spLaw (K w.params) Pt) (cs := [(c, Pt)]) KX G.T.g G.T.b G.T.builtins G.T.nolimit hg (one ht) (one (hnl w)) (one hc) G.T.bmain hob hin (Nat.le_trans hlen (by decide)) ⟨rfl, by decide, by decide⟩
    (fun base X1 X2 tb => hF base X1 X2 (let t := tb _ (List.mem_singleton.mpr rfl); ⟨t.code, t.bm, t.gP⟩)) hb (fun H hH hS => ⟨a, ns, rfl, hS, hlen, ⟨#[], hH _ (List.mem_singleton.mpr rfl), trivial⟩, fun _ => rfl⟩) fun _ _ _ z => z
end K02

end
set_option Elab.async false
open PySem PySem.W PyProof.Rows in
set_option maxRecDepth 100000 in
set_option maxHeartbeats 0 in
theorem PySem.Challenge.cw_pullstore_k02_tree_paths_and_sides_holds : PySem.Challenge.rw_pullstore_k02_tree_paths_and_sides.Holds := by
  w_on; o_law; k_head; (case hw => w_witness2)
  k_fill
  refine' K02.walk (l := PySem.Challenge.rw_pullstore_k02_tree_paths_and_sides) rfl rfl (c := ?c) (Pt := ?Pt) (fun w h Y => PySem.W.kIn_of Y) ?hd2 ?hti ?hnl ?F
  case hd2 => kernel_rfl
  case hti =>
    intro w
    refine' K02.tab_mk ?a ?l ?e ?m ?v
    (case a => k_is)
    (case l => k_is)
    (case e => rfl)
    (case m => k_is)
    (case v => rfl)
  case hnl => intro w; first | k_is | rfl | kernel_rfl | decide
  case F =>
    intro w mg fa h KX G hmg
    refine' K02.all_mk KX G hmg ?aN ?aI ?aU ?aL ?aT ?aS ?zV ?zAll ?z_len ?z_int ?z_bool ?z_list ?z_tuple ?z_range ?z_isinstance ?z_sum ?z_max ?z_min ?z_set ?z_sorted ?tN ?pg ?hd ?po ?sa ?rd ?rg ?mo ?nc ?nl ?noI ?noU ?noL1 ?noL2 ?sB ?sC ?sT ?sTS ?sTV ?sUS ?sUV ?sLS ?sLV ?sTU ?nTU ?sTL ?nTL ?sUT ?nUT ?sUL ?nUL ?sLT ?nLT ?sLU ?nLU ?oxI ?oxU ?oxL ?ntT ?dDraw ?dGreat ?dIsInt ?dStranger ?dCount ?dIntsAre ?dBox ?dStep ?dCheckCount ?dCheckPair ?dCheckReplica ?dCheckLink ?dShuffle ?dReachWithin ?dReachesAll ?dIsStrong ?dIsTree ?dSteps ?dCheckTree ?dTreePath ?dTreeDist ?dTreeSide ?dTwigs ?dTable2 ?dPairsR ?dNear2 ?dFar ?dIsTree2 ?dPathIs ?dAsked2 ?dRefusal ?dRefused2 ?dAny ?dDue ?dPathsAre ?dSidesAre ?dRefusalsAre ?dNetIs ?dIsTwoWay ?mNetHasLink ?mNetReaders ?mNetLinks ?mNetInit ?mNetBothWays ?eEI ?eEU ?eEL ?f_a ?f_l ?f_c ?f_k
    (case aN => k_is)
    (case aI => k_is)
    (case aU => k_is)
    (case aL => k_is)
    (case aT => k_is)
    (case aS => k_is)
    (case zV => k_is)
    (case zAll => k_is)
    (case z_len => k_is)
    (case z_int => k_is)
    (case z_bool => k_is)
    (case z_list => k_is)
    (case z_tuple => k_is)
    (case z_range => k_is)
    (case z_isinstance => k_is)
    (case z_sum => k_is)
    (case z_max => k_is)
    (case z_min => k_is)
    (case z_set => k_is)
    (case z_sorted => k_is)
    (case tN => k_is)
    (case pg => k_is)
    (case hd => k_is)
    (case po => k_is)
    (case sa => k_is)
    (case rd => k_is)
    (case rg => k_is)
    (case mo => k_is)
    (case nc => k_is)
    (case nl => k_is)
    (case noI => k_is)
    (case noU => k_is)
    (case noL1 => k_is)
    (case noL2 => k_is)
    (case sB => k_is)
    (case sC => k_is)
    (case sT => k_is)
    (case sTS => k_is)
    (case sTV => k_is)
    (case sUS => k_is)
    (case sUV => k_is)
    (case sLS => k_is)
    (case sLV => k_is)
    (case sTU => k_is)
    (case nTU => decide)
    (case sTL => k_is)
    (case nTL => decide)
    (case sUT => k_is)
    (case nUT => decide)
    (case sUL => k_is)
    (case nUL => decide)
    (case sLT => k_is)
    (case nLT => decide)
    (case sLU => k_is)
    (case nLU => decide)
    (case oxI => refine' K02.err_mk ?yxL ?ysa ?yga ?ygg ?yex ?yty ?ykp ?yic ?ycc ?ycg ?ytk ?ymo ?yhd; (case yxL => k_is); (case ysa => k_is); (case yga => k_is); (case ygg => k_is); (case yex => k_is); (case yty => k_is); (case ykp => k_is); (case yic => k_is); (case ycc => k_is); (case ycg => k_is); (case ytk => k_is); (case ymo => k_is); (case yhd => k_is))
    (case oxU => refine' K02.err_mk ?yxL ?ysa ?yga ?ygg ?yex ?yty ?ykp ?yic ?ycc ?ycg ?ytk ?ymo ?yhd; (case yxL => k_is); (case ysa => k_is); (case yga => k_is); (case ygg => k_is); (case yex => k_is); (case yty => k_is); (case ykp => k_is); (case yic => k_is); (case ycc => k_is); (case ycg => k_is); (case ytk => k_is); (case ymo => k_is); (case yhd => k_is))
    (case oxL => refine' K02.err_mk ?yxL ?ysa ?yga ?ygg ?yex ?yty ?ykp ?yic ?ycc ?ycg ?ytk ?ymo ?yhd; (case yxL => k_is); (case ysa => k_is); (case yga => k_is); (case ygg => k_is); (case yex => k_is); (case yty => k_is); (case ykp => k_is); (case yic => k_is); (case ycc => k_is); (case ycg => k_is); (case ytk => k_is); (case ymo => k_is); (case yhd => k_is))
    (case ntT => refine' K02.nt_mk ?yei ?yga ?ygg ?yex ?yty ?ykp ?yic ?ycc ?ycg ?ytk ?ymo ?yhd; (case yei => k_exc); (case yga => k_is); (case ygg => k_is); (case yex => k_is); (case yty => k_is); (case ykp => k_is); (case yic => k_is); (case ycc => k_is); (case ycg => k_is); (case ytk => k_is); (case ymo => k_is); (case yhd => k_is))
    (case dDraw => refine' K02.f_sDraw KX G ?ya ?yl ?yc ?yk; (case ya => k_is); (case yl => k_is); (case yc => k_is); (case yk => k_is))
    (case dGreat => refine' K02.f_sGreat KX G ?ya ?yl ?yc ?yk; (case ya => k_is); (case yl => k_is); (case yc => k_is); (case yk => k_is))
    (case dIsInt => refine' K02.f_sIsInt KX G ?ya ?yl ?yc ?yk; (case ya => k_is); (case yl => k_is); (case yc => k_is); (case yk => k_is))
    (case dStranger => refine' K02.f_sStranger KX G ?ya ?yl ?yc ?yk; (case ya => k_is); (case yl => k_is); (case yc => k_is); (case yk => k_is))
    (case dCount => refine' K02.f_sCount KX G ?ya ?yl ?yc ?yk; (case ya => k_is); (case yl => k_is); (case yc => k_is); (case yk => k_is))
    (case dIntsAre => refine' K02.f_sIntsAre KX G ?ya ?yl ?yc ?yk; (case ya => k_is); (case yl => k_is); (case yc => k_is); (case yk => k_is))
    (case dBox => refine' K02.f_sBox KX G ?ya ?yl ?yc ?yk; (case ya => k_is); (case yl => k_is); (case yc => k_is); (case yk => k_is))
    (case dStep => refine' K02.f_sStep KX G ?ya ?yl ?yc ?yk; (case ya => k_is); (case yl => k_is); (case yc => k_is); (case yk => k_is))
    (case dCheckCount => refine' K02.f_sCheckCount KX G ?ya ?yl ?yc ?yk; (case ya => k_is); (case yl => k_is); (case yc => k_is); (case yk => k_is))
    (case dCheckPair => refine' K02.f_sCheckPair KX G ?ya ?yl ?yc ?yk; (case ya => k_is); (case yl => k_is); (case yc => k_is); (case yk => k_is))
    (case dCheckReplica => refine' K02.f_sCheckReplica KX G ?ya ?yl ?yc ?yk; (case ya => k_is); (case yl => k_is); (case yc => k_is); (case yk => k_is))
    (case dCheckLink => refine' K02.f_sCheckLink KX G ?ya ?yl ?yc ?yk; (case ya => k_is); (case yl => k_is); (case yc => k_is); (case yk => k_is))
    (case dShuffle => refine' K02.f_sShuffle KX G ?ya ?yl ?yc ?yk; (case ya => k_is); (case yl => k_is); (case yc => k_is); (case yk => k_is))
    (case dReachWithin => refine' K02.f_sReachWithin KX G ?ya ?yl ?yc ?yk; (case ya => k_is); (case yl => k_is); (case yc => k_is); (case yk => k_is))
    (case dReachesAll => refine' K02.f_sReachesAll KX G ?ya ?yl ?yc ?yk; (case ya => k_is); (case yl => k_is); (case yc => k_is); (case yk => k_is))
    (case dIsStrong => refine' K02.f_sIsStrong KX G ?ya ?yl ?yc ?yk; (case ya => k_is); (case yl => k_is); (case yc => k_is); (case yk => k_is))
    (case dIsTree => refine' K02.f_sIsTree KX G ?ya ?yl ?yc ?yk; (case ya => k_is); (case yl => k_is); (case yc => k_is); (case yk => k_is))
    (case dSteps => refine' K02.f_sSteps KX G ?ya ?yl ?yc ?yk; (case ya => k_is); (case yl => k_is); (case yc => k_is); (case yk => k_is))
    (case dCheckTree => refine' K02.f_sCheckTree KX G ?ya ?yl ?yc ?yk; (case ya => k_is); (case yl => k_is); (case yc => k_is); (case yk => k_is))
    (case dTreePath => refine' K02.f_sTreePath KX G ?ya ?yl ?yc ?yk; (case ya => k_is); (case yl => k_is); (case yc => k_is); (case yk => k_is))
    (case dTreeDist => refine' K02.f_sTreeDist KX G ?ya ?yl ?yc ?yk; (case ya => k_is); (case yl => k_is); (case yc => k_is); (case yk => k_is))
    (case dTreeSide => refine' K02.f_sTreeSide KX G ?ya ?yl ?yc ?yk; (case ya => k_is); (case yl => k_is); (case yc => k_is); (case yk => k_is))
    (case dTwigs => refine' K02.f_sTwigs KX G ?ya ?yl ?yc ?yk; (case ya => k_is); (case yl => k_is); (case yc => k_is); (case yk => k_is))
    (case dTable2 => refine' K02.f_sTable2 KX G ?ya ?yl ?yc ?yk; (case ya => k_is); (case yl => k_is); (case yc => k_is); (case yk => k_is))
    (case dPairsR => refine' K02.f_sPairsR KX G ?ya ?yl ?yc ?yk; (case ya => k_is); (case yl => k_is); (case yc => k_is); (case yk => k_is))
    (case dNear2 => refine' K02.f_sNear2 KX G ?ya ?yl ?yc ?yk; (case ya => k_is); (case yl => k_is); (case yc => k_is); (case yk => k_is))
    (case dFar => refine' K02.f_sFar KX G ?ya ?yl ?yc ?yk; (case ya => k_is); (case yl => k_is); (case yc => k_is); (case yk => k_is))
    (case dIsTree2 => refine' K02.f_sIsTree2 KX G ?ya ?yl ?yc ?yk; (case ya => k_is); (case yl => k_is); (case yc => k_is); (case yk => k_is))
    (case dPathIs => refine' K02.f_sPathIs KX G ?ya ?yl ?yc ?yk; (case ya => k_is); (case yl => k_is); (case yc => k_is); (case yk => k_is))
    (case dAsked2 => refine' K02.f_sAsked2 KX G ?ya ?yl ?yc ?yk; (case ya => k_is); (case yl => k_is); (case yc => k_is); (case yk => k_is))
    (case dRefusal => refine' K02.f_sRefusal KX G ?ya ?yl ?yc ?yk; (case ya => k_is); (case yl => k_is); (case yc => k_is); (case yk => k_is))
    (case dRefused2 => refine' K02.f_sRefused2 KX G ?ya ?yl ?yc ?yk; (case ya => k_is); (case yl => k_is); (case yc => k_is); (case yk => k_is))
    (case dAny => refine' K02.f_sAny KX G ?ya ?yl ?yc ?yk; (case ya => k_is); (case yl => k_is); (case yc => k_is); (case yk => k_is))
    (case dDue => refine' K02.f_sDue KX G ?ya ?yl ?yc ?yk; (case ya => k_is); (case yl => k_is); (case yc => k_is); (case yk => k_is))
    (case dPathsAre => refine' K02.f_sPathsAre KX G ?ya ?yl ?yc ?yk; (case ya => k_is); (case yl => k_is); (case yc => k_is); (case yk => k_is))
    (case dSidesAre => refine' K02.f_sSidesAre KX G ?ya ?yl ?yc ?yk; (case ya => k_is); (case yl => k_is); (case yc => k_is); (case yk => k_is))
    (case dRefusalsAre => refine' K02.f_sRefusalsAre KX G ?ya ?yl ?yc ?yk; (case ya => k_is); (case yl => k_is); (case yc => k_is); (case yk => k_is))
    (case dNetIs => refine' K02.f_sNetIs KX G ?ya ?yl ?yc ?yk; (case ya => k_is); (case yl => k_is); (case yc => k_is); (case yk => k_is))
    (case dIsTwoWay => refine' K02.f_sIsTwoWay KX G ?ya ?yl ?yq ?yk; (case ya => k_is); (case yl => k_is); (case yq => k_is); (case yk => k_is))
    (case mNetHasLink => refine' K02.f_sNetHasLink ?ya ?yi ?yl ?yc ?yk; (case ya => k_is); (case yi => k_is); (case yl => k_is); (case yc => k_is); (case yk => k_is))
    (case mNetReaders => refine' K02.f_sNetReaders ?ya ?yi ?yl ?yc ?yk; (case ya => k_is); (case yi => k_is); (case yl => k_is); (case yc => k_is); (case yk => k_is))
    (case mNetLinks => refine' K02.f_sNetLinks ?ya ?yi ?ye ?yr ?yl ?yc ?yk; (case ya => k_is); (case yi => k_is); (case ye => k_is); (case yr => k_is); (case yl => k_is); (case yc => k_is); (case yk => k_is))
    (case mNetInit => refine' K02.f_sNetInit ?ye ?ya ?yi ?yj ?yl ?yc ?yk; (case ye => k_is); (case ya => k_is); (case yi => k_is); (case yj => k_is); (case yl => k_is); (case yc => k_is); (case yk => k_is))
    (case mNetBothWays => refine' K02.f_sNetBothWays ?ya ?yr ?yi ?yl ?yc ?yk; (case ya => k_is); (case yr => k_is); (case yi => k_is); (case yl => k_is); (case yc => k_is); (case yk => k_is))
    (case eEI => refine' K02.f_sEI ?ya ?yi ?yl ?yc ?yk; (case ya => k_is); (case yi => k_is); (case yl => k_is); (case yc => k_is); (case yk => k_is))
    (case eEU => refine' K02.f_sEU ?ya ?yi ?yl ?yc ?yk; (case ya => k_is); (case yi => k_is); (case yl => k_is); (case yc => k_is); (case yk => k_is))
    (case eEL => refine' K02.f_sEL ?ya ?yi ?yl ?yc ?yk; (case ya => k_is); (case yi => k_is); (case yl => k_is); (case yc => k_is); (case yk => k_is))
    (case f_a => k_is)
    (case f_l => k_is)
    (case f_c => k_is)
    (case f_k => k_is)

