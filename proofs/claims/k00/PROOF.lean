import PyProof.Rows.All
import Wide.All
import OpenK.AllK
import Wide.FinOn
import HandS.ForMost
import HandS.WordsExc
import HandS.Sort
import HandS.SortRule
import HandS.ExcInit
import HandS.ExcIs
import HandS.ExcField
import HandS.IsInst
import HandS.Conv
import HandS.Codes
import HandS.ClsMeth
import HandS.Property
import HandS.TupSets
import HandS.DictComp
import HandS.Evl
import KE.KEqSeq
import KE.KExcIs
import HandS.HotCalls
import PySem.Challenge.RW_pullstore_k00_nets_keep_links
section
set_option Elab.async false
set_option linter.all false
set_option maxRecDepth 100000
set_option maxHeartbeats 4000000
namespace KR
open PySem PySem.Spec PyProof.Rows L2
/-- x not in range(..) -/
theorem opNotInRng {X : Cx} : OpR X (compareOp .NotIn) (fun x y H Q => ∃ i a lo hi, x = V.int i ∧ y = V.ref a ∧ H a = some (.rng lo hi) ∧ Q (.bl (!decide (lo ≤ i ∧ i < hi))) H) := by
  intro pins s σ H x y v u Q I rx ry h
  obtain ⟨i, a, lo, hi, rfl, rfl, ha, q⟩ := h
  obtain ⟨k, rfl⟩ := rx
  obtain rfl : u = Value.ref a := ry
  obtain ⟨t1, t2, t3, ho⟩ := I.hok a _ ha
  show wpAny _ _ (do return Value.bool (!(← contains (Value.ref a) (Value.int i k)))) _ _ s
  refine wpAny_bind (wpAny_contains_slot (T := "range") ⟨_, ho, rfl⟩ F.slot_range_contains ?_)
  refine call_meets F.slot_range_contains ⟨_, ho, rfl⟩ F.entry_range_contains (F.args_range_contains_2 _ _) (q_contains a lo hi i t1 t2 t3 k) ⟨ho, ?_⟩
  refine wpAny_truthy_bool (wpAny_pure ⟨.bl _, H, I, rfl, ?_⟩)
  rw [place1]
  exact q
/-- range(n) as a value -/
theorem crRange1 {X : Cx} : CallR X (.type "range") (fun vs H Q => ∃ j, vs = [V.int j] ∧ ∀ p, H p = none → Q (.ref p) (upd H p (.rng 0 j))) := by
  intro pins s σ H vs us Q I r h
  obtain ⟨j, rfl, q⟩ := h
  obtain ⟨u1, rfl, rj⟩ := vals1 r
  obtain ⟨u, rfl⟩ := rj
  have fr := I.hok.fresh (Nat.le_refl s.heap.objs.size)
  refine call_range_1 ⟨V.ref s.heap.objs.size, upd H s.heap.objs.size (.rng 0 j), I.laid (t' := s.toks + 1 + 1) (fun b o e => Heap.get?_push_of_some _ e) (Nat.le_refl _) ?_, rfl, q _ fr⟩
  exact ⟨_, u, _, Heap.get?_push_size _ rfl⟩
end KR
namespace Kit
open PySem L2
theorem ifD {p A B : Prop} [Decidable p] (h1 : p → A) (h2 : ¬ p → B) : if decide p = true then A else B := by
  by_cases h : p
  · rw [decide_eq_true h]; exact h1 h
  · rw [decide_eq_false h, if_neg Bool.false_ne_true]; exact h2 h
theorem ifN {p A B : Prop} [Decidable p] (h1 : p → B) (h2 : ¬ p → A) : if (!decide p) = true then A else B := by
  by_cases h : p
  · rw [decide_eq_true h]; exact h1 h
  · rw [decide_eq_false h]; exact h2 h
theorem ifEqI {i j : Int} {A B : Prop} (h1 : i = j → A) (h2 : i ≠ j → B) : if decide (V.int i = V.int j) = true then A else B :=
  ifD (fun h => h1 (V.int.inj h)) fun h => h2 fun e => h (congrArg V.int e)
theorem ifNeI {i j : Int} {A B : Prop} (h1 : i ≠ j → A) (h2 : i = j → B) : if (!decide (V.int i = V.int j)) = true then A else B :=
  ifN (fun h => h2 (V.int.inj h)) fun h => h1 fun e => h (congrArg V.int e)
theorem ifB {c : Bool} {A B : Prop} (h1 : c = true → A) (h2 : c = false → B) : if c = true then A else B := by
  cases c
  · exact iteF (h2 rfl)
  · exact iteT (h1 rfl)
theorem iteK {c : Bool} {A B : Prop} (h : c = true) (a : A) : if c = true then A else B := by
  rw [if_pos h]
  exact a
theorem iteKF {c : Bool} {A B : Prop} (h : c = false) (b : B) : if c = true then A else B := by
  rw [h]
  exact iteF b
theorem nifD {p A B : Prop} [Decidable p] (h1 : ¬ p → A) (h2 : p → B) : if (!decide p) = true then A else B := ifN h2 h1
theorem nifN {p A B : Prop} [Decidable p] (h1 : p → A) (h2 : ¬ p → B) : if (!(!decide p)) = true then A else B := by
  rw [Bool.not_not]
  exact ifD h1 h2
theorem nifEqI {i j : Int} {A B : Prop} (h1 : i ≠ j → A) (h2 : i = j → B) : if (!decide (V.int i = V.int j)) = true then A else B := ifNeI h1 h2
theorem nifNeI {i j : Int} {A B : Prop} (h1 : i = j → A) (h2 : i ≠ j → B) : if (!(!decide (V.int i = V.int j))) = true then A else B := by
  rw [Bool.not_not]
  exact ifEqI h1 h2
theorem nifB {c : Bool} {A B : Prop} (h1 : c = false → A) (h2 : c = true → B) : if (!c) = true then A else B := by
  cases c
  · exact iteT (h1 rfl)
  · exact iteF (h2 rfl)
theorem fm0 (i : Int) {n : Int} (h : 0 < n) : 0 ≤ i.fmod n := by
  rw [Int.fmod_eq_emod_of_nonneg _ (Int.le_of_lt h)]
  exact Int.emod_nonneg _ (Int.ne_of_gt h)
theorem fm1 (i : Int) {n : Int} (h : 0 < n) : i.fmod n < n := Int.fmod_lt_of_pos i h
theorem mulF {i j n : Int} (h : 0 < n) (h2 : n ≤ 2 ^ 64) : CMul (i.fmod n) j := .inl ⟨Int.lt_of_lt_of_le (by decide) (fm0 i h), Int.lt_of_lt_of_le (fm1 i h) h2⟩
/-- all but what stands at b is kept -/
def Kp (b : Addr) (H H' : Hp) : Prop := ∀ a o, a ≠ b → H a = some o → H' a = some o
theorem Kp.refl {b : Addr} {H : Hp} : Kp b H H := fun _ _ _ h => h
theorem Kp.trans {b : Addr} {H H1 H2 : Hp} (x : Kp b H H1) (y : Kp b H1 H2) : Kp b H H2 := fun a o n h => y a o n (x a o n h)
theorem Kp.tr {b : Addr} {H H1 H2 : Hp} (y : Kp b H1 H2) (x : Kp b H H1) : Kp b H H2 := x.trans y
theorem Kp.of {b : Addr} {H H1 : Hp} (x : Same H H1) : Kp b H H1 := fun a o _ h => x a o h
theorem Kp.new {b p : Addr} {H H1 : Hp} {o : HO} (x : Kp b H H1) (n : H1 p = none) : Kp b H (upd H1 p o) := fun a u m h => by
  have e := x a u m h
  rw [upd_ne (ne_of_none e n)]
  exact e
theorem Kp.at {b : Addr} {H H1 : Hp} {o : HO} (x : Kp b H H1) : Kp b H (upd H1 b o) := fun a u m h => by
  rw [upd_ne m]
  exact x a u m h
theorem Kp.mut {b p : Addr} {H H1 : Hp} {o : HO} (x : Kp b H H1) (n : H p = none) : Kp b H (upd H1 p o) := fun a u m h => by
  rw [upd_ne (ne_of_none h n)]
  exact x a u m h
theorem Kp.fr0 {b p : Addr} {H H1 : Hp} {u : HO} (x : Kp b H H1) (n : H1 p = none) (hb : H1 b = some u) : H p = none := by
  cases e : H p with
  | none => rfl
  | some o =>
    have nb : p ≠ b := fun z => by
      rw [z, hb] at n
      cases n
    rw [x p o nb e] at n
    cases n
theorem Same.tr {H H1 H2 : Hp} (y : Same H1 H2) (x : Same H H1) : Same H H2 := x.trans y
theorem Same.get {H H1 : Hp} {a : Addr} {o : HO} (x : Same H H1) (h : H a = some o) : H1 a = some o := x a o h
theorem Same.new {p : Addr} {H H1 : Hp} {o : HO} (x : Same H H1) (n : H1 p = none) : Same H (upd H1 p o) := fun a u h => by
  have e := x a u h
  rw [upd_ne (ne_of_none e n)]
  exact e
theorem Same.mut {p : Addr} {H H1 : Hp} {o : HO} (x : Same H H1) (n : H p = none) : Same H (upd H1 p o) := fun a u h => by
  rw [upd_ne (ne_of_none h n)]
  exact x a u h
def boxL (c : Addr) (x1 x2 x3 x4 : Int) : List V := [.ref c, .int x1, .int x2, .int x3, .int x4]
/-- the box at b, its cells at c -/
structure BoxOk (H : Hp) (b c : Addr) : Prop where
  ex : ∃ ns x1 x2 x3 x4, H b = some (.lst (boxL c x1 x2 x3 x4)) ∧ H c = some (.lst (List.map V.int ns)) ∧ 0 ≤ x1
/-- what cannot be the box -/
def NB (o : HO) : Prop := ∀ c x1 x2 x3 x4, o ≠ .lst (boxL c x1 x2 x3 x4)
theorem nb_tup {xs : List V} : NB (.tup xs) := fun _ _ _ _ _ q => by cases q
theorem nb_nil : NB (.lst []) := fun _ _ _ _ _ q => by cases q
theorem nb_ints {ns : List Int} : NB (.lst (ns.map V.int)) := fun _ _ _ _ _ q => by
  cases ns with
  | nil => cases q
  | cons n r => cases q
theorem nb_refs {as : List Addr} : NB (.lst (as.map V.ref)) := fun _ _ _ _ _ q => by
  match as with
  | [] => cases q
  | [_] => cases q
  | _ :: _ :: _ => cases q
theorem box_c {H : Hp} {b c d : Addr} {ns : List Int} {x1 x2 x3 x4 : Int} (hb : H b = some (.lst (boxL d x1 x2 x3 x4))) (hc : H c = some (.lst (ns.map V.int))) : c ≠ b := fun z => by
  rw [z, hb] at hc
  exact nb_ints d x1 x2 x3 x4 (Option.some.inj hc).symm
theorem nb_ins {C dx : Addr} {fs : List (Str × V)} : NB (.ins C dx fs) := fun _ _ _ _ _ q => by cases q
theorem nb_dT {kvs : List (List Key × V)} : NB (.dT kvs) := fun _ _ _ _ _ q => by cases q
theorem nb_frz {o : Obj} {u : HO} : NB (.frz o u) := fun _ _ _ _ _ q => by cases q
theorem BoxOk.ne {H : Hp} {a b c : Addr} {o : HO} (x : BoxOk H b c) (h : H a = some o) (d : NB o) : a ≠ b := fun z => by
  obtain ⟨ns, x1, x2, x3, x4, hb, _⟩ := x
  rw [z, hb] at h
  exact d c x1 x2 x3 x4 (Option.some.inj h).symm
theorem BoxOk.new {H : Hp} {b c p : Addr} {o : HO} (x : BoxOk H b c) (n : H p = none) : BoxOk (upd H p o) b c := by
  obtain ⟨ns, x1, x2, x3, x4, hb, hc, r⟩ := x
  exact ⟨ns, x1, x2, x3, x4, by rw [upd_ne (ne_of_none hb n)]; exact hb, by rw [upd_ne (ne_of_none hc n)]; exact hc, r⟩
theorem BoxOk.same {H H' : Hp} {b c : Addr} (s : Same H H') (x : BoxOk H b c) : BoxOk H' b c := by
  obtain ⟨ns, x1, x2, x3, x4, hb, hc, r⟩ := x
  exact ⟨ns, x1, x2, x3, x4, s _ _ hb, s _ _ hc, r⟩
/-- a list is changed that stood not at H0 -/
theorem BoxOk.mut {H0 H : Hp} {b c p : Addr} {o : HO} (x : BoxOk H b c) (x0 : BoxOk H0 b c) (n : H0 p = none) : BoxOk (upd H p o) b c := by
  obtain ⟨ns, x1, x2, x3, x4, hb, hc, r⟩ := x
  obtain ⟨ms, y1, y2, y3, y4, kb, kc, _⟩ := x0
  exact ⟨ns, x1, x2, x3, x4, by rw [upd_ne (ne_of_none kb n)]; exact hb, by rw [upd_ne (ne_of_none kc n)]; exact hc, r⟩
theorem BoxOk.there {H : Hp} {b c : Addr} (x : BoxOk H b c) : ∃ u, H b = some u := by
  obtain ⟨ns, x1, x2, x3, x4, hb, _⟩ := x
  exact ⟨_, hb⟩
theorem Kp.get {b c a : Addr} {H H' : Hp} {o : HO} (k : Kp b H H') (x : BoxOk H b c) (h : H a = some o) (d : NB o) : H' a = some o := k a o (x.ne h d) h
theorem Kp.free {b c p : Addr} {H H' : Hp} (k : Kp b H H') (x : BoxOk H' b c) (n : H' p = none) : H p = none := by
  obtain ⟨u, hu⟩ := x.there
  exact k.fr0 n hu
theorem cut_all {ns : List Int} {n : Int} (h : (ns.length : Int) ≤ n) : cutV (ns.map V.int) none (some n) = ns.map V.int := by
  have e : HT.sIx (ns.map V.int).length (ns.map V.int).length (some n) = (ns.map V.int).length := by
    show (HT.sIx _ _ _) = _
    simp only [HT.sIx, List.length_map]
    first
      | omega
      | (split <;> omega)
      | simp; omega
  unfold cutV
  rw [e]
  show ((ns.map V.int).drop 0).take ((ns.map V.int).length - 0) = _
  rw [List.drop_zero, Nat.sub_zero, List.take_length]
theorem dpInts {K : PySem.W.Frag} {H : Hp} : ∀ ns : List Int, DpAll K H (ns.map V.int) (ns.map PyData.int)
  | [] => .nil
  | n :: r => .cons (.int n) (dpInts r)
def prD (p : Int × Int) : PyData := .tuple [.int p.1, .int p.2]
theorem prD_lay : ∀ ps : List (Int × Int), PyData.canLayAll0 (ps.map prD) = true
  | [] => rfl
  | p :: r => by
    show (PyData.canLay0 (prD p) && PyData.canLayAll0 (r.map prD)) = true
    rw [prD_lay r] <;> rfl
theorem prD_deep : ∀ ps : List (Int × Int), PyData.depthAll (ps.map prD) ≤ 1
  | [] => Nat.zero_le _
  | p :: r => by
    show max (PyData.depth (prD p)) (PyData.depthAll (r.map prD)) ≤ 1
    exact Nat.max_le.mpr ⟨Nat.le_refl 1, prD_deep r⟩
theorem prD_shaped (ps : List (Int × Int)) : SeqAt.shaped (.list (ps.map prD)) = true := by
  refine Bool.and_eq_true_iff.mpr ⟨prD_lay ps, decide_eq_true ?_⟩
  show PyData.depthAll (ps.map prD) + 1 ≤ 64
  have := prD_deep ps
  omega
theorem eqv_ints (ns : List Int) : PyData.eqv (.list (ns.map PyData.int)) (.list (ns.map PyData.int)) = true := SeqAt.eqv_refl _ (Bool.and_eq_true_iff.mp (PySem.W.ke_shaped_ints ns)).1
theorem eqv_prs (ps : List (Int × Int)) : PyData.eqv (.list (ps.map prD)) (.list (ps.map prD)) = true := SeqAt.eqv_refl _ (prD_lay ps)
/-- tuples stay -/
def Tk (H H' : Hp) : Prop := ∀ a xs, H a = some (.tup xs) → H' a = some (.tup xs)
theorem Tk.refl {H : Hp} : Tk H H := fun _ _ h => h
theorem Tk.get {H H' : Hp} {t : Addr} {xs : List V} (h : H t = some (.tup xs)) (k : Tk H H') : H' t = some (.tup xs) := k t xs h
theorem Tk.tr {H H1 H2 : Hp} (y : Tk H1 H2) (x : Tk H H1) : Tk H H2 := fun a xs h => y a xs (x a xs h)
theorem Tk.new {H H1 : Hp} {p : Addr} {o : HO} (x : Tk H H1) (n : H1 p = none) : Tk H (upd H1 p o) := fun a xs h => by
  rw [upd_ne (ne_of_none (x a xs h) n)]
  exact x a xs h
theorem Tk.lst {H H1 : Hp} {p : Addr} {ys : List V} {o : HO} (x : Tk H H1) (n : H1 p = some (.lst ys)) : Tk H (upd H1 p o) := fun a xs h => by
  rw [upd_ne (ne_of (x a xs h) n (by intro q; cases q))]
  exact x a xs h
theorem Same.tk {H H1 : Hp} (x : Same H H1) : Tk H H1 := fun a xs h => x a _ h
theorem Kp.tk {b c : Addr} {H H1 : Hp} (x : Kp b H H1) (bx : BoxOk H b c) : Tk H H1 := fun a xs h => x.get bx h nb_tup
/-- at the addresses as: the pairs ps -/
def PrT (H : Hp) (as : List Addr) (ps : List (Int × Int)) : Prop := as.length = ps.length ∧ ∀ (i : Nat) (a : Addr) (p : Int × Int), as[i]? = some a → ps[i]? = some p → H a = some (.tup [.int p.1, .int p.2])
theorem PrT.mono {H H' : Hp} {as : List Addr} {ps : List (Int × Int)} (x : PrT H as ps) (k : Tk H H') : PrT H' as ps := ⟨x.1, fun i a p h1 h2 => k _ _ (x.2 i a p h1 h2)⟩
theorem PrT.nil {H : Hp} : PrT H [] [] := ⟨rfl, fun i a p h => by simp at h⟩
theorem PrT.tail {H : Hp} {a : Addr} {p : Int × Int} {as : List Addr} {ps : List (Int × Int)} (x : PrT H (a :: as) (p :: ps)) : PrT H as ps :=
  ⟨by have := x.1; simp at this; exact this, fun i b q h1 h2 => x.2 (i + 1) b q (by simpa using h1) (by simpa using h2)⟩
theorem dpPrs {K : PySem.W.Frag} {H : Hp} : ∀ {as : List Addr} {ps : List (Int × Int)}, PrT H as ps → DpAll K H (as.map V.ref) (ps.map prD)
  | [], [], _ => .nil
  | a :: as, p :: ps, x => .cons (.tup (SqT.of (x.2 0 a p rfl rfl)) (.cons (.int _) (.cons (.int _) .nil))) (dpPrs x.tail)
  | [], _ :: _, x => by have := x.1; simp at this
  | _ :: _, [], x => by have := x.1; simp at this
theorem PrT.snoc {H : Hp} {as : List Addr} {ps : List (Int × Int)} {t : Addr} {x y : Int} (h : PrT H as ps) (ht : H t = some (.tup [.int x, .int y])) : PrT H (as ++ [t]) (ps ++ [(x, y)]) := by
  refine ⟨by rw [List.length_append, List.length_append, h.1]; rfl, fun i a p h1 h2 => ?_⟩
  by_cases hi : i < as.length
  · rw [List.getElem?_append_left hi] at h1
    rw [List.getElem?_append_left (h.1 ▸ hi)] at h2
    exact h.2 i a p h1 h2
  · rw [List.getElem?_append_right (by omega)] at h1
    rw [List.getElem?_append_right (by have := h.1; omega)] at h2
    have e : i - as.length = 0 := by
      have := (List.getElem?_eq_some_iff.mp h1).1
      simp at this
      omega
    have e2 : i - ps.length = 0 := by rw [← h.1]; exact e
    rw [e] at h1
    rw [e2] at h2
    cases h1
    cases h2
    exact ht
theorem PrT.append {H : Hp} {as bs : List Addr} {ps qs : List (Int × Int)} (x : PrT H as ps) (y : PrT H bs qs) : PrT H (as ++ bs) (ps ++ qs) := by
  refine ⟨by rw [List.length_append, List.length_append, x.1, y.1], fun i a p h1 h2 => ?_⟩
  by_cases hi : i < as.length
  · rw [List.getElem?_append_left hi] at h1
    rw [List.getElem?_append_left (x.1 ▸ hi)] at h2
    exact x.2 i a p h1 h2
  · rw [List.getElem?_append_right (by omega)] at h1
    rw [List.getElem?_append_right (by have := x.1; omega), ← x.1] at h2
    exact y.2 _ a p h1 h2
theorem PrT.one {H : Hp} {t : Addr} {x y : Int} (h : H t = some (.tup [.int x, .int y])) : PrT H [t] [(x, y)] := PrT.snoc (as := []) (ps := []) PrT.nil h
theorem PrT.take {H : Hp} {as : List Addr} {ps : List (Int × Int)} (x : PrT H as ps) (k : Nat) : PrT H (as.take k) (ps.take k) := by
  refine ⟨by rw [List.length_take, List.length_take, x.1], fun i a p h1 h2 => ?_⟩
  rw [List.getElem?_take] at h1 h2
  by_cases h : i < k
  · rw [if_pos h] at h1 h2
    exact x.2 i a p h1 h2
  · rw [if_neg h] at h1
    cases h1
theorem PrT.drop {H : Hp} {as : List Addr} {ps : List (Int × Int)} (x : PrT H as ps) (k : Nat) : PrT H (as.drop k) (ps.drop k) := by
  refine ⟨by rw [List.length_drop, List.length_drop, x.1], fun i a p h1 h2 => ?_⟩
  rw [List.getElem?_drop] at h1 h2
  exact x.2 _ a p h1 h2
theorem PrT.ins {H : Hp} {as : List Addr} {ps : List (Int × Int)} {t : Addr} {x y : Int} (h : PrT H as ps) (ht : H t = some (.tup [.int x, .int y])) (k : Nat) : PrT H (as.take k ++ [t] ++ as.drop k) (ps.take k ++ [(x, y)] ++ ps.drop k) :=
  ((h.take k).append (PrT.one ht)).append (h.drop k)
theorem PrT.at {H : Hp} {as : List Addr} {ps : List (Int × Int)} {i : Nat} (h : PrT H as ps) (hi : i < ps.length) : ∃ a x y, as[i]? = some a ∧ ps[i]? = some (x, y) ∧ H a = some (.tup [.int x, .int y]) := by
  have h1 : i < as.length := by rw [h.1]; exact hi
  exact ⟨as[i], ps[i].1, ps[i].2, List.getElem?_eq_getElem h1, List.getElem?_eq_getElem hi, h.2 i _ _ (List.getElem?_eq_getElem h1) (List.getElem?_eq_getElem hi)⟩
theorem PrT.item {H : Hp} {as : List Addr} {ps : List (Int × Int)} {i : Nat} {v : V} (h : PrT H as ps) (e : (as.map V.ref)[i]? = some v) : ∃ a x y, v = V.ref a ∧ as[i]? = some a ∧ ps[i]? = some (x, y) ∧ H a = some (.tup [.int x, .int y]) := by
  rw [List.getElem?_map] at e
  cases q : as[i]? with
  | none => rw [q] at e; cases e
  | some a =>
    rw [q] at e
    have hi := (List.getElem?_eq_some_iff.mp q).1
    obtain ⟨b, x, y, e1, e2, e3⟩ := h.at (i := i) (by rw [← h.1]; exact hi)
    rw [q] at e1
    cases e1
    exact ⟨a, x, y, (Option.some.inj e).symm, rfl, e2, e3⟩
theorem at_of0 {α : Type} {xs : List α} {j : Nat} {v : α} (h : xs[j]? = some v) : atI xs (j : Int) = some v := atI_nat h
theorem at_ref {as : List Addr} {i : Nat} {a : Addr} {z : Int} (h : as[i]? = some a) (e : z = (i : Int)) : atI (as.map V.ref) z = some (V.ref a) := at_of e (by rw [List.getElem?_map, h]; rfl)
theorem ix0 {α : Type} {a : α} {l : List α} : atI (a :: l) 0 = some a := at_of0 (j := 0) rfl
theorem ix1 {α : Type} {a b : α} {l : List α} : atI (a :: b :: l) 1 = some b := at_of0 (j := 1) rfl
theorem ix2 {α : Type} {a b c : α} {l : List α} : atI (a :: b :: c :: l) 2 = some c := at_of0 (j := 2) rfl
theorem at_drawn {as : List Addr} {d : Int} (h0 : 0 ≤ d) (h1 : d < (((as.map V.ref).length : Nat) : Int)) : atI (as.map V.ref) d = some (V.ref (as.getD d.toNat 0)) := by
  rw [List.length_map] at h1
  have h : d.toNat < as.length := by omega
  refine at_ref (i := d.toNat) ?_ (by omega)
  rw [List.getD_eq_getElem?_getD, List.getElem?_eq_getElem h]
  rfl
theorem getD_at {as : List Addr} {d : Int} (h0 : 0 ≤ d) (h1 : d < (((as.map V.ref).length : Nat) : Int)) : as[d.toNat]? = some (as.getD d.toNat 0) := by
  rw [List.length_map] at h1
  have h : d.toNat < as.length := by omega
  rw [List.getD_eq_getElem?_getD, List.getElem?_eq_getElem h]
  rfl
theorem at_int {ns : List Int} {i : Nat} {n : Int} {z : Int} (h : ns[i]? = some n) (e : z = (i : Int)) : atI (ns.map V.int) z = some (V.int n) := at_of e (by rw [List.getElem?_map, h]; rfl)
theorem upd_new {H : Hp} {a p : Addr} {o u : HO} (h : H a = some u) (n : H p = none) : upd H p o a = some u := by
  rw [upd_ne (ne_of_none h n)]
  exact h
theorem upd_oth {H : Hp} {a p : Addr} {o u : HO} (h : H a = some u) (n : a ≠ p) : upd H p o a = some u := by
  rw [upd_ne n]
  exact h
end Kit

end
section
set_option Elab.async false
set_option linter.all false
set_option maxHeartbeats 4000000
namespace Kit
open PySem L2
/-! tables of links, pairs -/
def Good (n : Nat) (p : Int × Int) : Prop := 0 ≤ p.1 ∧ p.1 < n ∧ 0 ≤ p.2 ∧ p.2 < n ∧ p.1 ≠ p.2
instance (n : Nat) (p : Int × Int) : Decidable (Good n p) := by unfold Good; infer_instance
abbrev Rel := Nat → Nat → Bool
def hitP (p : Int × Int) (x y : Nat) : Bool := decide (p.1 = (x : Int) ∧ p.2 = (y : Int))
def relP (ps : List (Int × Int)) (both : Bool) : Rel := fun x y => ps.any fun p => hitP p x y || (both && hitP p y x)
theorem hit_nat (x0 y0 x y : Nat) : hitP ((x0 : Int), (y0 : Int)) x y = decide (x = x0 ∧ y = y0) := by
  unfold hitP
  exact decide_eq_decide.mpr ⟨fun h => ⟨by omega, by omega⟩, fun h => ⟨by show (x0 : Int) = _; omega, by show (y0 : Int) = _; omega⟩⟩
theorem relP_snoc (ps : List (Int × Int)) (both : Bool) (x0 y0 x y : Nat) : relP (ps ++ [((x0 : Int), (y0 : Int))]) both x y = (relP ps both x y || (decide (x = x0 ∧ y = y0) || (both && decide (y = x0 ∧ x = y0)))) := by
  unfold relP
  rw [List.any_append, List.any_cons, List.any_nil, Bool.or_false, hit_nat, hit_nat]
theorem relP_iff {ps : List (Int × Int)} {both : Bool} {x y : Nat} : relP ps both x y = true ↔ ((x : Int), (y : Int)) ∈ ps ∨ (both = true ∧ ((y : Int), (x : Int)) ∈ ps) := by
  unfold relP hitP
  simp only [List.any_eq_true, Bool.or_eq_true, Bool.and_eq_true, decide_eq_true_eq]
  constructor
  · rintro ⟨p, hp, h | h⟩
    · exact .inl (by rw [← h.1, ← h.2]; exact hp)
    · exact .inr ⟨h.1, by rw [← h.2.1, ← h.2.2]; exact hp⟩
  · rintro (h | ⟨b, h⟩)
    · exact ⟨_, h, .inl ⟨rfl, rfl⟩⟩
    · exact ⟨_, h, .inr ⟨b, rfl, rfl⟩⟩
structure IsTab (n : Nat) (T : List Int) (R : Rel) : Prop where
  len : T.length = n * n
  get : ∀ x y, x < n → y < n → T[x * n + y]? = some (if R x y = true then 1 else 0)
theorem ix_lt {n x y : Nat} (hx : x < n) (hy : y < n) : x * n + y < n * n := by
  have h : (x + 1) * n ≤ n * n := Nat.mul_le_mul_right n hx
  rw [Nat.add_mul, Nat.one_mul] at h
  omega
theorem ix_inj {n x y x' y' : Nat} (hy : y < n) (hy' : y' < n) (e : x * n + y = x' * n + y') : x = x' ∧ y = y' := by
  have h1 : (x * n + y) / n = x := by rw [Nat.mul_comm, Nat.mul_add_div (by omega), Nat.div_eq_of_lt hy, Nat.add_zero]
  have h2 : (x' * n + y') / n = x' := by rw [Nat.mul_comm, Nat.mul_add_div (by omega), Nat.div_eq_of_lt hy', Nat.add_zero]
  have h3 : x = x' := by rw [← h1, ← h2, e]
  subst h3
  exact ⟨rfl, by omega⟩
theorem IsTab.congr {n : Nat} {T : List Int} {R R' : Rel} (t : IsTab n T R) (h : ∀ x y, x < n → y < n → R x y = R' x y) : IsTab n T R' :=
  ⟨t.len, fun x y hx hy => by rw [← h x y hx hy]; exact t.get x y hx hy⟩
theorem IsTab.set {n : Nat} {T : List Int} {R : Rel} (t : IsTab n T R) {x0 y0 : Nat} (hx : x0 < n) (hy : y0 < n) (b : Bool) {v : Int} (hv : v = if b = true then 1 else 0) :
    IsTab n (T.set (x0 * n + y0) v) (fun x y => if x = x0 ∧ y = y0 then b else R x y) := by
  refine ⟨by rw [List.length_set, t.len], fun x y hx' hy' => ?_⟩
  by_cases h : x = x0 ∧ y = y0
  · rw [h.1, h.2, List.getElem?_set_self (by rw [t.len]; exact ix_lt hx hy), hv]
    simp
  · rw [List.getElem?_set_ne (fun e => h (let z := ix_inj hy hy' e; ⟨z.1.symm, z.2.symm⟩)), t.get x y hx' hy']
    simp only [if_neg h]
theorem IsTab.on {n : Nat} {T : List Int} {R : Rel} (t : IsTab n T R) {x0 y0 : Nat} (hx : x0 < n) (hy : y0 < n) : IsTab n (T.set (x0 * n + y0) 1) (fun x y => R x y || decide (x = x0 ∧ y = y0)) :=
  (t.set hx hy true (v := 1) rfl).congr fun x y _ _ => by
    by_cases h : x = x0 ∧ y = y0
    · rw [if_pos h, decide_eq_true h, Bool.or_true]
    · rw [if_neg h, decide_eq_false h, Bool.or_false]
theorem IsTab.zero (n : Nat) : IsTab n (List.replicate (n * n) 0) (fun _ _ => false) :=
  ⟨List.length_replicate, fun x y hx hy => by rw [List.getElem?_replicate, if_pos (ix_lt hx hy)]; rfl⟩
theorem rep_ints (n : Nat) (v : Int) : (List.replicate n [V.int v]).flatten = (List.replicate n v).map V.int := by
  induction n with
  | zero => rfl
  | succ n ih =>
    rw [List.replicate_succ, List.replicate_succ, List.flatten_cons, ih]
    rfl
def rowT (R : Rel) (x j : Nat) : List (Int × Int) := ((List.range j).filter (R x)).map fun (y : Nat) => ((x : Int), (y : Int))
def tiesTo (n : Nat) (R : Rel) (i : Nat) : List (Int × Int) := (List.range i).flatMap fun x => rowT R x n
def ties (n : Nat) (R : Rel) : List (Int × Int) := tiesTo n R n
theorem rowT_yes {R : Rel} {x j : Nat} (h : R x j = true) : rowT R x (j + 1) = rowT R x j ++ [((x : Int), (j : Int))] := by
  unfold rowT
  rw [List.range_succ, List.filter_append, List.map_append]
  simp [List.filter, h]
theorem rowT_no {R : Rel} {x j : Nat} (h : R x j = false) : rowT R x (j + 1) = rowT R x j := by
  unfold rowT
  rw [List.range_succ, List.filter_append, List.map_append]
  simp [List.filter, h]
theorem tiesTo_succ (n : Nat) (R : Rel) (i : Nat) : tiesTo n R (i + 1) = tiesTo n R i ++ rowT R i n := by
  unfold tiesTo
  rw [List.range_succ, List.flatMap_append]
  simp
theorem mem_ties {n : Nat} {R : Rel} {p : Int × Int} : p ∈ ties n R ↔ ∃ x y : Nat, x < n ∧ y < n ∧ R x y = true ∧ p = ((x : Int), (y : Int)) := by
  unfold ties tiesTo rowT
  simp only [List.mem_flatMap, List.mem_map, List.mem_filter, List.mem_range]
  constructor
  · rintro ⟨x, hx, y, ⟨hy, hr⟩, e⟩
    exact ⟨x, y, hx, hy, hr, e.symm⟩
  · rintro ⟨x, y, hx, hy, hr, e⟩
    exact ⟨x, hx, y, ⟨hy, hr⟩, e.symm⟩
theorem rowT_len (R : Rel) (x j : Nat) : (rowT R x j).length ≤ j := by
  unfold rowT
  rw [List.length_map]
  have h := List.length_filter_le (R x) (List.range j)
  rw [List.length_range] at h
  exact h
theorem tiesTo_len (n : Nat) (R : Rel) : ∀ i, (tiesTo n R i).length ≤ i * n
  | 0 => Nat.zero_le _
  | i + 1 => by
    rw [tiesTo_succ, List.length_append, Nat.add_mul, Nat.one_mul]
    exact Nat.add_le_add (tiesTo_len n R i) (rowT_len R i n)
theorem ties_len {n : Nat} (R : Rel) (h : n ≤ 24) : (ties n R).length ≤ 576 := Nat.le_trans (tiesTo_len n R n) (Nat.mul_le_mul h h)
theorem ties_congr {n : Nat} {R R' : Rel} (h : ∀ x y, x < n → y < n → R x y = R' x y) : ties n R = ties n R' := by
  have row : ∀ x, x < n → ∀ j, j ≤ n → rowT R x j = rowT R' x j := by
    intro x hx j
    induction j with
    | zero => intro _; rfl
    | succ j ih =>
      intro hj
      have e := h x j hx hj
      cases q : R x j with
      | true => rw [rowT_yes q, rowT_yes (e ▸ q), ih (by omega)]
      | false => rw [rowT_no q, rowT_no (e ▸ q), ih (by omega)]
  have all : ∀ i, i ≤ n → tiesTo n R i = tiesTo n R' i := by
    intro i
    induction i with
    | zero => intro _; rfl
    | succ i ih => intro hi; rw [tiesTo_succ, tiesTo_succ, ih (by omega), row i hi n (Nat.le_refl n)]
  exact all n (Nat.le_refl n)
def netF (n : Nat) (d : Addr) : List (Str × V) := putF "_links" (.ref d) (putF "count" (.int (n : Int)) [])
theorem netF_links (n : Nat) (d : Addr) : (netF n d).lookup ("_links" : Str) = some (.ref d) := by
  unfold netF
  rw [lookup_putF, if_pos rfl]
theorem netF_count (n : Nat) (d : Addr) : (netF n d).lookup ("count" : Str) = some (.int (n : Int)) := by
  unfold netF
  rw [lookup_putF, if_neg (by decide +kernel), lookup_putF, if_pos rfl]
theorem netF_no (n : Nat) (d : Addr) {m : Str} (h1 : ¬ m = "_links") (h2 : ¬ m = "count") : (netF n d).lookup m = none := by
  unfold netF
  rw [lookup_putF, if_neg h1, lookup_putF, if_neg h2]
  rfl
def linkKV (n : Nat) (R : Rel) : List (List Key × V) := (ties n R).map fun p => ([.inl p.1, .inl p.2], V.bl true)
/-- at a: a net of n replicas with the links R -/
structure NetAt (C : Addr) (H : Hp) (a : Addr) (n : Nat) (R : Rel) : Prop where
  ex : ∃ dx d, H a = some (.ins C dx (netF n d)) ∧ H d = some (.dT (linkKV n R))
  b1 : 1 ≤ n
  b2 : n ≤ 24
  ir : ∀ x y, x < n → y < n → R x y = true → x ≠ y
theorem NetAt.same {C : Addr} {H H' : Hp} {a : Addr} {n : Nat} {R : Rel} (s : Same H H') (x : NetAt C H a n R) : NetAt C H' a n R := by
  obtain ⟨⟨dx, d, h1, h2⟩, r⟩ := x
  exact ⟨⟨dx, d, s _ _ h1, s _ _ h2⟩, by assumption, by assumption, by assumption⟩
theorem NetAt.kp {C : Addr} {H H' : Hp} {a b c : Addr} {n : Nat} {R : Rel} (k : Kp b H H') (bx : BoxOk H b c) (x : NetAt C H a n R) : NetAt C H' a n R := by
  obtain ⟨⟨dx, d, h1, h2⟩, r⟩ := x
  exact ⟨⟨dx, d, k.get bx h1 nb_ins, k.get bx h2 nb_dT⟩, by assumption, by assumption, by assumption⟩
theorem NetAt.new {C : Addr} {H : Hp} {a p : Addr} {o : HO} {n : Nat} {R : Rel} (x : NetAt C H a n R) (np : H p = none) : NetAt C (upd H p o) a n R := NetAt.same (Same.new (Same.refl H) np) x
theorem NetAt.lst {C : Addr} {H : Hp} {a p : Addr} {xs ys : List V} {n : Nat} {R : Rel} (x : NetAt C H a n R) (hp : H p = some (.lst xs)) : NetAt C (upd H p (.lst ys)) a n R := by
  obtain ⟨⟨dx, d, h1, h2⟩, r⟩ := x
  exact ⟨⟨dx, d, by rw [upd_ne (ne_of h1 hp (by intro q; cases q))]; exact h1, by rw [upd_ne (ne_of h2 hp (by intro q; cases q))]; exact h2⟩, by assumption, by assumption, by assumption⟩
theorem find_key (ls : List (Int × Int)) (s r : Int) : (valV (ls.map fun p => (([.inl p.1, .inl p.2] : List Key), V.bl true)) [.inl s, .inl r]).isSome = decide ((s, r) ∈ ls) := by
  rw [← valV_any, List.any_map]
  induction ls with
  | nil => rfl
  | cons p t ih =>
    rw [List.any_cons, ih]
    have e : (([.inl p.1, .inl p.2] : List Key) = [.inl s, .inl r]) ↔ (s, r) = p := by
      obtain ⟨a, b⟩ := p
      constructor
      · intro h
        injection h with h1 h2
        injection h2 with h2 _
        exact Prod.ext (Sum.inl.inj h1).symm (Sum.inl.inj h2).symm
      · intro h
        cases h
        rfl
    show (decide (([.inl p.1, .inl p.2] : List Key) = [.inl s, .inl r]) || _) = _
    by_cases h : (s, r) = p
    · rw [decide_eq_true (e.mpr h), Bool.true_or]
      exact (decide_eq_true (by rw [h]; exact List.mem_cons_self)).symm
    · rw [decide_eq_false (fun z => h (e.mp z)), Bool.false_or]
      exact decide_eq_decide.mpr ⟨fun z => List.mem_cons_of_mem _ z, fun z => (List.mem_cons.mp z).resolve_left h⟩
theorem prT_keys {H : Hp} {ls : List (Int × Int)} {bs : List Addr} (h : IsKeys H (ls.map fun p => (([.inl p.1, .inl p.2] : List Key), V.bl true)) bs) : PrT H bs ls := by
  induction ls generalizing bs with
  | nil =>
    cases h
    exact PrT.nil
  | cons p t ih =>
    cases h with
    | cons h1 h2 =>
      rename_i b bs'
      have r := (PrT.one (x := p.1) (y := p.2) h1).append (ih h2)
      exact r
end Kit

end
section
set_option Elab.async false
set_option linter.all false
set_option maxRecDepth 100000
set_option maxHeartbeats 1000000
namespace KX
open PySem PySem.Spec PyProof.Rows L2
/-- what isinstance wants of the class of a caught error -/
structure IsX (K : PySem.W.Frag) (D : Addr) : Prop where
  cl : (PySem.W.clsIn K D).isSome = true
  ga : PySem.W.findIn K (.ref D) "__getattribute__" = some (some (.builtin "BaseException.__getattribute__"))
  gg : PySem.W.findIn K (.ref D) "__getattr__" = some none
  ex : PySem.W.subIn K (.ref D) (.type "BaseException") = some true
  cc : PySem.W.findIn K (.ref D) "__class__" = some (some (.builtin "object.__class__"))
  cg : PySem.W.specialIn K (.builtin "object.__class__") "__get__" = some (some (.builtin "getset_descriptor.__get__"))
  tk : PySem.W.takesIn K (.builtin "object.__class__") = some true
  mo : PySem.W.mroIn K D (.type "object") = some true
  hd : PySem.W.hasDictIn K D = true
theorem IsX.xf {K : PySem.W.Frag} {D : Addr} (x : IsX K D) : XfC K D := ⟨x.ga, x.gg, x.ex, x.hd⟩
/-- isinstance(e, C): e the error in the suite, of the class at D, its fields at dd -/
def rIsX (K : PySem.W.Frag) (cls : Value) (d : Option Addr) (a : Addr) : List V → Hp → VK → Prop := fun xs H Q => ∃ (D : Addr) (c : V) (cv : Value) (b : Bool) (dd : Addr) (fs : List (Str × V)),
  cls = .ref D ∧ IsX K D ∧ xs = [.ref a, c] ∧ (∀ u, RelV c u → u = cv) ∧ d = some dd ∧ H dd = some (.xd fs) ∧ PySem.W.kitOne K (.ref D) cv = some b ∧ Q (.bl b) H
theorem call_isX {X : Cx} {a : Addr} {cls : Value} {d : Option Addr} {oe : Obj} {pn : List (Addr × Obj)} (hz : Zc cls d oe) (hf : ∃ vs, oe.data = .fields vs) :
    CallR (X.suite a ((a, oe) :: pn)) (.builtin "isinstance") (rIsX X.K cls d a) := by
  intro pins s σ H xs us Q I r h
  obtain ⟨D, c, cv, b, dd, fs, rfl, T, rfl, hcv, rfl, hdd, e, q⟩ := h
  obtain ⟨u1, u2, rfl, r1, r2⟩ := vals2 r
  obtain rfl : u1 = Value.ref a := r1
  obtain rfl := hcv _ r2
  have pin := (I.pin (a, oe) (List.mem_append.mpr (.inl List.mem_cons_self))).1
  have hx : ObjOk X.prog X.w H s.heap dd (.xd fs) := I.hok dd _ hdd
  obtain ⟨mA, ⟨od, es, ep, ho, _⟩, _⟩ := hx
  obtain ⟨vs, hv⟩ := hf
  obtain ⟨z1, z2⟩ := hz
  have J : PySem.W.InstAt s.heap a oe D (some od) := by
    refine ⟨pin, z1, ?_, ?_⟩
    · unfold PySem.W.notCls
      rw [hv] <;> rfl
    · rw [z2]
      exact ho
  have Z := PySem.W.kitx_exc (K := X.K) (x := a) (C := D) (ox := oe) (od := some od) T.cl T.ga T.gg T.ex T.cc T.cg T.tk T.mo
  exact PySem.W.kia_one Z I.kIn J e (fun z => by cases z) fun tk => ⟨.bl b, H, I.tok tk, rfl, q⟩
/-- a weaker making -/
theorem PMk.imp {X : Cx} {e : Expr} {t t' : L2.St → Hp → XK → Prop} (h : PMk X e t) (k : ∀ σ H Q, t' σ H Q → t σ H Q) : PMk X e t' := fun pins s σ H Q I q => h pins s σ H Q I (k σ H Q q)
/-- the class of an own error with an __init__ that stores its arguments -/
structure ErrC (K : PySem.W.Frag) (mg : Str → Option Value) (x : Str) (C : Addr) : Prop where
  oex : OexC K C
  mgC : mg x = some (.ref C)
  is_ : IsX K C
/-- the __init__ of it: it stores at these names, in this order -/
def spErr (C : Addr) (a : Addr) : List (Str × V) → Hp → (Hp → Prop) → Prop := fun fs H k => ∀ dx, H dx = none → dx ≠ a → k (upd (upd H dx (exd dx fs)) a (exo a C (some dx)))
def spErr1 (C : Addr) (f : Str) : Sp := fun vs H Q _ => ∃ (a : Addr) (v : V), vs = [.ref a, v] ∧ H a = some (exo a C none) ∧ spErr C a [(f, v)] H fun H' => Q .non H'
def spErr2 (C : Addr) (f g : Str) : Sp := fun vs H Q _ => ∃ (a : Addr) (v u : V), vs = [.ref a, v, u] ∧ H a = some (exo a C none) ∧ ∀ dx, H dx = none → dx ≠ a → Q .non (upd (upd (upd H dx (exd dx [(f, v)])) a (exo a C (some dx))) dx (exd dx [(g, u), (f, v)]))
theorem del_upd {H : Hp} {a d : Addr} {o1 o2 o3 : HO} {fs : HO} (ha : H a = none) (hd : d ≠ a) : upd (del (upd (upd (upd H a o1) d o2) a o3) a) d fs = upd H d fs := by
  funext b
  by_cases h1 : b = d
  · rw [h1, upd_same, upd_same]
  · rw [upd_ne h1, upd_ne h1]
    by_cases h2 : b = a
    · rw [h2, del_same, ha]
    · rw [del_ne h2, upd_ne h2, upd_ne h1, upd_ne h2]
theorem del_upd2 {H : Hp} {a d : Addr} {o1 o2 o3 o4 : HO} {fs : HO} (ha : H a = none) (hd : d ≠ a) : upd (del (upd (upd (upd (upd H a o1) d o2) a o3) d o4) a) d fs = upd H d fs := by
  funext b
  by_cases h1 : b = d
  · rw [h1, upd_same, upd_same]
  · rw [upd_ne h1, upd_ne h1]
    by_cases h2 : b = a
    · rw [h2, del_same, ha]
    · rw [del_ne h2, upd_ne h1, upd_ne h2, upd_ne h1, upd_ne h2]
/-- the reading of C(e): a new dict with the field -/
def tErr1 (C : Addr) (f : Str) (ta : TA) : L2.St → Hp → XK → Prop := fun σ H Q => ta σ H fun vs H1 => ∃ v, vs = [v] ∧ ∀ d, H1 d = none → Q (.ref C) (some d) (upd H1 d (.xd [(f, v)]))
def tErr2 (C : Addr) (f g : Str) (ta : TA) : L2.St → Hp → XK → Prop := fun σ H Q => ta σ H fun vs H1 => ∃ v u, vs = [v, u] ∧ ∀ d, H1 d = none → Q (.ref C) (some d) (upd H1 d (.xd [(g, u), (f, v)]))
/-- what makes such errors: the class, its __init__'s promise -/
structure Mke (P : Program) (w : World) (K : PySem.W.Frag) (mg : Str → Option Value) (base : Heap) (k : Nat) (x : Str) (C : Addr) (sp : Sp) : Prop where
  err : ErrC K mg x C
  ex : ∃ (f : Addr) (fd : FuncData) (ps : List Str), PySem.W.findIn K (.ref C) "__init__" = some (some (.ref f)) ∧ PySem.W.typeIn K (.ref f) = some (.type "function") ∧ FnOk P w K mg base CX0 k f fd ps sp ∧ Binds K fd ps []
section
variable {X : Cx} {x : Str} {C : Addr} {k j : Nat} {f g : Str} {e : Expr} {es : List Expr} {ta : TA} {p pos : Pos}
theorem ta_mono {X : Cx} {es : List Expr} {ta : TA} (h : PA X es ta) : True := trivial
theorem pmk1 (m : Mke X.prog X.w X.K X.mg X.base k x C (spErr1 C f)) (hr : Room j X.A) (hk : k + 1 ≤ j) (hg : Gl X x) (ha : PA X (e :: es) ta) (mono : ∀ σ H Q Q', (∀ vs H1, Q vs H1 → Q' vs H1) → ta σ H Q → ta σ H Q')
    (hdb : (x == ("__debug__" : Str)) = false := by decide) (he : starEach (e :: es) X.env = (false, eval e X.env) :: starEach es X.env := by rfl) (hpl : (backTo pos (starEach es X.env)).any (·.1) = false := by rfl) :
    PMk X (.Call (.Name x p) (e :: es) [] pos) (tErr1 C f ta) := by
  obtain ⟨fI, fd, ps, iC, tI, F, hb⟩ := m.ex
  refine PMk.imp (pmk_oex m.err.oex iC tI F (hr.mono hk) hb .nil (fun _ _ _ _ _ _ _ h => h.elim) hg m.err.mgC ha hdb he hpl) fun σ H Q q => ?_
  refine mono σ H _ _ ?_ q
  rintro vs H1 ⟨v, rfl, q⟩
  refine ⟨by show 1 ≤ 1000; decide, fun a na => ?_⟩
  refine ⟨a, v, rfl, upd_same, fun dx hx hne => ⟨rfl, dx, [(f, v)], upd_same, ?_, ?_, ?_⟩⟩
  · rw [upd_ne hne, upd_same]
  · rw [upd_ne hne] at hx
    exact hx
  · rw [upd_ne hne] at hx
    rw [del_upd na hne]
    exact q dx hx
theorem pmk2 (m : Mke X.prog X.w X.K X.mg X.base k x C (spErr2 C f g)) (hr : Room j X.A) (hk : k + 1 ≤ j) (hg : Gl X x) (ha : PA X (e :: es) ta) (mono : ∀ σ H Q Q', (∀ vs H1, Q vs H1 → Q' vs H1) → ta σ H Q → ta σ H Q')
    (hdb : (x == ("__debug__" : Str)) = false := by decide) (he : starEach (e :: es) X.env = (false, eval e X.env) :: starEach es X.env := by rfl) (hpl : (backTo pos (starEach es X.env)).any (·.1) = false := by rfl) :
    PMk X (.Call (.Name x p) (e :: es) [] pos) (tErr2 C f g ta) := by
  obtain ⟨fI, fd, ps, iC, tI, F, hb⟩ := m.ex
  refine PMk.imp (pmk_oex m.err.oex iC tI F (hr.mono hk) hb .nil (fun _ _ _ _ _ _ _ h => h.elim) hg m.err.mgC ha hdb he hpl) fun σ H Q q => ?_
  refine mono σ H _ _ ?_ q
  rintro vs H1 ⟨v, u, rfl, q⟩
  refine ⟨by show 2 ≤ 1000; decide, fun a na => ?_⟩
  refine ⟨a, v, u, rfl, upd_same, fun dx hx hne => ⟨rfl, dx, [(g, u), (f, v)], ?_, upd_same, ?_, ?_⟩⟩
  · rw [upd_ne hne.symm, upd_same]
  · rw [upd_ne hne] at hx
    exact hx
  · rw [upd_ne hne] at hx
    rw [del_upd2 na hne]
    exact q dx hx
end
/-- a def that may raise, by its name -/
structure CalX (P : Program) (w : World) (K : PySem.W.Frag) (mg : Str → Option Value) (base : Heap) (k : Nat) (x : Str) (sp : Sp) : Prop where
  ex : ∃ (f : Addr) (fd : FuncData) (ps : List Str), FnOk P w K mg base (L2.CX P w) k f fd ps sp ∧ mg x = some (.ref f) ∧ PySem.W.keepIn K (.ref f) = true ∧ Binds K fd ps []
theorem pe_cX {X : Cx} {k j : Nat} {x : Str} {sp : Sp} {E : XK} {p pos : Pos} {e : Expr} {es : List Expr} {t : TA} (c : CalX X.prog X.w X.K X.mg X.base k x sp) (hr : Room j X.A) (hk : k ≤ j) (hg : Gl X x) (hx : Passes (L2.CX X.prog X.w) X E) (ha : PA X (e :: es) t)
    (hdb : (x == ("__debug__" : Str)) = false := by decide) (he : starEach (e :: es) X.env = (false, eval e X.env) :: starEach es X.env := by rfl) (hpl : (backTo pos (starEach es X.env)).any (·.1) = false := by rfl) :
    PE X (.Call (.Name x p) (e :: es) [] pos) (tCall sp [] E t) := by
  obtain ⟨f, fd, ps, F, hm, kp, b⟩ := c.ex
  exact pe_call F (hr.mono hk) hg hm kp b .nil hx ha hdb he hpl
end KX

end
section
set_option Elab.async false
set_option linter.all false
set_option maxRecDepth 100000
set_option maxHeartbeats 1000000
/-! a dict comprehension whose keys are tuples -/
namespace KX
open PySem PySem.Spec PyProof.Rows L2 Kit
/-- the new dict takes a pair whose key is the tuple at b -/
theorem dsetT {X : Cx} {pins : List (Addr × Obj)} {σ : L2.St} {H : Hp} {s : Shared} {E : Value → Shared → Prop} {D b : Addr} {kvs : List (List Key × V)} {k : List Key} {v : V} {r : Value} {Q : Unit → Shared → Prop}
    (hu : X.A.units < cLine) (I : Inv X pins σ H s) (hD : H D = some (.dT kvs)) (few : kvs.length < sizeLine) (hb : H b = some (.tup (k.map kV))) (rv : RelV v r)
    (h : ∀ s2, Inv X pins σ (upd H D (.dT (putK kvs k v))) s2 → Q () s2) : wpAny (model X.prog X.w) X.A (dictSet D (.ref b) r) Q E s := by
  obtain ⟨z, nsm, xs, kt, dd⟩ := dt_of I.hok hD
  have few2 : (putK kvs k v).length ≤ sizeLine := Nat.le_trans (length_putK kvs k v) few
  refine wpAny_dictSet_heap (hsz := by rw [← Paired.length kt]; exact z) hu (key_of I.hok hb) dd (fun h2 dd2 same => h _ ?_)
  obtain ⟨o, es, ep, ho, c1, c2, c3, _, c5⟩ := dd2
  refine d_write I (by rw [hD]; exact True.intro) same ⟨o, ho⟩ ⟨few2, nsm, _, (kt.put k hb rv).keeps (fun c ys ec => ?_), o, es, ep, ho, c1, c2, c3, c5⟩
  exact (upd_ne (ne_of ec hD fun q => nomatch q)).trans ec
end KX
namespace KX
open PySem PySem.Spec PyProof.Rows L2 Kit
/-- {k: v for target in iter}: a dict whose keys are tuples -/
def tDcT (wi : TI) (g : TG) (tk tv : TE) (vs : List Nat) : TE := fun σ H Q => wi σ H fun J H1 => ∀ D, H1 D = none → ∃ W : Nat → Nat → Hp → Prop, (∃ m, W 0 m (upd H1 D (.dT []))) ∧ ∀ i m H, W i m H →
  (J.stop i H ∧ Q (.ref D) H) ∨ (J.go i H ∧ ∃ Nx : Hp → Prop, (∀ H', Nx H' → ∃ m', m' < m ∧ W (i + 1) m' H') ∧ ∀ x H', J.yld i H x H' → g x (wipe σ vs) H' fun σ2 H2 => wipe σ2 vs = wipe σ vs ∧
    tk σ2 H2 fun y H4 => tv σ2 H4 fun z H5 => ∃ (kvs : List (List Key × V)) (k : List Key) (t : Addr), y = .ref t ∧ H5 t = some (.tup (k.map kV)) ∧ H5 D = some (.dT kvs) ∧ kvs.length < sizeLine ∧ Nx (upd H5 D (.dT (putK kvs k z))))
theorem pe_dcT {X : Cx} {kx vx tg iter : Expr} {scope : Scope} {own : List (Str × Nat)} {pos : Pos} {wi : TI} {g : TG} {tk tv : TE} (hu : X.A.units < cLine) (hc : X.calm = true) (hN : X.N.Nodup) (hi : PI X tg iter wi) (ok : BlkOk X.N X.env.scope scope own)
    (hg : ∀ (s : Shared) (H : Hp) (C : Addr) (cl : List (Str × Addr)) (fp : List Addr), PG (X.blk s H scope (compEnvC scope cl C X.env) fp) tg g)
    (hk : ∀ (s : Shared) (H : Hp) (C : Addr) (cl : List (Str × Addr)) (fp : List Addr), PE (X.blk s H scope (compEnvC scope cl C X.env) fp) kx tk)
    (hv : ∀ (s : Shared) (H : Hp) (C : Addr) (cl : List (Str × Addr)) (fp : List Addr), PE (X.blk s H scope (compEnvC scope cl C X.env) fp) vx tv) (hs : ∀ x, foldedSetIterable iter X.env x = pure x := by intro _; rfl) :
    PE X (.DictComp kx vx [⟨tg, iter, [], 0⟩] scope pos) (tDcT wi g tk tv (own.map (·.2))) := by
  refine ⟨fun pins s σ H Q I need => ?_⟩
  rw [arm_eval_DictComp]
  have frees : ∀ y ∈ scope.names, y.2 = .free → ∃ c, X.env.cells.lookup y.1 = some c := by
    intro y hy e
    exact (ok.free y hy e).elim (fun q => I.ok.has _ (.inl q)) (fun q => I.ok.has _ (.inr q))
  refine wpAny_comprehension_free rfl hs (closure_ok frees) ok.kind (fun y hy e => by rw [ok.uniq y hy, e]) ?_
  refine thn (hi.run pins s σ H _ I need) fun xv t1 a1 => thn a1 fun itv t2 a2 => ?_
  obtain ⟨it, fp, tn, J, G0, rfl, I2, walk, z0, fz, body⟩ := a2
  refine wpAny_newObj_type (newEnv_comp ?_)
  generalize eD : t2.heap.objs.size = D
  obtain ⟨W, ⟨m0, w0⟩, turn⟩ := body D (I2.hok.fresh (Nat.le_of_eq eD))
  -- the state with the new dict
  generalize e3 : ({ t2 with heap := t2.heap.push { cls := .type "dict", data := .dict #[] } } : Shared) = t3
  have eh : t3.heap = t2.heap.push { cls := .type "dict", data := .dict #[] } := by subst e3; rfl
  have I3 : Inv X pins σ (upd G0 D (.dT [])) t3 := by
    subst e3
    subst eD
    exact I2.laid (t' := t2.toks) (fun b o q => Heap.get?_push_of_some _ q) (Nat.le_refl _) (dt_empty t2.heap I2.big)
  have small : ∀ b ∈ fp, b < t2.heap.objs.size := fun b hb => Heap.lt_size (walk.obj _ _ z0 b hb).choose_spec.1
  have fz3 : ∀ b ∈ fp, FpOk X pins (upd G0 D (.dT [])) b ∧ b < t3.heap.objs.size := by
    intro b hb
    have lt := small b hb
    have q : upd G0 D (.dT []) b = none := (upd_ne (by rw [← eD]; exact Nat.ne_of_lt lt)).trans (fz b hb).1
    exact ⟨⟨q, (fz b hb).2⟩, by rw [eh, Heap.size_push]; exact Nat.lt_succ_of_lt lt⟩
  have z3 : tn 0 t3.heap := walk.keep _ _ _ z0 (fun b _ o q => by rw [eh]; exact Heap.get?_push_of_some _ q)
  have I4 := block_start I3 ok hN fz3
  generalize ecl : cellsFrom (t3.heap.objs.size + 1) scope.names (cloFrom X.env.cells scope.names []) = cl at I4
  have pg := hg t3 (upd G0 D (.dT [])) t3.heap.objs.size cl fp
  have pk := hk t3 (upd G0 D (.dT [])) t3.heap.objs.size cl fp
  have pv := hv t3 (upd G0 D (.dT [])) t3.heap.objs.size cl fp
  show codeAny _ _ (.compStart (.DictComp kx vx [⟨tg, iter, [], 0⟩] scope pos) 0 (.ref it) (.ref D) (compEnvC scope cl t3.heap.objs.size X.env)) (compPost _ _ _ _ _ (.ref D) t3.heap.objs.size) { t3 with heap := pushCells (t3.heap.push { cls := .type "dict", data := .dict #[] }) scope.names }
  generalize ece : compEnvC scope cl t3.heap.objs.size X.env = ce at I4 pg pk pv ⊢
  have cL : ce.locals = t3.heap.objs.size := by subst ece; rfl
  have none3 : ∀ b ∈ fp, upd G0 D (.dT []) b = none := fun b hb => (fz3 b hb).1.1
  generalize eH : upd G0 D (.dT []) = G3 at I3 I4 pg pk pv w0 none3 fz3
  generalize e4 : ({ t3 with heap := pushCells (t3.heap.push { cls := .type "dict", data := .dict #[] }) scope.names } : Shared) = t4 at I4 ⊢
  have z4 : tn 0 t4.heap := by
    subst e4
    exact walk.keep _ _ _ z3 (fun b _ o q => pushCells_keeps _ _ _ _ (Heap.get?_push_of_some _ q))
  have fpB : ∀ {τ : L2.St} {G : Hp} {t : Shared}, Inv (X.blk t3 G3 scope ce fp) [] τ G t → (∀ b ∈ fp, G b = none) → ∀ b ∈ fp, FpOk (X.blk t3 G3 scope ce fp) [] G b := by
    intro τ G t J1 nb b hb
    exact ⟨nb b hb, (J1.ok.exf b hb).1, J1.ok.exfs b hb, .inl hb, fun x c q => (J1.ok.exf b hb).2 x c q, fun p hp => absurd (show p ∈ ([] : List (Addr × Obj)) ++ [] from hp) (by simp)⟩
  have loop : codeAny (model X.prog X.w) X.A (.compLoop (.DictComp kx vx [⟨tg, iter, [], 0⟩] scope pos) 0 (.ref it) (.ref D) ce) (compPost (model X.prog X.w) X.A X.xe none (EP X pins σ Q) (.ref D) t3.heap.objs.size) t4 := by
    refine compLoop_anyD (fun m t => ∃ i G, Inv (X.blk t3 G3 scope ce fp) [] (wipe σ (own.map (·.2))) G t ∧ tn i t.heap ∧ (∀ b ∈ fp, G b = none) ∧ W i m G) ?_ m0 ⟨0, G3, I4, z4, none3, w0⟩
    intro m t5 cond
    obtain ⟨i, G5, I5, z5, n5, w5⟩ := cond
    have fB := fpB I5 n5
    cases turn i m G5 w5 with
    | inl stp =>
      obtain ⟨halt, res⟩ := stp
      refine thnF (walk.done (X.blk t3 G3 scope ce fp) rfl rfl rfl hc i [] t5 _ G5 (fun _ _ => False) I5 fB z5 halt) fun r t6 a6 => ?_
      obtain ⟨er, I6⟩ := a6
      subst er
      have back : Inv X pins σ G5 t6 := I3.call' (ch := fp) I6.os I6.base I6.hok I6.bare (fun b hb => let z := (fz3 b hb).1; ⟨z.2.2.2.1, z.2.1, z.2.2.2.2.1, z.2.2.2.2.2⟩)
      have freeL : G5 t3.heap.objs.size = none := by rw [← cL]; exact I6.free
      obtain ⟨mm, ns6, _⟩ := I6.loc
      have ns7 : t6.heap.Ns t3.heap.objs.size mm := by rw [← cL]; exact ns6
      obtain ⟨f0, f1, f2, f3, f4, f5⟩ := I3.fpOk (Nat.le_refl _) freeL
      exact ⟨mm, ns7, fun h2 sb => ⟨.ref D, G5, back.turned (t' := t6.toks) (fun b o hb e => (sb.2 b hb).trans e) f0 f1 f3 f4 f5, rfl, res⟩⟩
    | inr more =>
      obtain ⟨goes, Nx, hNx, step⟩ := more
      refine thnF (walk.item (X.blk t3 G3 scope ce fp) rfl rfl rfl hc i [] t5 _ G5 (fun _ _ => False) I5 fB z5 goes) fun r t6 a6 => ?_
      obtain ⟨u, er, a6⟩ := a6
      subst er
      refine thnF a6 fun _ t7 a7 => ?_
      obtain ⟨x, G7, I7, rx, yx, z7, n7⟩ := a7
      have J7 := I7.pinned (fpB I7 n7) (walk.obj _ _ z7)
      refine thnF (pg.run _ t7 _ G7 x u _ J7 rx (step x G7 yx)) fun _ t8 a8 => ?_
      obtain ⟨τ, G8, I8, same8, q8⟩ := a8
      -- what a turn leaves
      have leave : ∀ {t : Shared} {G : Hp}, Inv (X.blk t3 G3 scope ce fp) ([] ++ pinsAt fp t7.heap) τ G t → Nx G → ∃ m', m' < m ∧ ∃ j G', Inv (X.blk t3 G3 scope ce fp) [] (wipe σ (own.map (·.2))) G' t ∧ tn j t.heap ∧ (∀ b ∈ fp, G' b = none) ∧ W j m' G' := by
        intro t G Jt nx
        obtain ⟨m', lt, w'⟩ := hNx G nx
        have held : ∀ b ∈ fp, ∀ o, t7.heap.get? b = some o → t.heap.get? b = some o ∧ G b = none := by
          intro b hb o q
          have z := Jt.pin (b, o) (List.mem_append_right _ (List.mem_append_right _ (mem_pinsAt hb q)))
          exact ⟨z.1, z.2.1⟩
        have len : (wipe σ (own.map (·.2))).length = τ.length := by rw [← same8, wipe_length]
        refine ⟨m', lt, i + 1, G, (Jt.unpinned (pins := [])).weak len ?_, walk.keep _ _ _ z7 (fun b hb o q => (held b hb o q).1), fun b hb => ?_, w'⟩
        · intro j v q
          rw [← same8] at q
          exact (wipe_some q).1
        · have ⟨o, q, _⟩ := walk.obj _ _ z7 b hb
          exact (held b hb o q).2
      refine wpAny_pure ?_
      simp only [if_true]
      refine thnF (pk.run _ t8 τ G8 _ I8 q8) fun kv t9 a9 => ?_
      obtain ⟨y, G9, I9, ry, q9⟩ := a9
      refine thnF (pv.run _ t9 τ G9 _ I9 q9) fun vv t10 a10 => ?_
      obtain ⟨z, G10, I10, rz, kvs, ks, ta, ey, et, eD10, few, nx⟩ := a10
      subst ey
      cases (show kv = Value.ref ta from ry)
      exact dsetT (X := X.blk t3 G3 scope ce fp) hu I10 eD10 few et rz fun t11 I11 => leave I11 nx
  exact codeAny_compStart_dict loop (walk.self X.A 0 _ _ _ z4 loop)
end KX

end
section
set_option Elab.async false
set_option linter.all false
set_option maxRecDepth 100000
/-! tables of sets up to 2048 slots: every slot is met in time -/
namespace BT
open PySem PySem.Spec PyProof.Rows L2
def Big (m : Nat) : Prop := m = 7 ∨ m = 31 ∨ m = 127 ∨ m = 511 ∨ m = 2047
/-- the slots of the first n steps, as the bits of a number -/
def bitsOf (m : Nat) : Nat → Nat → Nat → Nat
  | 0, _, acc => acc
  | n + 1, x, acc => bitsOf m n ((x * 5 + 1) % (m + 1)) (acc ||| 1 <<< x)
def lastOf (m : Nat) : Nat → Nat → Nat
  | 0, x => x
  | n + 1, x => lastOf m n ((x * 5 + 1) % (m + 1))
theorem one_step (m x : Nat) : ∀ k, lcgI m ((x * 5 + 1) % (m + 1)) k = lcgI m x (k + 1)
  | 0 => rfl
  | k + 1 => by
    show (lcgI m ((x * 5 + 1) % (m + 1)) k * 5 + 1) % (m + 1) = (lcgI m x (k + 1) * 5 + 1) % (m + 1)
    rw [one_step m x k]
theorem lastOf_eq (m : Nat) : ∀ n x, lastOf m n x = lcgI m x n
  | 0, _ => rfl
  | n + 1, x => by
    show lastOf m n ((x * 5 + 1) % (m + 1)) = _
    rw [lastOf_eq m n, one_step]
theorem bit_met (m j : Nat) : ∀ n x acc, (bitsOf m n x acc).testBit j = true → acc.testBit j = true ∨ ∃ k, k < n ∧ lcgI m x k = j
  | 0, _, _, h => .inl h
  | n + 1, x, acc, h => by
    rcases bit_met m j n _ _ h with z | ⟨k, hk, e⟩
    · rw [Nat.testBit_or, Bool.or_eq_true] at z
      rcases z with z | z
      · exact .inl z
      · refine .inr ⟨0, Nat.succ_pos _, ?_⟩
        show x = j
        rw [Nat.shiftLeft_eq, Nat.one_mul, Nat.testBit_two_pow] at z
        exact of_decide_eq_true z
    · exact .inr ⟨k + 1, Nat.succ_lt_succ hk, by rw [← one_step]; exact e⟩
theorem all7 : bitsOf 7 8 0 0 = 2 ^ 8 - 1 ∧ lastOf 7 8 0 = 0 := by decide +kernel
theorem all31 : bitsOf 31 32 0 0 = 2 ^ 32 - 1 ∧ lastOf 31 32 0 = 0 := by decide +kernel
theorem all127 : bitsOf 127 128 0 0 = 2 ^ 128 - 1 ∧ lastOf 127 128 0 = 0 := by decide +kernel
theorem all511 : bitsOf 511 512 0 0 = 2 ^ 512 - 1 ∧ lastOf 511 512 0 = 0 := by decide +kernel
theorem all2047 : bitsOf 2047 2048 0 0 = 2 ^ 2048 - 1 ∧ lastOf 2047 2048 0 = 0 := by decide +kernel
theorem Big.all {m : Nat} (h : Big m) : bitsOf m (m + 1) 0 0 = 2 ^ (m + 1) - 1 ∧ lastOf m (m + 1) 0 = 0 := by
  rcases h with e | e | e | e | e <;> subst e
  · exact all7
  · exact all31
  · exact all127
  · exact all511
  · exact all2047
theorem Big.odd {m : Nat} (h : Big m) : m % 2 = 1 := by
  rcases h with e | e | e | e | e <;> subst e <;> rfl
theorem Big.le {m : Nat} (h : Big m) : m ≤ 2047 := by
  rcases h with e | e | e | e | e <;> omega
/-- from 0 on, each slot within a round -/
theorem Big.from0 {m : Nat} (hm : Big m) {j : Nat} (hj : j ≤ m) : ∃ k, k ≤ m ∧ lcgI m 0 k = j := by
  have h : (bitsOf m (m + 1) 0 0).testBit j = true := by
    rw [hm.all.1, Nat.testBit_two_pow_sub_one]
    exact decide_eq_true (Nat.lt_succ_of_le hj)
  rcases bit_met m j _ _ _ h with z | ⟨k, hk, e⟩
  · rw [Nat.zero_testBit] at z
    cases z
  · exact ⟨k, Nat.le_of_lt_succ hk, e⟩
theorem lcgI_add (m x a : Nat) : ∀ k, lcgI m (lcgI m x a) k = lcgI m x (a + k)
  | 0 => rfl
  | k + 1 => by
    show (lcgI m (lcgI m x a) k * 5 + 1) % (m + 1) = (lcgI m x (a + k) * 5 + 1) % (m + 1)
    rw [lcgI_add m x a k]
theorem Big.from {m : Nat} (hm : Big m) {i j : Nat} (hi : i ≤ m) (hj : j ≤ m) : ∃ k, k ≤ m ∧ lcgI m i k = j := by
  obtain ⟨a, ha, ea⟩ := hm.from0 hi
  obtain ⟨b, hb, eb⟩ := hm.from0 hj
  have round : lcgI m 0 (m + 1) = 0 := by rw [← lastOf_eq]; exact hm.all.2
  subst ea
  by_cases c : a ≤ b
  · exact ⟨b - a, by omega, by rw [lcgI_add, Nat.add_sub_cancel' c]; exact eb⟩
  · refine ⟨m + 1 - a + b, by omega, ?_⟩
    have e : a + (m + 1 - a + b) = m + 1 + b := by omega
    rw [lcgI_add, e, ← lcgI_add, round]
    exact eb
/-- each slot begins a run -/
theorem Big.runs {m : Nat} (hm : Big m) (h : Int) {j : Nat} (hj : j ≤ m) : ∃ n, n ≤ m + 12 ∧ runI m (SetTable.bits h) n = j := by
  obtain ⟨k, hk, e⟩ := hm.from (runI_le m (SetTable.bits h) 12) hj
  exact ⟨12 + k, by omega, (runI_tail (bits_lt h) k).trans e⟩
theorem Big.meets {m : Nat} (hm : Big m) (h : Int) {j : Nat} (hj : j ≤ m) : ∃ k, k < 10 * SetTable.turns m ∧ way m h k = j := by
  obtain ⟨n, hn, e⟩ := hm.runs h hj
  obtain ⟨k, hk, e2⟩ := run_nth m (SetTable.bits h) n
  have t : SetTable.turns m = m + 15 := rfl
  exact ⟨k, by omega, (congrArg SetTable.Probe.j e2).trans e⟩
/-- no slot beyond the table -/
theorem inside (m : Nat) (h : Int) (k : Nat) : way m h k ≤ m := by
  have hi : SetTable.bits h % (m + 1) ≤ m := Nat.le_of_lt_succ (Nat.mod_lt _ (Nat.succ_pos _))
  have z := nth_in (m := m) k (runAt m (SetTable.bits h % (m + 1)) (SetTable.bits h)) (by
    have r := runEnd_bd hi
    show SetTable.bits h % (m + 1) + (SetTable.runEnd m (SetTable.bits h % (m + 1)) - SetTable.bits h % (m + 1)) ≤ m
    omega)
  exact Nat.le_trans (Nat.le_add_right _ _) z
/-- the slot j is met by h after taken slots alone -/
def Lies (m : Nat) (S : Nat → Prop) (h : Int) (j : Nat) : Prop := ∃ K, way m h K = j ∧ ∀ k, k < K → S (way m h k)
theorem Lies.mono {m : Nat} {S S' : Nat → Prop} {h : Int} {j : Nat} (l : Lies m S h j) (up : ∀ x, S x → S' x) : Lies m S' h j := by
  obtain ⟨K, e, b⟩ := l
  exact ⟨K, e, fun k hk => up _ (b k hk)⟩
/-- where a slot is free, the way of h comes to a free one in time -/
theorem Big.first {m : Nat} (hm : Big m) (S : Nat → Prop) (h : Int) {N k0 : Nat} (h0 : k0 ≤ N) (free : ¬ S (way m h k0)) : ∃ K, K ≤ N ∧ ¬ S (way m h K) ∧ ∀ k, k < K → S (way m h k) := by
  obtain ⟨K, h1, h2, h3⟩ := st_least (p := fun k => ¬ S (way m h k)) k0 free
  exact ⟨K, Nat.le_trans h1 h0, h2, fun k hk => Classical.byContradiction (h3 k hk)⟩
theorem short {m n : Nat} {f : Nat → Nat} {S : Nat → Prop} (hS : ∀ j, j ≤ m → S j → f j < n) (inj : ∀ i j, i ≤ m → j ≤ m → S i → S j → f i = f j → i = j) (hn : n ≤ m) : ∃ j, j ≤ m ∧ ¬ S j := by
  refine Classical.byContradiction fun no => ?_
  have all : ∀ j, j ≤ m → S j := fun j hj => Classical.byContradiction fun c => no ⟨j, hj, c⟩
  have nd : ((List.range (m + 1)).map f).Nodup := by
    refine List.pairwise_map.mpr (List.Pairwise.imp_of_mem (fun {a b} ha hb hne e => hne ?_) (List.nodup_range (n := m + 1)))
    have ha := Nat.le_of_lt_succ (List.mem_range.mp ha)
    have hb := Nat.le_of_lt_succ (List.mem_range.mp hb)
    exact inj a b ha hb (all a ha) (all b hb) e
  have z := nat_nodup_len _ (List.range n) nd fun x hx => by
    obtain ⟨j, hj, rfl⟩ := List.mem_map.mp hx
    have hj := Nat.le_of_lt_succ (List.mem_range.mp hj)
    exact List.mem_range.mpr (hS j hj (all j hj))
  rw [List.length_map, List.length_range, List.length_range] at z
  omega
end BT

end
section
set_option Elab.async false
set_option linter.all false
set_option maxRecDepth 100000
/-! a table in which each hash is found again on its way -/
namespace BT
open PySem PySem.Spec PyProof.Rows L2
structure Tab (t : SetTable) (hs : List Int) : Prop where
  ris : Ris t.place.toList
  dm : t.dummies = #[]
  num : t.place.size = hs.length
  big : Big t.mask
  le : ∀ x ∈ t.place.toList, x ≤ t.mask
  lies : ∀ q ∈ hs.zip t.place.toList, Lies t.mask (· ∈ t.place.toList) q.1 q.2
theorem Tab.len {t : SetTable} {hs : List Int} (T : Tab t hs) : t.place.toList.length = hs.length := T.num
theorem Tab.empty {t : SetTable} (h1 : t.mask = 7) (h2 : t.place = #[]) (h3 : t.dummies = #[]) : Tab t [] where
  ris := by rw [h2]; exact List.Pairwise.nil
  dm := h3
  num := by rw [h2] <;> rfl
  big := .inl h1
  le := fun x hx => by rw [h2] at hx; cases hx
  lies := fun q hq => by rw [List.zip_nil_left] at hq; cases hq
/-- a free slot on the way of any hash -/
theorem Tab.free {t : SetTable} {hs : List Int} (T : Tab t hs) (room : hs.length ≤ t.mask) (h : Int) :
    ∃ K, K < 10 * SetTable.turns t.mask ∧ way t.mask h K ∉ t.place.toList ∧ ∀ k, k < K → way t.mask h k ∈ t.place.toList := by
  obtain ⟨j, hj, no⟩ := st_missing t.place.toList (t.mask + 1) (by rw [T.len]; omega)
  obtain ⟨k0, hk0, e⟩ := T.big.meets h (Nat.le_of_lt_succ hj)
  obtain ⟨K, a, b, c⟩ := T.big.first (· ∈ t.place.toList) h (Nat.le_refl k0) (by show ¬ way t.mask h k0 ∈ _; rw [e]; exact no)
  exact ⟨K, Nat.lt_of_le_of_lt a hk0, b, c⟩
/-- what has the hash lies before the free slot -/
theorem Tab.before {t : SetTable} {hs : List Int} (T : Tab t hs) {h : Int} {K i : Nat} (no : way t.mask h K ∉ t.place.toList) (hi : hs[i]? = some h) : ∃ k, k < K ∧ t.place.toList[i]? = some (way t.mask h k) := by
  have lt : i < t.place.toList.length := by rw [T.len]; exact (List.getElem?_eq_some_iff.mp hi).1
  have hj := List.getElem?_eq_getElem lt
  obtain ⟨k, e, b⟩ := T.lies (h, t.place.toList[i]) (List.mem_of_getElem? (i := i) (List.getElem?_zip_eq_some.mpr ⟨hi, hj⟩))
  refine ⟨k, Nat.lt_of_not_le fun c => ?_, by rw [hj, e]⟩
  rcases Nat.lt_or_eq_of_le c with c | c
  · exact no (b K c)
  · rw [c, e] at no
    exact no (List.getElem_mem lt)
theorem zip_put {α β : Type} {l : List α} {m : List β} (e : l.length = m.length) (p : Nat) (x : α) (y : β) :
    (l.take p ++ x :: l.drop p).zip (m.take p ++ y :: m.drop p) = (l.zip m).take p ++ (x, y) :: (l.zip m).drop p := by
  rw [List.zip_append (by rw [List.length_take, List.length_take, e]), List.zip_cons_cons]
  show List.zipWith Prod.mk _ _ ++ (x, y) :: List.zipWith Prod.mk _ _ = (List.zipWith Prod.mk l m).take p ++ (x, y) :: (List.zipWith Prod.mk l m).drop p
  rw [List.take_zipWith, List.drop_zipWith]
/-- one more in its slot -/
theorem Tab.put {t : SetTable} {hs : List Int} (T : Tab t hs) {h : Int} {K p : Nat} (no : way t.mask h K ∉ t.place.toList) (occ : ∀ k, k < K → way t.mask h k ∈ t.place.toList) (hp : SetTable.below t.place (way t.mask h K) = p) :
    p ≤ hs.length ∧ Tab (t.put (way t.mask h K)).1 (hs.take p ++ h :: hs.drop p) := by
  have cut := (below_cut T.ris (way t.mask h K)).1
  have hl := put_place t (way t.mask h K)
  rw [hp] at cut hl
  have pl : p ≤ hs.length := by rw [← T.num]; exact cut
  have pl2 : p ≤ t.place.toList.length := cut
  have up : ∀ x, x ∈ t.place.toList → x ∈ (t.put (way t.mask h K)).1.place.toList := fun x hx => by
    rw [hl]; exact mem_ins.2 (.inr hx)
  refine ⟨pl, ris_insert T.ris (fun e => no (List.mem_of_getElem? (by rw [Array.getElem?_toList]; exact e))), put_dm T.dm _, ?_, T.big, fun x hx => ?_, fun q hq => ?_⟩
  · have z := congrArg List.length hl
    rw [len_ins _ pl2, T.len] at z
    rw [len_ins _ pl]
    exact z
  · rw [hl] at hx
    rcases mem_ins.1 hx with e | hx
    · rw [e]; exact inside _ _ _
    · exact T.le x hx
  · rw [hl, zip_put T.len.symm] at hq
    rcases mem_ins.1 hq with e | hq
    · subst e
      exact ⟨K, rfl, fun k hk => up _ (occ k hk)⟩
    · exact (T.lies q hq).mono up
theorem put_fill {t : SetTable} {hs : List Int} (T : Tab t hs) (j : Nat) : (t.put j).1.fill = (t.put j).1.place.size := by
  show (t.put j).1.place.size + (t.put j).1.dummies.size = _
  rw [put_dm T.dm]
  exact Nat.add_zero _

/-! ### laid anew -/
abbrev Taken (owner : Array (Option Nat)) (x : Nat) : Prop := oAt owner x ≠ none
/-- the seats of the hashes that are laid -/
structure Seats (m : Nat) (done : List Int) (owner : Array (Option Nat)) : Prop where
  size : owner.size = m + 1
  who : ∀ j k, j ≤ m → oAt owner j = some k → ∃ h, done[k]? = some h ∧ Lies m (Taken owner) h j
  one : ∀ i j k, i ≤ m → j ≤ m → oAt owner i = some k → oAt owner j = some k → i = j
  all : ∀ k, k < done.length → ∃ j, j ≤ m ∧ oAt owner j = some k
theorem Seats.start (m : Nat) : Seats m [] (Array.replicate (m + 1) none) where
  size := Array.size_replicate
  who := fun j k hj e => absurd (oAt_init hj) (by rw [e]; exact fun z => nomatch z)
  one := fun i j k hi _ e _ => absurd (oAt_init hi) (by rw [e]; exact fun z => nomatch z)
  all := fun k hk => absurd hk (Nat.not_lt_zero k)
theorem Seats.room {m : Nat} {done : List Int} {owner : Array (Option Nat)} (W : Seats m done owner) (hn : done.length ≤ m) : ∃ j, j ≤ m ∧ oAt owner j = none := by
  refine (short (f := fun j => (oAt owner j).getD 0) (S := Taken owner) (n := done.length) (fun j hj t => ?_) (fun i j hi hj a b e => ?_) hn).elim fun j z => ⟨j, z.1, Classical.byContradiction z.2⟩
  · cases z : oAt owner j with
    | none => exact absurd z t
    | some k =>
      obtain ⟨h, e, _⟩ := W.who j k hj z
      exact (List.getElem?_eq_some_iff.mp e).1
  · cases y : oAt owner i with
    | none => exact absurd y a
    | some k =>
      cases z : oAt owner j with
      | none => exact absurd z b
      | some l =>
        rw [y, z] at e
        have e : k = l := e
        subst e
        exact W.one i j k hi hj y z
theorem isNone_of {owner : Array (Option Nat)} {x : Nat} (h : oAt owner x = none) : (oAt owner x).isNone = true := by rw [h] <;> rfl
theorem isNone_no {owner : Array (Option Nat)} {x : Nat} (h : Taken owner x) : (oAt owner x).isNone = false := by
  cases z : oAt owner x with
  | none => exact absurd z h
  | some _ => rfl
/-- the program's own search for a seat -/
theorem Big.seat {m : Nat} (hm : Big m) (owner : Array (Option Nat)) (h : Int) {j : Nat} (hj : j ≤ m) (free : oAt owner j = none) :
    ∃ K, SetTable.layClean.free m owner (SetTable.turns m) (SetTable.bits h % (m + 1)) (SetTable.bits h) = some (way m h K) ∧ oAt owner (way m h K) = none ∧ ∀ k, k < K → Taken owner (way m h k) := by
  obtain ⟨n, hn, e⟩ := hm.runs h hj
  have at0 : way m h (off m (SetTable.bits h % (m + 1)) (SetTable.bits h) n) = j := by
    refine (congrArg SetTable.Probe.j (nth_off m n _ _)).trans ?_
    rw [itL_run]
    exact e
  obtain ⟨K, a, b, c⟩ := hm.first (Taken owner) h (Nat.le_refl (off m (SetTable.bits h % (m + 1)) (SetTable.bits h) n)) (by rw [at0]; exact fun z => z free)
  have b := Classical.byContradiction b
  have t : SetTable.turns m = m + 15 := rfl
  exact ⟨K, free_spec m owner (SetTable.turns m) n _ _ K (by omega) a (fun k hk => isNone_no (c k hk)) (isNone_of b), b, c⟩
theorem Seats.next {m : Nat} (hm : Big m) {done : List Int} {owner : Array (Option Nat)} (W : Seats m done owner) (hn : done.length ≤ m) (h : Int) :
    ∃ j, SetTable.layClean.free m owner (SetTable.turns m) (SetTable.bits h % (m + 1)) (SetTable.bits h) = some j ∧ Seats m (done ++ [h]) (owner.setIfInBounds j (some done.length)) := by
  obtain ⟨j0, hj0, free⟩ := W.room hn
  obtain ⟨K, e, no, occ⟩ := hm.seat owner h hj0 free
  have hb : way m h K < owner.size := by rw [W.size]; exact Nat.lt_succ_of_le (inside m h K)
  refine ⟨way m h K, e, ?_⟩
  generalize ej : way m h K = j at no hb e ⊢
  have me := oAt_set_self (some done.length) hb
  have other : ∀ {i : Nat}, i ≠ j → oAt (owner.setIfInBounds j (some done.length)) i = oAt owner i := fun c => oAt_set_ne _ c
  have up : ∀ x, Taken owner x → Taken (owner.setIfInBounds j (some done.length)) x := fun x hx => by
    by_cases c : x = j
    · show oAt _ x ≠ none
      rw [c, me]
      exact fun z => nomatch z
    · show oAt _ x ≠ none
      rw [other c]
      exact hx
  have old : ∀ {i k : Nat}, i ≤ m → oAt owner i = some k → k < done.length := fun hi z => by
    obtain ⟨_, y, _⟩ := W.who _ _ hi z
    exact (List.getElem?_eq_some_iff.mp y).1
  refine ⟨by rw [Array.size_setIfInBounds]; exact W.size, fun i k hi z => ?_, fun i l k hi hl y z => ?_, fun k hk => ?_⟩
  · by_cases c : i = j
    · rw [c, me] at z
      obtain rfl := Option.some.inj z
      exact ⟨h, by rw [List.getElem?_append_right (Nat.le_refl _), Nat.sub_self] <;> rfl, K, ej.trans c.symm, fun k hk => up _ (occ k hk)⟩
    · rw [other c] at z
      obtain ⟨g, y, l⟩ := W.who i k hi z
      exact ⟨g, by rw [List.getElem?_append_left (old hi z)]; exact y, l.mono up⟩
  · by_cases c : i = j
    · by_cases d : l = j
      · rw [c, d]
      · rw [c, me] at y
        rw [other d] at z
        obtain rfl := Option.some.inj y
        exact absurd (old hl z) (Nat.lt_irrefl _)
    · rw [other c] at y
      by_cases d : l = j
      · rw [d, me] at z
        obtain rfl := Option.some.inj z
        exact absurd (old hi y) (Nat.lt_irrefl _)
      · rw [other d] at z
        exact W.one i l k hi hl y z
  · rw [List.length_append, List.length_singleton] at hk
    by_cases c : k = done.length
    · rw [c]
      exact ⟨j, by rw [← ej]; exact inside m h K, me⟩
    · obtain ⟨i, hi, y⟩ := W.all k (by omega)
      refine ⟨i, hi, ?_⟩
      rw [other fun d => ?_]
      · exact y
      · rw [d, no] at y
        cases y
theorem Seats.rest {m : Nat} (hm : Big m) : ∀ (more done : List Int) (owner : Array (Option Nat)), Seats m done owner → done.length + more.length ≤ m →
    ∃ o, more.foldl (stepF m) (some (owner, done.length)) = some (o, done.length + more.length) ∧ Seats m (done ++ more) o
  | [], done, owner, W, _ => ⟨owner, rfl, by rw [List.append_nil]; exact W⟩
  | h :: more, done, owner, W, hl => by
    rw [List.length_cons] at hl
    obtain ⟨j, e, W1⟩ := W.next hm (by omega) h
    have l1 : (done ++ [h]).length = done.length + 1 := List.length_append
    obtain ⟨o, f, W2⟩ := Seats.rest hm more (done ++ [h]) _ W1 (by omega)
    rw [List.append_assoc] at W2
    rw [l1] at f
    refine ⟨o, ?_, W2⟩
    rw [List.foldl_cons, stepF_some e, f, List.length_cons]
    congr 2
    omega
theorem Big.clean {m : Nat} (hm : Big m) {hs : Array Int} (hn : hs.size ≤ m) : ∃ o, SetTable.layClean m hs = some o ∧ Seats m hs.toList o := by
  obtain ⟨o, f, W⟩ := Seats.rest hm hs.toList [] _ (Seats.start m) (by rw [List.length_nil, Nat.zero_add]; exact hn)
  refine ⟨o, ?_, W⟩
  rw [layClean_eq]
  exact congrArg (Option.map Prod.fst) f
/-- the table laid anew -/
theorem Big.again {M : Nat} (hM : Big M) (t : SetTable) {hs : Array Int} {wanted : Nat} (hw : SetTable.sizeAbove wanted - 1 = M) (hn : hs.size ≤ M) :
    ∃ t' order, t.relaid hs wanted = some (t', order) ∧ order.toList.Perm (List.range hs.size) ∧ Tab t' (order.toList.map fun i => hs.getD i 0) ∧ t'.mask = M ∧ t'.led = t.led ∧ t'.plain = t.plain := by
  obtain ⟨o, e, W⟩ := hM.clean hn
  have rs := ris_live (fun j => o.getD j none) (List.range (M + 1)) List.pairwise_lt_range
  have ml : ∀ {j k : Nat}, (j, k) ∈ liveOf M o ↔ j ≤ M ∧ oAt o j = some k := mem_live W.size
  have ndl : (liveOf M o).Nodup := List.Pairwise.of_map Prod.fst (fun a b (hne : a.1 < b.1) q => by rw [q] at hne; exact Nat.lt_irrefl _ hne) rs.1
  refine ⟨tabOf t M o, ((liveOf M o).map (·.2)).toArray, ?_, ?_, ⟨rs.1, rfl, ?_, hM, fun x hx => Nat.le_of_lt_succ (List.mem_range.mp (rs.2 x hx)), fun q hq => ?_⟩, rfl, rfl, rfl⟩
  · rw [relaid_eq, hw, e] <;> rfl
  · refine (List.perm_ext_iff_of_nodup ?_ List.nodup_range).mpr fun k => ?_
    · refine List.pairwise_map.mpr (ndl.imp_of_mem fun {a b} ha hb hne q => hne ?_)
      obtain ⟨a1, a2⟩ := ml.1 ha
      obtain ⟨b1, b2⟩ := ml.1 hb
      exact Prod.ext (W.one _ _ _ a1 b1 a2 (by rw [b2, q])) q
    · rw [List.mem_range]
      constructor
      · intro hk
        obtain ⟨⟨j, l⟩, hq, rfl⟩ := List.mem_map.mp hk
        obtain ⟨a, b⟩ := ml.1 hq
        obtain ⟨_, y, _⟩ := W.who _ _ a b
        exact (List.getElem?_eq_some_iff.mp y).1
      · intro hk
        obtain ⟨j, a, b⟩ := W.all k hk
        exact List.mem_map.mpr ⟨(j, k), ml.2 ⟨a, b⟩, rfl⟩
  · show ((liveOf M o).map (·.1)).toArray.size = (((liveOf M o).map (·.2)).map fun i => hs.getD i 0).length
    rw [List.size_toArray, List.length_map, List.length_map, List.length_map]
  · have hq : q ∈ (((liveOf M o).map (·.2)).map fun i => hs.getD i 0).zip ((liveOf M o).map (·.1)) := hq
    rw [List.map_map, List.zip_map', List.mem_map] at hq
    obtain ⟨⟨j, k⟩, hm, rfl⟩ := hq
    obtain ⟨a, b⟩ := ml.1 hm
    obtain ⟨h, y, l⟩ := W.who j k a b
    have eh : hs.getD k 0 = h := by
      rw [Array.getD_eq_getD_getElem?, ← Array.getElem?_toList, y] <;> rfl
    show Lies M (· ∈ (liveOf M o).map (·.1)) (hs.getD k 0) j
    rw [eh]
    obtain ⟨K, e1, occ⟩ := l
    refine ⟨K, e1, fun k' hk => ?_⟩
    cases z : oAt o (way M h k') with
    | none => exact absurd z (occ k' hk)
    | some l => exact List.mem_map.mpr ⟨(_, l), ml.2 ⟨inside M h k', z⟩, rfl⟩
end BT

end
section
set_option Elab.async false
set_option linter.all false
set_option maxRecDepth 100000
/-! sets of tuples, of up to 1199 of them: search, add, lay anew -/
namespace BT
open PySem PySem.Spec PyProof.Rows L2
abbrev hashes (P : Program) (w : World) (L : List (Addr × List Int)) : List Int := L.map fun p => thash P w p.2
/-- a set of tuples of ints, as it stands in the heap -/
structure Holds (P : Program) (w : World) (h : Heap) (a : Addr) (L : List (Addr × List Int)) (es : Array (Int × Value)) (ep : Nat) (t : SetTable) : Prop where
  obj : ∃ o, h.get? a = some o ∧ o.ExactSet ∧ o.data = .set es ep t
  rows : es.toList = rowsOf P w L
  tab : Tab t (hashes P w L)
  nd : (L.map (·.2)).Nodup
  tup : ∀ p ∈ L, IsT P w h p.2 p.1
  plain : t.plain = true
  led : w.params.followText "set-order" = true ∨ t.led = true
  room : L.length * 5 < t.mask * 3
section
variable {P : Program} {w : World} {A : Around} {E : Value → Shared → Prop} {s : Shared} {a : Addr} {L : List (Addr × List Int)} {es : Array (Int × Value)} {ep : Nat} {t : SetTable}
theorem rows_size (h : es.toList = rowsOf P w L) : es.size = L.length := by
  have z := congrArg List.length h
  rw [show (rowsOf P w L).length = L.length from List.length_map ..] at z
  exact z
theorem fits_of {n : Nat} {hs : List Int} (T : Tab t hs) (e : n = hs.length) (r : n ≤ t.mask) : t.fits n = true := by
  have f : t.fill = t.place.size := by
    show t.place.size + t.dummies.size = _
    rw [T.dm]
    exact Nat.add_zero _
  have z := T.num
  unfold SetTable.fits
  rw [f, Bool.and_eq_true]
  exact ⟨beq_iff_eq.mpr (by omega), decide_eq_true (by omega)⟩
theorem Holds.fit (R : Holds P w s.heap a L es ep t) : t.fits es.size = true := by
  have z := rows_size R.rows
  have r := R.room
  exact fits_of R.tab (by rw [z, List.length_map]) (by omega)
theorem Holds.entry (R : Holds P w s.heap a L es ep t) {i : Nat} {p : Addr × List Int} (h : L[i]? = some p) : es[i]? = some (thash P w p.2, Value.ref p.1) := by
  rw [← Array.getElem?_toList, R.rows]
  exact (List.getElem?_map ..).trans (by rw [h] <;> rfl)
theorem Holds.odd (R : Holds P w s.heap a L es ep t) : ¬ t.gaveWay = true := by
  unfold SetTable.gaveWay
  rw [R.tab.big.odd]
  decide
/-- the first probe of a hash -/
abbrev base (t : SetTable) (h : Int) : SetTable.Probe := runAt t.mask (SetTable.bits h % (t.mask + 1)) (SetTable.bits h)
theorem no_dummy (m : Nat) : ∀ (n : Nat) (p : SetTable.Probe), p.dummy = none → (nth m p n).dummy = none
  | 0, _, h => h
  | n + 1, p, h => no_dummy m n _ (by unfold adv; split <;> exact h)
/-- the search of k, from step c of its way: what stands ahead of c has another key -/
theorem search_on (R : Holds P w s.heap a L es ep t) {x : Addr} {k : List Int} (hx : IsT P w s.heap k x) (hu : A.units < cLine) {K : Nat} (bound : K < 10 * SetTable.turns t.mask)
    (no : way t.mask (thash P w k) K ∉ t.place.toList) (occ : ∀ c, c < K → way t.mask (thash P w k) c ∈ t.place.toList) {Q : SetFound → Shared → Prop}
    (found : k ∈ L.map (·.2) → Q (.there none) s) (free : k ∉ L.map (·.2) → Q (.free (way t.mask (thash P w k) K) false) s) :
    ∀ (f c : Nat) (stand : Option SetTable.Probe), stand.getD (t.probeStart (thash P w k)) = nth t.mask (base t (thash P w k)) c → c ≤ K → K < f + c →
      (∀ (i : Nat) p c', L[i]? = some p → p.2 = k → c' < c → t.place.toList[i]? ≠ some (way t.mask (thash P w k) c')) →
      wpAny (model P w) A (setSearchFrom a (.ref x) (thash P w k) true f stand) Q E s := by
  intro f
  induction f with
  | zero => intro c stand _ h1 h2; exact absurd h2 (by omega)
  | succ f ih =>
    intro c stand here hc hf past
    obtain ⟨o, ho, ex, hd⟩ := R.obj
    have size := rows_size R.rows
    have steps : ∀ q, nth t.mask (nth t.mask (base t (thash P w k)) c) q = nth t.mask (base t (thash P w k)) (c + q) := fun q => (nth_add t.mask c _ q).symm
    have hashOf : ∀ {i : Nat} {p : Addr × List Int}, L[i]? = some p → (es[i]?.map (·.1)).getD 0 = thash P w p.2 := fun hp => by rw [R.entry hp] <;> rfl
    have spec := go_spec t R.tab.ris R.tab.dm (fun i => (es[i]?.map (·.1)).getD 0) (thash P w k) (10 * SetTable.turns t.mask) (K - c) (nth t.mask (base t (thash P w k)) c) (no_dummy _ c _ rfl) (by omega)
      (fun q hq => by rw [steps]; exact occ (c + q) (by omega)) (by rw [steps, Nat.add_sub_cancel' hc]; exact no)
    rw [setSearchFrom_succ]
    refine wpAny_bind (wpAny_setState_of ho hd R.fit ?_)
    dsimp only
    refine wp_if_neg R.odd ?_
    try refine wpAny_bind (wpAny_pure ?_)
    rw [here]
    rcases spec with ⟨q, i, hq, hi, hh, skipped, met⟩ | ⟨skipped, met⟩
    · rw [steps] at hi met
      rw [steps] at met
      have met : t.probe (fun i => (es[i]?.map (·.1)).getD 0) (thash P w k) (nth t.mask (base t (thash P w k)) c) = some (.candidate (way t.mask (thash P w k) (c + q)) i (nth t.mask (base t (thash P w k)) (c + (q + 1)))) := met
      rw [met]
      dsimp only
      have lt : i < L.length := by
        have z := (List.getElem?_eq_some_iff.mp hi).1
        rw [R.tab.len, List.length_map] at z
        exact z
      have hp := List.getElem?_eq_getElem lt
      generalize L[i] = p at hp
      have hm := List.mem_of_getElem? hp
      have live : t.slot (way t.mask (thash P w k) (c + q)) = .live i := slot_live R.tab.ris hi
      have rest : wpAny (model P w) A (searchRest a (.ref x) (thash P w k) true f es t (way t.mask (thash P w k) (c + q)) i (nth t.mask (base t (thash P w k)) (c + (q + 1)))) Q E s := by
        unfold searchRest
        rw [R.entry hp]
        dsimp only
        refine wpAny_bind (wpAny_holding (wpAny_eqBool_tuple hu (R.tup p hm) hx ?_))
        refine wpAny_bind (wpAny_setState_of ho hd R.fit ?_)
        dsimp only
        by_cases same : p.2 = k
        · refine wp_if_pos (by rw [same]; simp) ?_
          exact wpAny_pure (found (List.mem_map.mpr ⟨p, hm, same⟩))
        · refine wp_if_neg (by simp [same]) ?_
          try refine wpAny_bind (wpAny_pure ?_)
          rw [L2.sameMem]
          dsimp only
          simp only [if_true, live, R.entry hp]
          refine wpAny_bind (wpAny_isSame_ref_self (wpAny_bind (wpAny_pure ?_)))
          simp only [if_true]
          refine wp_if_neg (by simp [same]) ?_
          refine ih (c + (q + 1)) _ rfl (by omega) (by omega) fun i0 p0 c' h0 hk lt' at' => ?_
          rcases Nat.lt_or_ge c' c with z | z
          · exact past i0 p0 c' h0 hk z at'
          · rcases Nat.lt_or_ge c' (c + q) with y | y
            · refine skipped (c' - c) i0 (by omega) (by rw [steps, Nat.add_sub_cancel' z]; exact at') ?_
              exact (hashOf h0).trans (congrArg (thash P w) hk)
            · have e : c' = c + q := by omega
              rw [e] at at'
              have l0 := slot_live R.tab.ris at'
              rw [live] at l0
              injection l0 with l0
              rw [← l0, hp] at h0
              exact same ((congrArg Prod.snd (Option.some.inj h0)).trans hk)
      by_cases hl : t.led = true
      · refine wp_if_neg (by simp [hl]) ?_
        try refine wpAny_bind (wpAny_pure ?_)
        exact rest
      · refine wp_if_pos (by simp [hl]) ?_
        refine wpAny_bind (seen_tup hx (fun y hy => ?_) ?_)
        · obtain ⟨e, he, rfl⟩ := List.mem_map.mp hy
          have he : e ∈ es.toList := by
            have z : e ∈ es ∧ e.1 = thash P w k := by simpa using he
            simpa using z.1
          rw [R.rows] at he
          obtain ⟨p2, hp2, rfl⟩ := List.mem_map.mp he
          exact ⟨p2.2, p2.1, rfl, R.tup p2 hp2⟩
        · refine wp_if_neg (by decide) ?_
          try refine wpAny_bind (wpAny_pure ?_)
          exact rest
    · rw [steps, Nat.add_sub_cancel' hc] at met
      have met : t.probe (fun i => (es[i]?.map (·.1)).getD 0) (thash P w k) (nth t.mask (base t (thash P w k)) c) = some (.empty (way t.mask (thash P w k) K) none) := met
      rw [met]
      dsimp only
      refine wpAny_pure (free fun hm => ?_)
      obtain ⟨p0, h0, hk⟩ := List.mem_map.mp hm
      obtain ⟨i0, h0⟩ := List.getElem?_of_mem h0
      obtain ⟨c', lt', at'⟩ := R.tab.before (h := thash P w k) (i := i0) no (by rw [List.getElem?_map, h0, ← hk] <;> rfl)
      rcases Nat.lt_or_ge c' c with z | z
      · exact past i0 p0 c' h0 hk z at'
      · refine skipped (c' - c) i0 (by omega) (by rw [steps, Nat.add_sub_cancel' z]; exact at') ?_
        exact (hashOf h0).trans (congrArg (thash P w) hk)
/-- the search that adding asks for -/
theorem search_all (R : Holds P w s.heap a L es ep t) {x : Addr} {k : List Int} (hx : IsT P w s.heap k x) (hu : A.units < cLine) {Q : SetFound → Shared → Prop}
    (found : k ∈ L.map (·.2) → Q (.there none) s)
    (free : ∀ K, k ∉ L.map (·.2) → way t.mask (thash P w k) K ∉ t.place.toList → (∀ c, c < K → way t.mask (thash P w k) c ∈ t.place.toList) → Q (.free (way t.mask (thash P w k) K) false) s) :
    wpAny (model P w) A (setSearch a (.ref x) (thash P w k) true) Q E s := by
  have room := R.room
  obtain ⟨K, bound, no, occ⟩ := R.tab.free (by rw [List.length_map]; omega) (thash P w k)
  have most := R.tab.big.le
  have turns : SetTable.turns t.mask = t.mask + 15 := rfl
  unfold setSearch
  exact search_on R hx hu bound no occ found (fun n => free K n no occ) 100000 0 none rfl (Nat.zero_le _) (by omega) fun i p c' _ _ z => absurd z (Nat.not_lt_zero _)

theorem up5 : SetTable.sizeAbove (SetTable.grown 5) = 31 + 1 := by decide +kernel
theorem up19 : SetTable.sizeAbove (SetTable.grown 19) = 127 + 1 := by decide +kernel
theorem up77 : SetTable.sizeAbove (SetTable.grown 77) = 511 + 1 := by decide +kernel
theorem up307 : SetTable.sizeAbove (SetTable.grown 307) = 2047 + 1 := by decide +kernel
/-- the size that comes when a table is too full -/
theorem Big.grows {m n : Nat} (hm : Big m) (room : n * 5 < m * 3) (full : (n + 1) * 5 ≥ m * 3) (few : n + 1 < 1200) :
    n + 1 ≤ m ∧ ∃ M, Big M ∧ SetTable.sizeAbove (SetTable.grown (n + 1)) = M + 1 ∧ (n + 1) * 5 < M * 3 := by
  rcases hm with e | e | e | e | e
  · have z : n = 4 := by omega
    subst z
    exact ⟨by omega, 31, .inr (.inl rfl), up5, by omega⟩
  · have z : n = 18 := by omega
    subst z
    exact ⟨by omega, 127, .inr (.inr (.inl rfl)), up19, by omega⟩
  · have z : n = 76 := by omega
    subst z
    exact ⟨by omega, 511, .inr (.inr (.inr (.inl rfl))), up77, by omega⟩
  · have z : n = 306 := by omega
    subst z
    exact ⟨by omega, 2047, .inr (.inr (.inr (.inr rfl))), up307, by omega⟩
  · omega
/-- laid anew, in a table with room -/
theorem relay_big {o : Obj} (ho : s.heap.get? a = some o) (ex : o.ExactSet) (hd : o.data = .set es ep t) (rows : es.toList = rowsOf P w L) (T : Tab t (hashes P w L)) (full : L.length ≤ t.mask)
    (nd : (L.map (·.2)).Nodup) (tup : ∀ p ∈ L, IsT P w s.heap p.2 p.1) (pl : t.plain = true) (ld : w.params.followText "set-order" = true ∨ t.led = true) {wanted M : Nat}
    (hM : Big M) (hw : SetTable.sizeAbove wanted = M + 1) (room : L.length * 5 < M * 3) {Q : Unit → Shared → Prop}
    (q : ∀ h' L' es' ep' t', Heap.SameBut a s.heap h' → Holds P w h' a L' es' ep' t' → L'.Perm L → Q () { s with heap := h' }) : wpAny (model P w) A (setRelay a wanted) Q E s := by
  have size := rows_size rows
  have most := hM.le
  obtain ⟨t', order, e, pm, T', em, el, ep'⟩ := hM.again t (hs := es.map (·.1)) (wanted := wanted) (by omega) (by rw [Array.size_map]; omega)
  rw [Array.size_map, size] at pm
  obtain ⟨L', r1, r2, r3⟩ := order_rows L es order rows pm
  rw [← r3] at T'
  have size' : (order.filterMap (es[·]?)).size = es.size := by rw [rows_size r1, r2.length_eq, size]
  rw [setRelay_eq]
  refine wpAny_bind (wpAny_setState_of ho hd (fits_of T (by rw [size, List.length_map]) (by omega)) ?_)
  dsimp only
  refine wp_if_neg (by rw [sizeLine_eq]; omega) ?_
  try refine wpAny_bind (wpAny_pure ?_)
  rw [e]
  dsimp only
  refine wpAny_bind ?_
  refine wp_if_neg (by rw [size']; simp) ?_
  try refine wpAny_bind (wpAny_pure ?_)
  refine wpAny_pure ?_
  dsimp only
  refine wpAny_storeSet_of ho hd ?_ (by rw [size', size, sizeLine_eq]; omega)
  have but : Heap.SameBut a s.heap (s.heap.update a (Obj.putSet (order.filterMap (es[·]?)) t')) := Heap.SameBut.update ..
  refine q _ L' _ (ep + 1) t' but ⟨⟨_, store_at ho hd, ⟨ex.1, ex.2.1, ex.2.2⟩, rfl⟩, r1, T', (r2.map (·.2)).nodup_iff.mpr nd, fun p hp => isT_same (tup p (r2.mem_iff.mp hp)) ho hd but, by rw [ep']; exact pl, by rw [el]; exact ld, ?_⟩ r2
  rw [r2.length_eq, em]
  exact room
/-- one is added, or stands there -/
theorem add_big (R : Holds P w s.heap a L es ep t) {x : Addr} {k : List Int} (hx : IsT P w s.heap k x) (hu : A.units < cLine) (few : L.length + 1 < 1200) {Q : Bool → Shared → Prop}
    (q : ∀ b h' L' es' ep' t', Heap.SameBut a s.heap h' → Holds P w h' a L' es' ep' t' → (k ∈ L.map (·.2) → L' = L) → (k ∉ L.map (·.2) → L'.Perm ((x, k) :: L)) → Q b { s with heap := h' }) :
    wpAny (model P w) A (setAddHashed a (.ref x) (thash P w k)) Q E s := by
  obtain ⟨o, ho, ex, hd⟩ := R.obj
  have size := rows_size R.rows
  have room := R.room
  unfold setAddHashed
  refine wpAny_holding ?_
  rw [show (100000 : Nat) = 99999 + 1 from rfl, setAddHashedIn_succ]
  refine wpAny_bind (wpAny_setState_of ho hd R.fit ?_)
  dsimp only
  refine wp_if_neg (by simp [byScan, Value.scannable]) ?_
  try refine wpAny_bind (wpAny_pure ?_)
  refine wpAny_bind (search_all R hx hu (fun hm => wpAny_pure (q false s.heap L es ep t (Heap.SameBut.refl a s.heap) R (fun _ => rfl) fun z => absurd hm z)) fun K hm no occ => ?_)
  dsimp only
  refine wpAny_bind (wpAny_setState_of ho hd R.fit ?_)
  dsimp only
  obtain ⟨p, hp⟩ : ∃ p, SetTable.below t.place (way t.mask (thash P w k) K) = p := ⟨_, rfl⟩
  obtain ⟨le, T⟩ := R.tab.put no occ hp
  have fill : (t.put (way t.mask (thash P w k) K)).1.fill = L.length + 1 := by
    have z := T.num
    rw [put_fill R.tab, z, len_ins _ le, List.length_map]
  have pos : (t.put (way t.mask (thash P w k) K)).2 = p := hp
  have pl : (t.put (way t.mask (thash P w k) K)).1.plain = true := R.plain
  have ld : w.params.followText "set-order" = true ∨ (t.put (way t.mask (thash P w k) K)).1.led = true := R.led
  have mk : (t.put (way t.mask (thash P w k) K)).1.mask = t.mask := rfl
  generalize t.put (way t.mask (thash P w k) K) = pt at T fill pos pl ld mk ⊢
  obtain ⟨t1, p1⟩ := pt
  dsimp only at T fill pos pl ld mk ⊢
  subst pos
  first
    | (refine wpAny_bind ?_; refine wp_if_pos pl ?_; refine hashBy_tup hx ?_)
    | refine wp_if_pos pl (wpAny_bind (hashBy_tup hx ?_))
  simp only [if_true]
  have rows1 : (SetTable.insertAt es p1 (thash P w k, Value.ref x)).toList = rowsOf P w (L.take p1 ++ (x, k) :: L.drop p1) := by
    rw [SetTable.toList_insertAt, rows_put, R.rows]
  have pm := put_perm L p1 (x, k)
  have T1 : Tab t1 (hashes P w (L.take p1 ++ (x, k) :: L.drop p1)) := by
    rw [show hashes P w (L.take p1 ++ (x, k) :: L.drop p1) = (hashes P w L).take p1 ++ thash P w k :: (hashes P w L).drop p1 by
      unfold hashes
      rw [List.map_append, List.map_cons, List.map_take, List.map_drop]]
    exact T
  generalize SetTable.insertAt es p1 (thash P w k, Value.ref x) = es1 at rows1 ⊢
  generalize L.take p1 ++ (x, k) :: L.drop p1 = L1 at pm rows1 T1
  have n1 : L1.length = L.length + 1 := pm.length_eq
  have size1 := rows_size rows1
  have nd1 : (L1.map (·.2)).Nodup := (pm.map (·.2)).nodup_iff.mpr (List.nodup_cons.mpr ⟨hm, R.nd⟩)
  refine wpAny_bind (wpAny_storeSet_of ho hd ?_ (by rw [size1, n1, sizeLine_eq]; omega))
  have but : Heap.SameBut a s.heap (s.heap.update a (Obj.putSet es1 t1)) := Heap.SameBut.update ..
  have ho1 := store_at (es' := es1) (t' := t1) ho hd
  generalize s.heap.update a (Obj.putSet es1 t1) = h1 at but ho1 ⊢
  have tup1 : ∀ p ∈ L1, IsT P w h1 p.2 p.1 := fun p hp => by
    rcases List.mem_cons.mp (pm.mem_iff.mp hp) with e | hp
    · rw [e]; exact isT_same hx ho hd but
    · exact isT_same (R.tup p hp) ho hd but
  have too : t1.tooFull = decide ((L.length + 1) * 5 ≥ t.mask * 3) := by
    show decide (t1.fill * 5 ≥ t1.mask * 3) = _
    rw [fill, mk]
  by_cases full : (L.length + 1) * 5 ≥ t.mask * 3
  · have hf : t1.tooFull = true := by rw [too]; exact decide_eq_true full
    obtain ⟨g1, M, g2, g3, g4⟩ := R.tab.big.grows room full few
    first
      | (refine wpAny_bind ?_; refine wp_if_pos (by simp [hf]) ?_)
      | (refine wp_if_pos (by simp [hf]) ?_; refine wpAny_bind ?_)
    rw [size]
    refine relay_big (s := { s with heap := h1 }) ho1 ⟨ex.1, ex.2.1, ex.2.2⟩ rfl rows1 T1 (by rw [n1, mk]; exact g1) nd1 tup1 pl ld g2 g3 (by rw [n1]; exact g4) fun h2 L2 es2 ep2 t2 but2 R2 pm2 => ?_
    exact wpAny_pure (q true h2 L2 es2 ep2 t2 (but.trans but2) R2 (fun z => absurd z hm) fun _ => pm2.trans pm)
  · have hf : t1.tooFull = false := by rw [too]; exact decide_eq_false full
    first
      | refine wp_if_neg (by simp [hf]) ?_
      | (refine wpAny_bind ?_; refine wp_if_neg (by simp [hf]) ?_; refine wpAny_pure ?_)
    refine wpAny_pure (q true h1 L1 es1 (ep + 1) t1 but ⟨⟨_, ho1, ⟨ex.1, ex.2.1, ex.2.2⟩, rfl⟩, rows1, T1, nd1, tup1, pl, ld, ?_⟩ (fun z => absurd z hm) fun _ => pm)
    rw [n1, mk]
    omega
end
end BT

end
section
set_option Elab.async false
set_option linter.all false
set_option maxRecDepth 100000
/-! set(list of tuples) and sorted(set of pairs), of up to 1199 -/
namespace BT
open PySem PySem.Spec PyProof.Rows L2
section
variable {P : Program} {w : World} {A : Around} {E : Value → Shared → Prop} {s : Shared}
theorem Holds.moved {h h' : Heap} {a : Addr} {L : List (Addr × List Int)} {es : Array (Int × Value)} {ep : Nat} {t : SetTable} (R : Holds P w h a L es ep t) (ha : ∀ o, h.get? a = some o → h'.get? a = some o) (ht : ∀ p ∈ L, IsT P w h' p.2 p.1) : Holds P w h' a L es ep t := by
  obtain ⟨o, ho, r⟩ := R.obj
  exact { R with obj := ⟨o, ha o ho, r⟩, tup := ht }
/-- the set S has got the first i tuples -/
def Fed (P : Program) (w : World) (ks : List (Addr × List Int)) (S : Addr) (i : Nat) (h : Heap) : Prop := ∃ L es ep t, Holds P w h S L es ep t ∧ Got ks i L
abbrev setObj (w : World) : Obj := { cls := .type "set", dict := none, data := .set #[] 0 (.fresh 0 0 (!w.params.followText "set-order")) }
theorem Fed.start (ks : List (Addr × List Int)) {h : Heap} {S : Addr} (ho : h.get? S = some (setObj w)) : Fed P w ks S 0 h := by
  refine ⟨[], #[], 0, .fresh 0 0 (!w.params.followText "set-order"), ⟨⟨_, ho, ⟨rfl, rfl, rfl⟩, rfl⟩, rfl, Tab.empty rfl rfl rfl, List.nodup_nil, (fun p hp => (nomatch hp)), rfl, ?_, (by show 0 * 5 < 7 * 3; decide)⟩, Got.zero ks⟩
  show w.params.followText "set-order" = true ∨ (!w.params.followText "set-order") = true
  cases w.params.followText "set-order" <;> simp
theorem Got.mem {ks L : List (Addr × List Int)} {i : Nat} (g : Got ks i L) : ∀ p ∈ L, p ∈ ks := fun p hp => List.mem_of_mem_take (g.sub p hp)
theorem Fed.kept {ks : List (Addr × List Int)} {S : Addr} {i : Nat} {h h' : Heap} (f : Fed P w ks S i h) (ha : ∀ o, h.get? S = some o → h'.get? S = some o) (ht : ∀ p ∈ ks, IsT P w h' p.2 p.1) : Fed P w ks S i h' := by
  obtain ⟨L, es, ep, t, R, g⟩ := f
  exact ⟨L, es, ep, t, R.moved ha fun p hp => ht p (Got.mem g p hp), g⟩
/-- one step: the tuple at place i is added -/
theorem Fed.add {ks : List (Addr × List Int)} {S : Addr} {i : Nat} {p : Addr × List Int} (f : Fed P w ks S i s.heap) (hp : ks[i]? = some p) (hx : IsT P w s.heap p.2 p.1) (hu : A.units < cLine) (few : ks.length < 1200) {Q : Bool → Shared → Prop}
    (q : ∀ b h', Heap.SameBut S s.heap h' → Fed P w ks S (i + 1) h' → Q b { s with heap := h' }) : wpAny (model P w) A (setAddHashed S (.ref p.1) (thash P w p.2)) Q E s := by
  obtain ⟨L, es, ep, t, R, g⟩ := f
  have lt := (List.getElem?_eq_some_iff.mp hp).1
  have len := g.len
  refine add_big R hx hu (by omega) fun b h' L' es' ep' t' but R' old new => q b h' but ⟨L', es', ep', t', R', ?_⟩
  by_cases c : p.2 ∈ L.map (·.2)
  · rw [old c]; exact g.same hp c
  · exact g.more hp (new c)
/-- the update's loop, from place i on -/
theorem fed_loop {I : Addr} {fp wr : List Addr} {G : Array GenState → Array GenState → Prop} {n : Nat} {Pv : Nat → Value → Prop} {St : Nat → Shared → Prop} {R : Result → Shared → Prop}
    (W : WalksS P w A.in1 I fp wr G n Pv St) (S : Addr) (out : S ∉ fp) (ks : List (Addr × List Int)) (hn : n = ks.length) (few : ks.length < 1200) (val : ∀ i v, Pv i v → ∃ p, ks[i]? = some p ∧ v = .ref p.1)
    (h0 : Heap) (tups : ∀ p ∈ ks, IsT P w h0 p.2 p.1) (newS : h0.get? S = none) (newW : ∀ b ∈ wr, h0.get? b = none) (hu : A.in1.units < cLine) :
    ∀ (left i : Nat) (s : Shared), i + left = n → St i s → (∀ b o, h0.get? b = some o → s.heap.get? b = some o) → Fed P w ks S i s.heap →
      (∀ s', Moved (S :: wr) G s s' → Fed P w ks S n s'.heap → (∀ b o, h0.get? b = some o → s'.heap.get? b = some o) → R (.ok (.ret .none)) s') →
      codeAny (model P w) A (.builtin "set.update.loop" ⟨[.ref S, .ref I], []⟩) R s := by
  have outW : S ∉ wr := fun h => out (W.sub _ h)
  have wider : ∀ b ∈ wr, b ∈ S :: wr := fun b hb => List.mem_cons_of_mem _ hb
  have keepM : ∀ {s s' : Shared}, Moved wr G s s' → (∀ b o, h0.get? b = some o → s.heap.get? b = some o) → ∀ b o, h0.get? b = some o → s'.heap.get? b = some o :=
    fun mv k b o e => mv.heap b o (fun hb => by have z := newW b hb; rw [e] at z; cases z) (k b o e)
  have tupK : ∀ {h' : Heap}, (∀ b o, h0.get? b = some o → h'.get? b = some o) → ∀ p ∈ ks, IsT P w h' p.2 p.1 := fun k p hp => isT_keep (tups p hp) k
  intro left
  induction left with
  | zero =>
    intro i s e st k f R'
    have e : i = n := e
    subst e
    refine codeAny_builtin F.entry_set_update_loop ?_
    rw [Around.under_plainId F.plain_set_update_loop _]
    show wpAny _ A.in1 (pyNext (.ref I) >>= _) _ _ s
    refine wpAny_bind (W.done s _ _ st fun s' mv => ?_)
    show wpAny _ A.in1 (ret Value.none) _ _ s'
    exact wpAny_pure (R' s' (mv.mono wider) (f.kept (fun o e => mv.heap S o outW e) (tupK (keepM mv k))) (keepM mv k))
  | succ left ih =>
    intro i s e st k f R'
    refine codeAny_builtin F.entry_set_update_loop ?_
    rw [Around.under_plainId F.plain_set_update_loop _]
    show wpAny _ A.in1 (pyNext (.ref I) >>= _) _ _ s
    refine wpAny_bind (W.item i s _ _ (by omega) st fun v s' pv st' mv => ?_)
    obtain ⟨p, hp, rfl⟩ := val i v pv
    have k' := keepM mv k
    have hx : IsT P w s'.heap p.2 p.1 := tupK k' p (List.mem_of_getElem? hp)
    have f' := f.kept (fun o e => mv.heap S o outW e) (tupK k')
    show wpAny _ A.in1 (holding [Value.ref p.1] (setAdd S (.ref p.1)) >>= _) _ _ s'
    refine wpAny_bind (wpAny_holding ?_)
    unfold setAdd
    refine wpAny_holding (wpAny_bind (wpAny_pyHash_tuple hu hx ?_))
    refine Fed.add (s := { s' with toks := s'.toks + (p.2.length + 1) }) f' hp hx hu few fun b h' but f2 => ?_
    have k2 : ∀ b o, h0.get? b = some o → h'.get? b = some o := fun b o e => (but.2 b fun z => by rw [z, newS] at e; cases e).trans (k' b o e)
    refine wpAny_pure ⟨plainId_quiet F.plain_set_update_loop _, ih (i + 1) _ (by omega) (W.frame _ s' _ _ st' (Nat.le_add_right _ _) fun b hb o e => ?_) k2 f2 fun s'' mv2 f3 k3 => R' s'' (Moved.trans W.gtrans ((mv.mono wider).then_heap (Nat.le_add_right _ _) fun b o hb e => ?_) mv2) f3 k3⟩
    · exact (but.2 b fun z : b = S => out (z ▸ hb)).trans e
    · exact (but.2 b fun z : b = S => hb (z ▸ List.mem_cons_self)).trans e
set_option maxHeartbeats 3200000 in
/-- set(xs) of a list of tuples of ints -/
theorem set_of_tups {l : Addr} {items : Array Value} (ks : List (Addr × List Int)) {Q : Value → Shared → Prop} (hh : A.handled = none) (hl : s.heap.IsList l items) (hit : items.toList = ks.map fun p => Value.ref p.1)
    (tups : ∀ p ∈ ks, IsT P w s.heap p.2 p.1) (few : ks.length < 1200) (hu : A.units + 3 < cLine)
    (q : ∀ (h' : Heap) (tk : Nat), Fed P w ks s.heap.objs.size ks.length h' → (∀ b o, s.heap.get? b = some o → h'.get? b = some o) → Q (.ref s.heap.objs.size) { s with heap := h', toks := tk }) :
    wpAny (model P w) A (call (.type "set") [.ref l]) Q E s := by
  have num : items.size = ks.length := by
    have z := congrArg List.length hit
    rw [List.length_map] at z
    exact z
  obtain ⟨c, tl, hmro⟩ := F.called_set.mro
  have hmade := F.called_set.made
  have hsub := F.called_set.sub
  refine wpAny_call (codeAny_of_tree ?_)
  show wpAny _ _ (callAny (.type "set") _) _ _ _
  refine wpAny_pure ⟨Code.quiet_builtin _ (by decide +kernel), codeAny_builtin F.entry_type_call ?_⟩
  rw [Around.under_plain (weight_type_call_type "set" [.ref l] []) rfl]
  have h1 := F.called_set.notType
  have h2 := F.called_set.canCreate
  have hct := F.typeCall_set_1 (.ref l)
  repeat (any_goals (first | assumption | wp_step))
  refine codeAny_mono (code_set_led1 (.ref l) (E := E) (Q₁ := fun obj s₁ => obj = .ref s.heap.objs.size ∧ s₁ = { s with heap := s.heap.push (setObj w) }) ⟨rfl, rfl⟩) fun r s₁ hr => ?_
  match r, hr with
  | .error e, hr => exact hr
  | .ok (.ret obj), hr =>
    obtain ⟨rfl, rfl⟩ := hr
    have hS : (s.heap.push (setObj w)).get? s.heap.objs.size = some (setObj w) := Heap.get?_push_size _ rfl
    have hT : Shared.TypeIs { s with heap := s.heap.push (setObj w) } (.ref s.heap.objs.size) "set" := ⟨_, hS, rfl⟩
    have hli := F.called_set.init.lookup
    have hbi := F.called_set.init.bind (.ref s.heap.objs.size)
    repeat (any_goals (first | assumption | wp_step))
    refine codeAny_mono (codeAny_call_builtin (R := wants (fun r s₂ => r = .none ∧ ∃ h' tk, s₂ = { s with heap := h', toks := tk } ∧ Fed P w ks s.heap.objs.size ks.length h' ∧ ∀ b o, s.heap.get? b = some o → h'.get? b = some o) E) F.called_set.init.plain F.entry_set_init (check_set_init_1 hT ?_)) fun r₂ s₂ hr₂ => ?_
    · obtain ⟨ol, hol, hcl, nl, hdl⟩ := hl
      obtain ⟨ocls, odict, odata, oslots⟩ := ol
      simp only at hcl hdl
      subst hcl; subst hdl
      have hol' : (s.heap.push (setObj w)).get? l = some { cls := .type "list", dict := odict, data := .seq items nl, slots := oslots } := Heap.get?_push_of_some _ hol
      have hsls := F.sub_list_set
      have hslf := F.sub_list_frozenset
      have hne : (Value.type "list" == Value.type "dict") = false := by decide
      have hl1 : (s.heap.push (setObj w)).IsList l items := ⟨_, hol', rfl, nl, rfl⟩
      unfold Builtin.«set.__init__» noKeywords Builtin.Frozenset.updateFrom
      generalize hPI : pyIter = PI
      wp_walk
      subst hPI
      refine wpAny_pyIter_list hl1 ?_
      refine wpAny_bind (wpAny_runValue ?_)
      have lS : l < s.heap.objs.size := Heap.lt_size hol
      have hh3 : A.in1.in1.in1.handled = none := by simp [hh]
      have lI : l ≠ (s.heap.push (setObj w)).objs.size := by
        rw [Heap.size_push]; exact Nat.ne_of_lt (Nat.lt_succ_of_lt lS)
      have out : s.heap.objs.size ∉ [(s.heap.push (setObj w)).objs.size, l] := by
        rw [Heap.size_push]; simp only [List.mem_cons, List.not_mem_nil, or_false, not_or]
        exact ⟨Nat.ne_of_lt (Nat.lt_succ_self _), Nat.ne_of_gt lS⟩
      have val : ∀ (i : Nat) (v : Value), items[i]? = some v → ∃ p, ks[i]? = some p ∧ v = .ref p.1 := fun i v hv => by
        rw [← Array.getElem?_toList, hit, List.getElem?_map] at hv
        obtain ⟨p, h, e⟩ := Option.map_eq_some_iff.mp hv
        exact ⟨p, h, e.symm⟩
      have fresh : ∀ b, s.heap.objs.size ≤ b → s.heap.get? b = none := fun b hb => by
        cases z : s.heap.get? b with
        | none => rfl
        | some o => exact absurd (Heap.lt_size z) (Nat.not_lt.mpr hb)
      refine fed_loop ((Walks.list hh3 _ l lI items).toS) s.heap.objs.size out ks num few val s.heap tups (fresh _ (Nat.le_refl _)) (fun b hb => fresh b ?_) hu items.size 0 _ (Nat.zero_add _)
        ⟨⟨_, Heap.get?_push_size _ rfl, rfl, rfl⟩, (hl1.push _)⟩ (fun b o e => Heap.get?_push_of_some _ (Heap.get?_push_of_some _ e)) (Fed.start ks (Heap.get?_push_of_some _ hS)) fun s' mv f k => ?_
      · rw [List.mem_singleton.mp hb, Heap.size_push]
        exact Nat.le_succ _
      · obtain ⟨h', g', d', tk', os'⟩ := s'
        obtain rfl : g' = s.gens := mv.gens
        obtain rfl : d' = s.drawn := mv.drawn
        obtain rfl : os' = s.os := mv.os
        show wpAny _ _ _ _ _ _
        refine wpAny_pure ?_
        show wpAny _ _ (ret Value.none) _ _ _
        rw [num] at f
        exact wpAny_pure ⟨rfl, h', tk', rfl, f, k⟩
    · match r₂, hr₂ with
      | .error e, hr₂ => exact hr₂
      | .ok (.ret r), hr₂ =>
        obtain ⟨rfl, h', tk, rfl, f, k⟩ := hr₂
        repeat (any_goals (first | assumption | wp_step))
        exact q _ _ f k
end
end BT

end
section
set_option Elab.async false
set_option linter.all false
set_option maxRecDepth 100000
/-! sorted(set of pairs), of up to 1199 -/
namespace BT
open PySem PySem.Spec PyProof.Rows L2
def prOf (k : List Int) : Int × Int := (k.getD 0 0, k.getD 1 0)
/-- a tuple's address, its ints -/
def rowOf (h : Heap) (v : Value) : Addr × List Int := match v with
  | .ref b => (b, TS.intsOf h v)
  | _ => (0, [])
section
variable {P : Program} {w : World} {A : Around} {E : Value → Shared → Prop} {s : Shared}
theorem two_ints {h : Heap} {b : Addr} {x y : Int} (i : IsT P w h [x, y] b) : Srt.IsPair h (.ref b) x y := by
  obtain ⟨o, items, n, ho, hc, hd, hi⟩ := i
  obtain ⟨vs⟩ := items
  have hi : ItemsAre (intKind P w) [x, y] vs := hi
  match vs, hi with
  | [_, _], .cons h1 (.cons h2 .nil) =>
    obtain ⟨t, rfl⟩ := Value.isInt_shape h1
    obtain ⟨u, rfl⟩ := Value.isInt_shape h2
    exact ⟨b, o, t, u, n, rfl, ho, hc, hd⟩
theorem sorted_big {a : Addr} {L : List (Addr × List Int)} {es : Array (Int × Value)} {ep : Nat} {t : SetTable} {Q : Value → Shared → Prop} (R : Holds P w s.heap a L es ep t) (hh : A.handled = none) (few : L.length < 1200)
    (two : ∀ p ∈ L, ∃ x y, p.2 = [x, y])
    (q : ∀ (s' : Shared) (d : Addr) (c : Nat) (M : List (Addr × List Int)), (∀ b o, s.heap.get? b = some o → s'.heap.get? b = some o) → s'.gens = s.gens → s'.os = s.os → s.heap.objs.size ≤ d →
      s'.heap.get? d = some (seqObj "list" (M.map fun p => Value.ref p.1).toArray c) → M.Perm L → M.Pairwise (fun p r => SrtO.lexB (prOf r.2) (prOf p.2) = false) → Q (.ref d) s') :
    wpAny (model P w) A (call (.builtin "sorted") [.ref a]) Q E s := by
  obtain ⟨o, ho, ex, hd⟩ := R.obj
  have size := rows_size R.rows
  refine Calls.call_function_entry kind_sorted plain_sorted entry_sorted (args_sorted1 _) ?_
  unfold Builtin.«sorted»
  refine wpAny_bind (m := checkCount "sorted" 1 1 _) (wpAny_pure ?_)
  refine wpAny_bind (collect_set (A := A.in1) hh ⟨o, ho, ex.1, hd⟩ R.fit (by unfold scanBound; omega) R.tab.ris R.led fun s1 vs k1 hz g1 o1 pm => ?_)
  rw [R.rows, show (rowsOf P w L).map (·.2) = L.map fun p => Value.ref p.1 from List.map_map ..] at pm
  have num : vs.length = L.length := by rw [pm.length_eq, List.length_map]
  have line : vs.length ≤ sizeLine := by rw [num, sizeLine_eq]; omega
  refine wpAny_bind (wpAny_newList ?_ line)
  have hoL : (s1.heap.push (seqObj "list" vs.toArray 0)).get? s1.heap.objs.size = some (seqObj "list" vs.toArray 0) := Heap.get?_push_size _ rfl
  have keep : ∀ b u, s.heap.get? b = some u → (s1.heap.push (seqObj "list" vs.toArray 0)).get? b = some u := fun b u e => Heap.get?_push_of_some _ (k1 b u e)
  have row : ∀ p ∈ L, rowOf (s1.heap.push (seqObj "list" vs.toArray 0)) (.ref p.1) = p := fun p hp =>
    Prod.ext rfl (tupInts_of (P := P) (w := w) (isT_keep (R.tup p hp) keep)).ints
  have isRow : ∀ v ∈ vs, ∃ p ∈ L, v = Value.ref p.1 := fun v hv => by
    obtain ⟨p, hp, e⟩ := List.mem_map.mp (pm.mem_iff.mp hv)
    exact ⟨p, hp, e.symm⟩
  generalize hk : (fun v => prOf (rowOf (s1.heap.push (seqObj "list" vs.toArray 0)) v).2) = k
  have kOf : ∀ p ∈ L, k (.ref p.1) = prOf p.2 := fun p hp => by rw [← hk]; exact congrArg (fun r => prOf r.2) (row p hp)
  have pairs : ∀ v ∈ vs, Srt.IsPair (s1.heap.push (seqObj "list" vs.toArray 0)) v (k v).1 (k v).2 := fun v hv => by
    obtain ⟨p, hp, rfl⟩ := isRow v hv
    obtain ⟨x, y, e⟩ := two p hp
    have z := isT_keep (R.tup p hp) keep
    rw [kOf p hp, e]
    rw [e] at z
    exact two_ints z
  refine wpAny_bind (wpAny_holding (wpAny_call_entry slot_list_sort ⟨_, hoL, rfl⟩ entry_list_sort (SrtO.list_sort_ord (s := { s1 with heap := s1.heap.push (seqObj "list" vs.toArray 0) }) (SrtO.swo_lex k) hoL line (fun h2 => SrtO.pairs_sortableO (by omega) pairs fun o e c => ?_) fun out hs hb => ⟨_, rfl, ?_⟩) (args_list_sort _)))
  · have e : some o = some (seqObj "list" vs.toArray 0) := e.symm.trans hoL
    cases e
    exact absurd (Value.type.inj c) (by decide)
  obtain ⟨c, hc⟩ := sortedHeap_at (vs := vs) (out := out.toArray) hoL
  have outRow : ∀ v ∈ out, ∃ p ∈ L, v = Value.ref p.1 := fun v hv => isRow v (hb.perm.mem_iff.mp hv)
  have back : (out.map (rowOf (s1.heap.push (seqObj "list" vs.toArray 0)))).map (fun p => Value.ref p.1) = out := by
    rw [List.map_map]
    refine (List.map_congr_left fun v hv => ?_).trans (List.map_id _)
    obtain ⟨p, hp, rfl⟩ := outRow v hv
    rfl
  refine wpAny_pure ⟨_, rfl, q _ s1.heap.objs.size c (out.map (rowOf (s1.heap.push (seqObj "list" vs.toArray 0)))) (fun b u e => ?_) g1 o1 hz (by rw [back]; exact hc) ?_ ?_⟩
  · show (sortedHeap (s1.heap.push (seqObj "list" vs.toArray 0)) s1.heap.objs.size vs out.toArray).get? b = some u
    have lt := Heap.lt_size (k1 b u e)
    rw [sortedHeap_old (Nat.ne_of_lt lt) (by rw [size_push']; exact Nat.lt_succ_of_lt lt)]
    exact keep b u e
  · have z := (hb.perm.trans pm).map (rowOf (s1.heap.push (seqObj "list" vs.toArray 0)))
    rw [List.map_map] at z
    rw [show L.map ((rowOf (s1.heap.push (seqObj "list" vs.toArray 0))) ∘ fun p => Value.ref p.1) = L from (List.map_congr_left fun p hp => row p hp).trans (List.map_id _)] at z
    exact z
  · refine List.pairwise_map.mpr (hs.imp fun {u v} h => ?_)
    rw [← hk] at h
    exact h
end
end BT

end
section
set_option Elab.async false
set_option linter.all false
set_option maxRecDepth 100000
set_option maxHeartbeats 1000000
/-! sorted(set(a)), a a list of fewer than 1200 pairs of small numbers -/
namespace KX
open PySem PySem.Spec PyProof.Rows L2 Kit
def num (p : Int × Int) : Int := p.1 * 64 + p.2
def ltP (p q : Int × Int) : Prop := num p < num q
theorem sorted_eq : ∀ {l m : List (Int × Int)}, l.Pairwise ltP → m.Pairwise ltP → (∀ p, p ∈ l ↔ p ∈ m) → l = m
  | [], [], _, _, _ => rfl
  | [], b :: m, _, _, h => absurd ((h b).mpr List.mem_cons_self) List.not_mem_nil
  | a :: l, [], _, _, h => absurd ((h a).mp List.mem_cons_self) List.not_mem_nil
  | a :: l, b :: m, hl, hm, h => by
    obtain ⟨al, hl2⟩ := List.pairwise_cons.mp hl
    obtain ⟨bm, hm2⟩ := List.pairwise_cons.mp hm
    have ab : a = b := by
      rcases List.mem_cons.mp ((h a).mp List.mem_cons_self) with e | e
      · exact e
      · rcases List.mem_cons.mp ((h b).mpr List.mem_cons_self) with e2 | e2
        · exact e2.symm
        · have q1 : num b < num a := bm a e
          have q2 : num a < num b := al b e2
          omega
    subst ab
    have tl : ∀ p, p ∈ l ↔ p ∈ m := by
      intro p
      constructor
      · intro hp
        rcases List.mem_cons.mp ((h p).mp (List.mem_cons_of_mem _ hp)) with e | e
        · subst e
          exact absurd (al _ hp) (Int.lt_irrefl _)
        · exact e
      · intro hp
        rcases List.mem_cons.mp ((h p).mpr (List.mem_cons_of_mem _ hp)) with e | e
        · subst e
          exact absurd (bm _ hp) (Int.lt_irrefl _)
        · exact e
    rw [sorted_eq hl2 hm2 tl]
theorem rowT_mem {R : Rel} {x : Nat} {j : Nat} {p : Int × Int} (h : p ∈ rowT R x j) : ∃ y : Nat, y < j ∧ p = ((x : Int), (y : Int)) := by
  unfold rowT at h
  obtain ⟨y, hy, e⟩ := List.mem_map.mp h
  exact ⟨y, List.mem_range.mp (List.mem_filter.mp hy).1, e.symm⟩
theorem rowT_up (R : Rel) (x : Nat) : ∀ j, (rowT R x j).Pairwise ltP
  | 0 => List.Pairwise.nil
  | j + 1 => by
    cases e : R x j with
    | false => rw [rowT_no e]; exact rowT_up R x j
    | true =>
      rw [rowT_yes e]
      refine List.pairwise_append.mpr ⟨rowT_up R x j, List.pairwise_singleton _ _, fun p hp q hq => ?_⟩
      obtain ⟨y, hy, rfl⟩ := rowT_mem hp
      rw [List.mem_singleton] at hq
      subst hq
      show (x : Int) * 64 + (y : Int) < (x : Int) * 64 + (j : Int)
      omega
theorem tiesTo_up {n : Nat} (hn : n ≤ 24) (R : Rel) : ∀ i, (tiesTo n R i).Pairwise ltP
  | 0 => List.Pairwise.nil
  | i + 1 => by
    rw [tiesTo_succ]
    refine List.pairwise_append.mpr ⟨tiesTo_up hn R i, rowT_up R i n, fun p hp q hq => ?_⟩
    unfold tiesTo at hp
    obtain ⟨x, hx, hp⟩ := List.mem_flatMap.mp hp
    have hx2 := List.mem_range.mp hx
    obtain ⟨y, hy, rfl⟩ := rowT_mem hp
    obtain ⟨z, hz, rfl⟩ := rowT_mem hq
    show (x : Int) * 64 + (y : Int) < (i : Int) * 64 + (z : Int)
    omega
def keyOf (p : Int × Int) : List Int := [p.1, p.2]
theorem zip_refs : ∀ {as : List Addr} {ps : List (Int × Int)}, as.length = ps.length → ((as.zip (ps.map keyOf)).map fun p => V.ref p.1) = as.map V.ref
  | [], [], _ => rfl
  | a :: as, p :: ps, h => by
    show V.ref a :: ((as.zip (ps.map keyOf)).map fun p => V.ref p.1) = V.ref a :: _
    rw [zip_refs (as := as) (ps := ps) (by simpa using h)]
  | [], _ :: _, h => by simp at h
  | _ :: _, [], h => by simp at h
/-- sorted(set(a)) -/
def tSortSet (ta : TE) : TE := fun σ H Q => ta σ H fun x H1 => ∃ (l : Addr) (as : List Addr) (ps : List (Int × Int)) (n : Nat), x = .ref l ∧ H1 l = some (.lst (as.map V.ref)) ∧ PrT H1 as ps ∧ as.length < 1200 ∧ n ≤ 24 ∧ (∀ p ∈ ps, Good n p) ∧
  ∀ (p : Addr) (bs : List Addr) (H2 : Hp), Same H1 H2 → H1 p = none → H2 p = some (.lst (bs.map V.ref)) → PrT H2 bs (ties n (relP ps false)) → Q (.ref p) H2
theorem prOf_key (p : Int × Int) : BT.prOf (keyOf p) = p := rfl
theorem in_zip {as : List Addr} {ps : List (Int × Int)} {H : Hp} (pa : PrT H as ps) {e : Addr × List Int} (he : e ∈ as.zip (ps.map keyOf)) : ∃ z ∈ ps, e.2 = keyOf z ∧ H e.1 = some (.tup [.int z.1, .int z.2]) := by
  obtain ⟨i, hi⟩ := List.getElem?_of_mem he
  obtain ⟨e1, e2⟩ := List.getElem?_zip_eq_some.mp hi
  rw [List.getElem?_map] at e2
  obtain ⟨z, hz, e3⟩ := Option.map_eq_some_iff.mp e2
  exact ⟨z, List.mem_of_getElem? hz, e3.symm, pa.2 i e.1 z e1 hz⟩
theorem to_zip {as : List Addr} {ps : List (Int × Int)} (len : as.length = ps.length) {z : Int × Int} (hz : z ∈ ps) : ∃ e ∈ as.zip (ps.map keyOf), e.2 = keyOf z := by
  obtain ⟨i, hi⟩ := List.getElem?_of_mem hz
  have lt : i < as.length := by rw [len]; exact (List.getElem?_eq_some_iff.mp hi).1
  exact ⟨(as[i], keyOf z), List.mem_of_getElem? (i := i) (List.getElem?_zip_eq_some.mpr ⟨List.getElem?_eq_getElem lt, by rw [List.getElem?_map, hi] <;> rfl⟩), rfl⟩
/-- the sorted keys are the links, in order -/
theorem keys_ties {n : Nat} (hn : n ≤ 24) {ps : List (Int × Int)} (gd : ∀ p ∈ ps, Good n p) {M : List (Addr × List Int)} (from_ : ∀ e ∈ M, ∃ z ∈ ps, e.2 = keyOf z) (all : ∀ z ∈ ps, ∃ e ∈ M, e.2 = keyOf z)
    (nd : (M.map (·.2)).Nodup) (pw : M.Pairwise fun p r => SrtO.lexB (BT.prOf r.2) (BT.prOf p.2) = false) : M.map (fun e => BT.prOf e.2) = ties n (relP ps false) := by
  refine sorted_eq ?_ (tiesTo_up hn _ n) fun z => ⟨fun hz => ?_, fun hz => ?_⟩
  · refine List.pairwise_map.mpr ((pw.and (List.pairwise_map.mp nd)).imp_of_mem fun {e f} he hf hef => ?_)
    obtain ⟨z, hz, e1⟩ := from_ e he
    obtain ⟨y, hy, f1⟩ := from_ f hf
    obtain ⟨c1, c2⟩ := hef
    rw [e1, f1] at c1 c2
    rw [e1, f1, prOf_key, prOf_key]
    rw [prOf_key, prOf_key] at c1
    have c1 := SrtO.lexB_no.mp c1
    have ne : ¬ (z.1 = y.1 ∧ z.2 = y.2) := fun c => c2 (by rw [(Prod.ext c.1 c.2 : z = y)])
    obtain ⟨g1, g2, g3, g4, _⟩ := gd z hz
    obtain ⟨k1, k2, k3, k4, _⟩ := gd y hy
    show z.1 * 64 + z.2 < y.1 * 64 + y.2
    omega
  · obtain ⟨e, he, rfl⟩ := List.mem_map.mp hz
    obtain ⟨z, hz, e1⟩ := from_ e he
    rw [e1, prOf_key]
    obtain ⟨g1, g2, g3, g4, _⟩ := gd z hz
    have q : (((z.1.toNat : Nat) : Int), ((z.2.toNat : Nat) : Int)) = z := Prod.ext (by show ((z.1.toNat : Nat) : Int) = z.1; omega) (by show ((z.2.toNat : Nat) : Int) = z.2; omega)
    exact mem_ties.mpr ⟨z.1.toNat, z.2.toNat, by omega, by omega, relP_iff.mpr (.inl (by rw [q]; exact hz)), q.symm⟩
  · obtain ⟨x, y, hx, hy, rr, rfl⟩ := mem_ties.mp hz
    have hm : ((x : Int), (y : Int)) ∈ ps := by
      rcases relP_iff.mp rr with q | q
      · exact q
      · exact absurd q.1 Bool.false_ne_true
    obtain ⟨e, he, e1⟩ := all _ hm
    exact List.mem_map.mpr ⟨e, he, by rw [e1, prOf_key]⟩
theorem pe_sortSet {X : Cx} {a : Expr} {ta : TE} {p p2 q pos : Pos} (hc : X.calm = true) (hu : X.A.units + 64 < cLine) (hg : Gl X "sorted") (hm : X.mg "sorted" = none) (hg2 : Gl X "set") (hm2 : X.mg "set" = none) (ha : PE X a ta)
    (h1 : starEach [.Call (.Name "set" p2) [a] [] q] X.env = (false, eval (.Call (.Name "set" p2) [a] [] q) X.env) :: starEach [] X.env := by rfl) (h2 : starEach [a] X.env = (false, eval a X.env) :: starEach [] X.env := by rfl) :
    PE X (.Call (.Name "sorted" p) [.Call (.Name "set" p2) [a] [] q] [] pos) (tSortSet ta) := by
  refine ⟨fun pins s σ H Q I need => ?_⟩
  refine Call_ (ld_blt I hg hm PyProof.Rows.boot_sorted ?_)
  refine PyProof.Rows.callWith_builtin1 (PyProof.Rows.args_cons ?_ h1) h1 rfl
  refine Call_ (ld_blt I hg2 hm2 PyProof.Rows.boot_set ?_)
  refine PyProof.Rows.callWith_type1 (PyProof.Rows.args_cons (thn (ha.run pins s σ H _ I need) fun v s1 z => PyProof.Rows.args_nil ?_) h2) h2 rfl
  obtain ⟨x, H1, I1, r1, l, as, ps, n, rfl, hl, pa, few, hn, gd, k⟩ := z
  cases r1
  have sq : SqL X.K H1 l (as.map V.ref) := SqL.of hl
  obtain ⟨its, rv, pl, _⟩ := I1.list sq
  have lenz : (as.zip (ps.map keyOf)).length = as.length := by rw [List.length_zip, List.length_map, ← pa.1, Nat.min_self]
  rw [← zip_refs pa.1] at rv
  refine BT.set_of_tups (P := X.prog) (w := X.w) (as.zip (ps.map keyOf)) (I1.ok.hd hc) pl.isList (by simpa using refs_of_vals rv) (fun e he => ?_) (by rw [lenz]; exact few) (by omega) fun h' tk fed keep => ?_
  · obtain ⟨z, _, e1, e2⟩ := in_zip pa he
    refine I1.isT ?_
    rw [e1]
    exact SqT.of e2
  refine PyProof.Rows.args_nil ?_
  obtain ⟨L, es, ep, t, R, g⟩ := fed
  have I2 : Inv X pins σ H1 { s1 with heap := h', toks := tk } := I1.kept keep
  have inL : ∀ e ∈ L, e ∈ as.zip (ps.map keyOf) := BT.Got.mem g
  have len := g.len
  refine BT.sorted_big (s := { s1 with heap := h', toks := tk }) R (I2.ok.hd hc) (by omega) (fun e he => ?_) fun s' d c M kp gs os hd hM pm pw => ?_
  · obtain ⟨z, _, e1, _⟩ := in_zip pa (inL e he)
    exact ⟨z.1, z.2, e1⟩
  have nd : H1 d = none := I2.hok.fresh hd
  have vals : Vals ((M.map (·.1)).map V.ref) (M.map fun e => Value.ref e.1) := by
    rw [List.map_map]
    exact vals_of_refs M
  have line : ((M.map (·.1)).map V.ref).length ≤ sizeLine := by rw [List.length_map, List.length_map, pm.length_eq, sizeLine_eq]; omega
  have J : Inv X pins σ (upd H1 d (.lst ((M.map (·.1)).map V.ref))) s' := I2.call' (ch := []) os (Un.laid kp hd nd) (I2.hok.laid kp hd ⟨line, _, c, vals, hM⟩) (by rw [gs]; exact I2.bare) (fun _ z => nomatch z)
  refine ⟨.ref d, _, J, rfl, k d (M.map (·.1)) _ (Same.new (Same.refl _) nd) nd upd_same ?_⟩
  have inM : ∀ e ∈ M, e ∈ as.zip (ps.map keyOf) := fun e he => inL e (pm.mem_iff.mp he)
  rw [← keys_ties hn gd (M := M) (fun e he => by obtain ⟨z, hz, e1, _⟩ := in_zip pa (inM e he); exact ⟨z, hz, e1⟩) (fun z hz => ?_) ((pm.map (·.2)).nodup_iff.mpr R.nd) pw]
  · refine ⟨by rw [List.length_map, List.length_map], fun i b z e1 e2 => ?_⟩
    rw [List.getElem?_map] at e1 e2
    obtain ⟨e, he, rfl⟩ := Option.map_eq_some_iff.mp e1
    rw [he] at e2
    obtain rfl := Option.some.inj e2
    obtain ⟨z, hz, e3, e4⟩ := in_zip pa (inM e (List.mem_of_getElem? he))
    show _ = some (HO.tup [V.int (BT.prOf e.2).1, V.int (BT.prOf e.2).2])
    rw [e3, prOf_key]
    exact Same.new (Same.refl _) nd _ _ e4
  · obtain ⟨e, he, e1⟩ := to_zip pa.1 hz
    have q := g.all e (by rw [List.take_length]; exact he)
    obtain ⟨f, hf, f1⟩ := List.mem_map.mp q
    exact ⟨f, pm.mem_iff.mpr hf, f1.trans e1⟩
end KX

end
section
set_option Elab.async false
set_option linter.all false
set_option maxRecDepth 100000
set_option maxHeartbeats 1000000
namespace KX
open PySem PySem.Spec PyProof.Rows L2 Kit
/-- a property, by its getter's promise -/
structure PropC (P : Program) (w : World) (K : PySem.W.Frag) (mg : Str → Option Value) (base : Heap) (k : Nat) (C : Addr) (f : Str) (sp : Sp) : Prop where
  ex : ∃ (p g : Addr) (fd : FuncData) (ps : List Str), Cls K C ∧ PropOf K C f p g ∧ FnOk P w K mg base CX0 k g fd ps sp ∧ L2.Binds K fd ps []
/-- a method that may raise -/
structure MetX (P : Program) (w : World) (K : PySem.W.Frag) (mg : Str → Option Value) (base : Heap) (k : Nat) (C : Addr) (m : Str) (sp : Sp) : Prop where
  ex : ∃ (f : Addr) (fd : FuncData) (ps : List Str), Cls K C ∧ Meth K C m f ∧ FnOk P w K mg base (L2.CX P w) k f fd ps sp ∧ L2.Binds K fd ps []
/-- a class that is made, its __init__ may raise -/
structure MakX (P : Program) (w : World) (K : PySem.W.Frag) (mg : Str → Option Value) (base : Heap) (k : Nat) (x : Str) (C : Addr) (sp : Sp) : Prop where
  ex : ∃ (f : Addr) (fd : FuncData) (ps : List Str), Mk K C f ∧ FnOk P w K mg base (L2.CX P w) k f fd ps sp ∧ mg x = some (.ref C) ∧ L2.Binds K fd ps []
/-- a classmethod that may raise -/
structure ClmX (P : Program) (w : World) (K : PySem.W.Frag) (mg : Str → Option Value) (base : Heap) (k : Nat) (C : Addr) (m : Str) (sp : Sp) : Prop where
  ex : ∃ (p g : Addr) (fd : FuncData) (ps : List Str) (mc : Value), ClX.CRead K C mc ∧ ClX.CMet K C mc m p g ∧ FnOk P w K mg base (L2.CX P w) k g fd ps sp ∧ L2.Binds K fd ps []
section
variable {X : Cx} {x f m : Str} {C : Addr} {k j : Nat} {sp : Sp} {E : XK} {e o : Expr} {es : List Expr} {te ta : TE} {t : TA} {p pos apos : Pos}
theorem pe_pr (c : PropC X.prog X.w X.K X.mg X.base k C f sp) (hr : Room j X.A) (hk : k + 1 ≤ j) (he : PE X e te) (hab : attributeBase e f X.env (eval e X.env) = eval e X.env := by rfl) : PE X (.Attribute e f pos) (tProp C sp [] E0 te) := by
  obtain ⟨q, g, fd, ps, cl, hp, F, hb⟩ := c.ex
  exact pe_prop he cl hp F (hr.mono hk) hb .nil (fun _ _ _ _ _ _ _ h => h.elim) hab
theorem pe_mx {pl : Sem Bool} (c : MetX X.prog X.w X.K X.mg X.base k C m sp) (hr : Room j X.A) (hk : k ≤ j) (hx : Passes (L2.CX X.prog X.w) X E) (he : PE X o ta) (ha : PA X (e :: es) t)
    (hst : starEach (e :: es) X.env = (false, eval e X.env) :: starEach es X.env := by rfl) (hpl : (backTo pos (starEach es X.env)).any (·.1) = false := by rfl)
    (ht : eval (.Call (.Attribute o m apos) (e :: es) [] pos) X.env = (do
      let ov ← eval o X.env
      standAt apos.atName
      let (f, first) ← holding [ov] (getMethod ov m pl)
      callWith pos f first (backTo pos (starEach (e :: es) X.env)) (backToKw pos (keywordEach [] X.env))) := by rfl) : PE X (.Call (.Attribute o m apos) (e :: es) [] pos) (tMeth C m sp [] E ta t) := by
  obtain ⟨g, fd, ps, hc, hm, F, b⟩ := c.ex
  exact pe_meth (pl := pl) he hc hm F (hr.mono hk) b .nil hx ha hst hpl ht
theorem pe_mkX (c : MakX X.prog X.w X.K X.mg X.base k x C sp) (hr : Room j X.A) (hk : k + 1 ≤ j) (hg : Gl X x) (hx : Passes (L2.CX X.prog X.w) X E) (ha : PA X (e :: es) t)
    (hdb : (x == ("__debug__" : Str)) = false := by decide) (he : starEach (e :: es) X.env = (false, eval e X.env) :: starEach es X.env := by rfl) (hpl : (backTo pos (starEach es X.env)).any (·.1) = false := by rfl) :
    PE X (.Call (.Name x p) (e :: es) [] pos) (tMake C sp [] E t) := by
  obtain ⟨g, fd, ps, M, F, hm, b⟩ := c.ex
  exact pe_make M F (hr.mono hk) hg hm b .nil hx ha hdb he hpl
/-- cls(..): the local name i holds the class -/
def tMakeL (C : Addr) (i : Nat) (sp : Sp) (E : XK) (t : TA) : TE := fun σ H Q => σ[i]? = some (some (.ref C)) ∧ tMake C sp [] E t σ H Q
theorem pe_mkL {i : Nat} {nm : Str} (c : MakX X.prog X.w X.K X.mg X.base k nm C sp) (hr : Room j X.A) (hk : k + 1 ≤ j) (hx : Passes (L2.CX X.prog X.w) X E) (hN : X.N[i]? = some x) (hv : Vis X.env.scope x) (ha : PA X (e :: es) t)
    (hd : (x == ("__debug__" : Str)) = false := by decide) (hcd : (x == ("__classdict__" : Str)) = false := by decide)
    (he : starEach (e :: es) X.env = (false, eval e X.env) :: starEach es X.env := by rfl) (hpl : (backTo pos (starEach es X.env)).any (·.1) = false := by rfl) :
    PE X (.Call (.Name x p) (e :: es) [] pos) (tMakeL C i sp E t) := by
  obtain ⟨g, fd, ps, M, F, hm, b⟩ := c.ex
  refine ⟨fun pins s σ H Q I h => ?_⟩
  obtain ⟨hi, h⟩ := h
  refine wpAny_Call_Name_kw (thn ((pe_var (pos := p) hN hv hd hcd).run pins s σ H (fun v H1 => v = .ref C ∧ H1 = H) I ⟨.ref C, hi, rfl, rfl⟩) fun u s1 z => ?_)
  obtain ⟨v, H1, I1, r1, rfl, rfl⟩ := z
  cases r1
  refine PySem.W.callWith_K (h₀ := X.base) I.ok.mod.kin M.kp (thn (ha.run pos pins s1 σ _ _ I1 h) fun us s2 z => ?_) he hpl
  obtain ⟨vs, H2, I2, r2, q⟩ := z
  exact ⟨I2.kIn, run_make M F (hr.mono hk) b .nil hx I2 r2 q⟩
/-- C.m(..), o.m(..): o evaluates to the class -/
theorem pe_clm {pl : Sem Bool} (c : ClmX X.prog X.w X.K X.mg X.base k C m sp) (hr : Room j X.A) (hk : k ≤ j) (hx : Passes (L2.CX X.prog X.w) X E) (he : PE X o ta) (ha : PA X (e :: es) t)
    (hst : starEach (e :: es) X.env = (false, eval e X.env) :: starEach es X.env := by rfl) (hpl : (backTo pos (starEach es X.env)).any (·.1) = false := by rfl)
    (ht : eval (.Call (.Attribute o m apos) (e :: es) [] pos) X.env = (do
      let ov ← eval o X.env
      standAt apos.atName
      let (f, first) ← holding [ov] (getMethod ov m pl)
      callWith pos f first (backTo pos (starEach (e :: es) X.env)) (backToKw pos (keywordEach [] X.env))) := by rfl) : PE X (.Call (.Attribute o m apos) (e :: es) [] pos) (ClX.tCMeth C sp E ta t) := by
  obtain ⟨q, g, fd, ps, mc, r, cm, F, b⟩ := c.ex
  have F' : FnR X.prog X.w X.K X.mg X.base (L2.CX X.prog X.w) k g sp := (FnOk.raw F b .nil).imp fun vs H Q E h => by rw [List.append_nil]; exact h
  exact ClX.pe_cmeth (pl := pl) he r cm F' (hr.mono hk) hx ha hst hpl ht
end
end KX

end
section
set_option Elab.async false
set_option linter.all false
set_option maxRecDepth 100000
set_option maxHeartbeats 1000000
/-! defs that are called within an except suite and raise nothing: no word of what is handled -/
namespace KX
open PySem PySem.Spec PyProof.Rows L2 Kit L2H
/-- what such a def promises, whatever is handled around it -/
structure FnQ (P : Program) (w : World) (K : PySem.W.Frag) (mg : Str → Option Value) (base : Heap) (k : Nat) (f : Addr) (fd : FuncData) (ps : List Str) (sp : Sp) : Prop where
  many : ∀ vs H Q E, sp vs H Q E → vs.length = ps.length
  runs : ∀ (B : Around) (outer : List Env) (s : Shared) (H : Hp) (given : Args) (us : List Value) (vs : List V) (Q : VK) (E : XK),
    RoomH k B → Env0 P w K mg base B outer s H → BindsTo s fd given (ps.zip us) → Vals vs us → sp vs H Q E →
      codeAny (model P w) B (.call (.ref f) given) (CR CX0 outer P w H s Q E) s
abbrev coolA (B : Around) : Around := { B with handled := none }
/-- the context of its body -/
abbrev cxQ (P : Program) (w : World) (K : PySem.W.Frag) (mg : Str → Option Value) (base : Heap) (N : List Str) (q : Str) (sc : Scope) (f : Addr) (cd : Value) (B : Around) (outer : List Env) (s : Shared) (H : Hp) (E : XK) : Cx :=
  { cxOf CX0 P w K mg base N q sc f cd B outer s H E with calm := false }
section
variable {P : Program} {w : World} {K : PySem.W.Frag} {mg : Str → Option Value} {base : Heap}
theorem inv_cool {N : List Str} {q : Str} {sc : Scope} {f : Addr} {cd : Value} {B : Around} {outer : List Env} {s s1 : Shared} {H H1 : Hp} {E : XK} {σ : L2.St} {pins : List (Addr × Obj)}
    (I : Inv (cxOf CX0 P w K mg base N q sc f cd (coolA B) outer s H E) pins σ H1 s1) : Inv (cxQ P w K mg base N q sc f cd B outer s H E) pins σ H1 s1 := by
  obtain ⟨⟨a1, a2, a3, a4, a5, a6, a7, a8, a9, a10, a11, a12, a13, a14, a15, a16, a17, a18⟩, b1, b2, b3, b4, b5, b6, b7, b8, b9, b10⟩ := I
  exact ⟨⟨a1, a2, a3, a4, a5, a6, a7, a8, nofun, a10, a11, a12, a13, a14, a15, a16, a17, a18⟩, b1, b2, b3, b4, b5, b6, b7, b8, b9, b10⟩
theorem fn_ofQ {k : Nat} {f : Addr} {x qual : Str} {st : Stmt} {fd : FuncData} {N ps : List Str} {sp : Sp} (F : L2.Fun K x qual st f fd) (S : FnScope N ps (defScope st)) (len : ∀ vs H Q E, sp vs H Q E → vs.length = ps.length)
    (hbody : ∀ (cdv : Value) (B : Around) (outer : List Env) (s : Shared) (H : Hp) (vs : List V) (Q : VK) (E : XK), RoomH k (B.deeper (envOfC qual (defScope st) s.heap.objs.size f cdv)) → sp vs H Q E →
      ∃ t, PSs (cxQ P w K mg base N qual (defScope st) f cdv B outer s H E) (defBody st) t ∧ t { nx := fun _ H' => Q .non H', rt := Q } (L2.start N vs) H) : FnQ P w K mg base (k + 1) f fd ps sp := by
  obtain ⟨oc, od, kV, doc, pm, an, cdv, ct, osl, rfl, lk, hcd⟩ := F.ex
  refine ⟨len, ?_⟩
  intro B outer s H given us vs Q E room e0 bt r hsp
  have nlen := len _ _ _ _ hsp
  have kin : K.In s.heap := e0.mod.kin.keeps (fun b o e => (e0.bs b o e).1)
  have nolim : s.heap.NoLimit := e0.mod.nolimit.keeps (fun b o e => (e0.bs b o e).1)
  have kinds : ∀ y ∈ ps.zip us, (defScope st).names.lookup y.1 = some .local ∨ ((defScope st).names.lookup y.1 = some .cell ∧ ((cellsFrom (s.heap.objs.size + 1) (defScope st).names []).lookup y.1).isSome = true) := by
    rintro ⟨m, v⟩ hy
    exact (S.par m (List.of_mem_zip hy).1).imp id fun q => ⟨q, PySem.W.cellsFrom_some _ _ _ (.inl q)⟩
  refine codeAny_call_function room.depth (kin _ _ lk) rfl S.co S.gen rfl (PySem.W.codeRec_of kin hcd) (bt _ _ _ _ ?_)
  refine wpAny_newFunctionEnv_cells S.kind kinds (fun env he s1 x => ?_)
  subst he
  refine ⟨nolim.keeps x.toInCall.keep, codeAny_func ?_⟩
  obtain ⟨t, ht, hq⟩ := hbody cdv B outer s H vs Q E (room.deeper _) hsp
  have e1 : Env0 P w K mg base (coolA B) outer s H := ⟨e0.frames, e0.mod, e0.bs, e0.bsz, e0.funs, e0.frf, e0.hok, e0.bare⟩
  have J0 := inv_cool (B := B) (inv_start (CX := CX0) (E := E) S (A := coolA B) rfl e1 nlen r x)
  refine wpAny_mono (ht.run [] s1 _ H _ J0 hq) (fun fl s2 hs => ?_) (fun e s2 hs => hs)
  cases fl with
  | brk => obtain ⟨_, _, _, z⟩ := hs; exact z.elim
  | cont => obtain ⟨_, _, _, z⟩ := hs; exact z.elim
  | next =>
    obtain ⟨τ, H2, J, z⟩ := hs
    exact ⟨V.non, H2, J.os, J.bare, J.base, J.hok, rfl, z⟩
  | ret u =>
    obtain ⟨v, τ, H2, J, rv, z⟩ := hs
    exact ⟨v, H2, J.os, J.bare, J.base, J.hok, rv, z⟩
end
/-- a def of this kind, by its name -/
structure CalQ (P : Program) (w : World) (K : PySem.W.Frag) (mg : Str → Option Value) (base : Heap) (k : Nat) (x : Str) (sp : Sp) : Prop where
  ex : ∃ (f : Addr) (fd : FuncData) (ps : List Str), FnQ P w K mg base k f fd ps sp ∧ mg x = some (.ref f) ∧ PySem.W.keepIn K (.ref f) = true ∧ Binds K fd ps []
section
variable {X : Cx} {k j : Nat} {x : Str} {sp : Sp} {p pos : Pos} {e : Expr} {es : List Expr} {t : TA}
theorem pe_cQ (c : CalQ X.prog X.w X.K X.mg X.base k x sp) (hr : RoomH k X.A) (hg : Gl X x) (ha : PA X (e :: es) t)
    (hdb : (x == ("__debug__" : Str)) = false := by decide) (he : starEach (e :: es) X.env = (false, eval e X.env) :: starEach es X.env := by rfl) (hpl : (backTo pos (starEach es X.env)).any (·.1) = false := by rfl) :
    PE X (.Call (.Name x p) (e :: es) [] pos) (tCall sp [] E0 t) := by
  obtain ⟨f, fd, ps, F, hm, kp, b⟩ := c.ex
  refine ⟨fun pins s σ H Q I h => ?_⟩
  refine wpAny_Call_Name_kw (ld_glob I hg hm ?_ hdb)
  refine PySem.W.callWith_K (h₀ := X.base) I.ok.mod.kin kp (thn (ha.run pos pins s σ H _ I h) fun us s1 z => ?_) he hpl
  obtain ⟨vs, H1, I1, r, q⟩ := z
  refine ⟨I1.kIn, ?_⟩
  rw [List.append_nil] at q
  have hl : us.length = ps.length := by rw [← r.length]; exact F.many _ _ _ _ q
  have bt := b s1 us I1.kIn (by rw [List.append_nil]; exact hl)
  rw [List.append_nil] at bt
  refine wpAny_call (codeAny_mono (F.runs X.A X.stack s1 H1 ⟨us, []⟩ us vs Q E0 hr I1.env0 bt r q) fun res s2 hq => ?_)
  cases res with
  | error e => exact hq.elim
  | ok fl =>
    cases fl with
    | ret u => exact I1.after hq
    | next => exact hq.elim
    | brk => exact hq.elim
    | cont => exact hq.elim
end
end KX

end
section
set_option Elab.async false
set_option linter.all false
set_option maxRecDepth 100000
set_option maxHeartbeats 4000000
namespace K00
open PySem L2 Kit KR
def top (i : Nat) : Stmt := PySem.Challenge.pw_pullstore_k00_nets_keep_links.main.body.getD i (.Pass ⟨0, 0, 0, 0⟩)
local macro_rules | `(tactic| fail "om") => `(tactic| first | omega | decide | assumption | (simp only [List.length_map, List.length_append, List.length_cons, List.length_nil]; omega) | fail "no om")
local macro_rules | `(tactic| fail "nz") => `(tactic| first | decide | omega | fail "no nz")
local macro_rules | `(tactic| fail "dv") => `(tactic| exact ⟨by first | decide | omega, by first | decide | omega⟩)
local macro_rules | `(tactic| fail "mul") => `(tactic| first | exact .inr ⟨by decide, by decide⟩ | exact .inl ⟨by decide, by decide⟩ | exact mulF (by decide) (by decide) | exact .inl ⟨by omega, by omega⟩ | exact .inr ⟨by omega, by omega⟩ | fail "no mul")
local macro_rules | `(tactic| fail "sz") => `(tactic| first | assumption | exact Nat.zero_le _ | (show 1 ≤ sizeLine; decide) | (show 2 ≤ sizeLine; decide) | (show 3 ≤ sizeLine; decide) | (show 4 ≤ sizeLine; decide) | (show 5 ≤ sizeLine; decide) | exact Evl.sz_of (by omega) | (refine Evl.sz_of ?_; simp only [List.length_append, List.length_map, List.length_cons, List.length_nil]; omega) | fail "no sz")
local macro_rules | `(tactic| fail "szl") => `(tactic| first | exact Evl.sz_lt (by omega) | (refine Evl.sz_lt ?_; simp only [List.length_append, List.length_map, List.length_cons, List.length_nil]; omega) | fail "no szl")
local macro_rules | `(tactic| fail "ix") => `(tactic| first | assumption | exact ix0 | exact ix1 | exact ix2 | exact at_ref (by assumption) (by omega) | exact at_int (by assumption) (by omega) | exact at_drawn (by assumption) (by assumption) | rfl | fail "no ix")
local macro_rules | `(tactic| fail "ixn") => `(tactic| first | rfl | assumption | fail "no ixn")
local macro_rules | `(tactic| fail "nb") => `(tactic| first | assumption | exact nb_tup | exact nb_nil | exact nb_ints | exact nb_refs | exact nb_ins | exact nb_dT | exact nb_frz | fail "no nb")
local macro_rules | `(tactic| fail "ne") => `(tactic| first | assumption | exact Ne.symm (by assumption) | exact ne_of_none (by assumption) (by assumption) | exact (ne_of_none (by assumption) (by assumption)).symm | exact ne_of (by assumption) (by assumption) (by intro q; cases q) | exact ne_of (by assumption) (by assumption) (by simp) | fail "no ne")
local macro_rules | `(tactic| fail "hp") => `(tactic| first | assumption | exact upd_same | (refine' Tk.get (by assumption) ?k1; (case k1 => fail "tk")) | (with_reducible refine' upd_new ?h1 ?n1; (case n1 => assumption); (case h1 => fail "hp")) | (refine' Same.get (by assumption) ?h1; (case h1 => fail "hp")) | (refine' Kp.get (by assumption) (by fail "bx") ?h1 ?d1; (case h1 => fail "hp"); (case d1 => fail "nb")) | (with_reducible refine' upd_oth ?h1 ?n1; (case n1 => fail "ne"); (case h1 => fail "hp")) | (with_reducible refine' upd_oth ?h1 ?n1; (case h1 => fail "hp"); (case n1 => fail "ne")) | fail "no hp")
local macro_rules | `(tactic| fail "bx") => `(tactic| first | assumption | (with_reducible refine' BoxOk.new ?h1 ?n1; (case n1 => assumption); (case h1 => fail "bx")) | (refine' BoxOk.same (by assumption) ?h1; (case h1 => fail "bx")) | (with_reducible refine' BoxOk.mut ?h1 ?h2 ?n1; (case n1 => assumption); (case h2 => assumption); (case h1 => fail "bx")) | fail "no bx")
local macro_rules | `(tactic| fail "kp") => `(tactic| first | assumption | exact Kp.refl | (with_reducible refine' Kp.at ?h1; (case h1 => fail "kp")) | (with_reducible refine' Kp.new ?h1 ?n1; (case n1 => assumption); (case h1 => fail "kp")) | (with_reducible refine' Kp.mut ?h1 ?n1; (case n1 => assumption); (case h1 => fail "kp")) | (refine' Kp.tr (by assumption) ?h1; (case h1 => fail "kp")) | (refine' Kp.tr (Kp.of (by assumption)) ?h1; (case h1 => fail "kp")) | fail "no kp")
local macro_rules | `(tactic| fail "ite") => `(tactic| first | refine iteT ?_ | refine iteF ?_)
local macro_rules | `(tactic| fail "tt") => `(tactic| first | rfl | exact decide_eq_true (by first | rfl | omega | assumption) | exact decide_eq_true (congrArg V.int (by first | rfl | omega)) | fail "no tt")
local macro_rules | `(tactic| fail "cv") => `(tactic| first | exact .ty _ | exact .own _)
local macro_rules | `(tactic| fail "tx") => `(tactic| first | exact .base (.int _) | exact .base (.bl _) | exact .base .non | exact .base (.lst (by fail "hp")) | exact .base (.tup (by fail "hp")) | fail "no tx")
local macro_rules | `(tactic| fail "dead") => `(tactic| (exfalso; first | omega | contradiction | simp_all))
local macro_rules | `(tactic| fail "dp") => `(tactic| first | exact .tup (SqT.of (by fail "hp")) (.cons (.int _) (.cons (.int _) .nil)) | exact .lst (SqL.of (by fail "hp")) (dpPrs (by fail "pr")) | exact .lst (SqL.of (by fail "hp")) (dpInts _) | exact .lst (SqL.of (by fail "hp")) .nil | fail "no dp")
local macro_rules | `(tactic| fail "shp") => `(tactic| first | assumption | exact prD_shaped _ | exact PySem.W.ke_shaped_ints _ | rfl | fail "no shp")
local macro_rules | `(tactic| fail "pr") => `(tactic| first | assumption | exact PrT.mono (by assumption) (by fail "tk") | fail "no pr")
local macro_rules | `(tactic| fail "tk") => `(tactic| first | assumption | exact Tk.refl | (with_reducible refine' Tk.new ?h1 ?n1; (case n1 => assumption); (case h1 => fail "tk")) | (refine' Tk.tr (Kp.tk (by assumption) (by fail "bx")) ?h1; (case h1 => fail "tk")) | (refine' Tk.tr (Same.tk (by assumption)) ?h1; (case h1 => fail "tk")) | (with_reducible refine' Tk.lst ?h1 ?n1; (case n1 => fail "hp"); (case h1 => fail "tk")) | fail "no tk")

def Df (K : PySem.W.Frag) (mg : Str → Option Value) (x : Str) (st : Stmt) (ps : List Str) : Prop := ∃ (f : Addr) (fd : FuncData), L2.Fun K x x st f fd ∧ mg x = some (.ref f) ∧ Binds K fd ps []
structure Txt (K : PySem.W.Frag) (mg : Str → Option Value) : Prop where
  len : mg "len" = none
  int : mg "int" = none
  bool : mg "bool" = none
  list : mg "list" = none
  tuple : mg "tuple" = none
  range : mg "range" = none
  isinstance : mg "isinstance" = none
  sum : mg "sum" = none
  max : mg "max" = none
  min : mg "min" = none
  set : mg "set" = none
  sorted : mg "sorted" = none
theorem pair_ne {x d n : Int} (h0 : 0 ≤ x) (h1 : x < n) (h2 : 0 ≤ d) (h3 : d < n - 1) : x ≠ (x + 1 + d).fmod n := by
  intro e
  have h4 : (0 : Int) < n := by omega
  by_cases h : x + 1 + d < n
  · rw [Int.fmod_eq_emod_of_nonneg _ (Int.le_of_lt h4), Int.emod_eq_of_lt (by omega) h] at e
    omega
  · have q : x + 1 + d = (x + 1 + d - n) + n * 1 := by omega
    rw [Int.fmod_eq_emod_of_nonneg _ (Int.le_of_lt h4), q, Int.add_mul_emod_self_left, Int.emod_eq_of_lt (by omega) (by omega)] at e
    omega
section
variable {P : Program} {w : World} {K : PySem.W.Frag} {mg : Str → Option Value} {base : Heap}

abbrev sDraw : Stmt := top 14
theorem scDraw : FnScope ["box", "many", "digit", "first", "second", "third"] ["box", "many"] (defScope sDraw) := ⟨rfl, rfl, rfl, by decide +kernel, rfl, by decide +kernel, by decide +kernel⟩
def spDraw : Sp := fun vs H Q _ => ∃ (b bc : Addr) (m : Int), vs = [.ref b, .int m] ∧ BoxOk H b bc ∧ 1 ≤ m ∧ m ≤ 1000000000 ∧
  ∀ (d : Int) (H' : Hp), 0 ≤ d → d < m → Kp b H H' → BoxOk H' b bc → Q (.int d) H'
theorem ok_Draw (D : Df K mg "_law_draw" sDraw ["box", "many"]) (T : Txt K mg) : C8.Cal P w K mg base 1 "_law_draw" spDraw [] := by
  obtain ⟨f, fd, F, hm, hb⟩ := D
  refine ⟨f, fd, ["box", "many"], [], F.ok scDraw (fun vs H Q E h => ?_) (fun cdv A outer s H vs Q E hr h => ?_), hm, F.kp, hb, .nil⟩
  · obtain ⟨b, c, m, rfl, ⟨ns, x1, x2, x3, x4, hb, hc, h1⟩, hm1, hm2, k⟩ := h
    rfl
  · obtain ⟨b, c, m, rfl, ⟨ns, x1, x2, x3, x4, hb, hc, h1⟩, hm1, hm2, k⟩ := h
    refine ⟨_, (pss_cons (ps_if (pt_cmpR op_gt (pe_ix ix_list (pv 0) pe_int (fun _ _ => rfl)) pe_int (nomark _))
        (pss_cons (ps_set (i := 2) scDraw.nd rfl (Or.inl rfl) (pe_op op_modN (pe_callTy call_int1 (by rfl) T.int (by decide +kernel) (pa_cons (pe_ix ix_list (pv 0) pe_int (fun _ _ => rfl)) pa_nil)) (pv 1)))
        (pss_cons (ps_asg (pe_op op_fdivN (pe_ix ix_list (pv 0) pe_int (fun _ _ => rfl)) (pv 1)) (pg_sub (pv 0) pe_int set_list))
        (pss_one (ps_ret (pv 2)))))
        pss_nil)
      (pss_cons (ps_asg (pe_op op_add (pe_ix ix_list (pv 0) pe_int (fun _ _ => rfl)) pe_int) (pg_sub (pv 0) pe_int set_list))
      (pss_cons (ps_set (i := 3) scDraw.nd rfl (Or.inl rfl) (pe_op op_modN (pe_callTy call_int1 (by rfl) T.int (by decide +kernel) (pa_cons (pe_op op_add (pe_op op_mul (pe_ix ix_list (pv 0) pe_int (fun _ _ => rfl)) pe_int) (pe_op op_mul (pe_ix ix_list (pv 0) pe_int (fun _ _ => rfl)) pe_int)) pa_nil)) pe_int))
      (pss_cons (ps_set (i := 4) scDraw.nd rfl (Or.inl rfl) (pe_op op_modN (pe_callTy call_int1 (by rfl) T.int (by decide +kernel) (pa_cons (pe_op op_add (pe_op op_add (pe_op op_mul (pv 3) (pv 3)) (pe_op op_mul (pe_ix ix_list (pv 0) pe_int (fun _ _ => rfl)) pe_int)) (pe_ix ix_list (pv 0) pe_int (fun _ _ => rfl))) pa_nil)) pe_int))
      (pss_cons (ps_set (i := 5) scDraw.nd rfl (Or.inl rfl) (pe_op op_modN (pe_callTy call_int1 (by rfl) T.int (by decide +kernel) (pa_cons (pe_op op_add (pe_op op_mul (pv 4) (pv 4)) (pv 3)) pa_nil)) pe_int))
      (pss_one (ps_ret (pe_op op_modN (pe_callTy call_int1 (by rfl) T.int (by decide +kernel) (pa_cons (pe_op op_fdivN (pv 5) pe_int) pa_nil)) (pv 1))))))))), ?_⟩
    -- if box[2] > 0:
    refine ⟨_, rfl, _, _, _, _, rfl, rfl, SqL.of (by fail "hp"), (by fail "ix"), _, _, rfl, rfl, _, rfl, ?_⟩
    refine ifD (fun g1 => ?_) (fun g1 => ?_)
    · -- digit = int(box[2]) % many
      refine ⟨_, rfl, _, _, _, _, rfl, rfl, SqL.of (by fail "hp"), (by fail "ix"), .inl ⟨_, rfl, _, rfl, _, _, rfl, rfl, (by fail "nz"), ?_⟩⟩
      -- box[2] = box[2] // many
      refine ⟨_, rfl, _, _, _, _, rfl, rfl, SqL.of (by fail "hp"), (by fail "ix"), _, rfl, _, _, rfl, rfl, (by fail "dv"), _, rfl, _, _, _, _, rfl, rfl, (by fail "hp"), (by fail "ixn"), ?_⟩
      -- return digit
      refine ⟨_, rfl, ?_⟩
      refine k _ _ (fm0 _ (by omega)) (fm1 _ (by omega)) (by fail "kp") ?_
      exact ⟨ns, x1, _, x3, x4, upd_same, by rw [upd_ne (box_c hb hc)]; exact hc, h1⟩
    · -- box[3] = box[3] + 1
      refine ⟨_, rfl, _, _, _, _, rfl, rfl, SqL.of (by fail "hp"), (by fail "ix"), _, _, rfl, rfl, _, rfl, _, _, _, _, rfl, rfl, (by fail "hp"), (by fail "ixn"), ?_⟩
      -- first = int(box[4] * 48271 + box[3] * 69621) % 2147483647
      refine ⟨_, rfl, _, _, _, _, rfl, rfl, SqL.of (by fail "hp"), (by fail "ix"), _, _, rfl, rfl, (by fail "mul"), _, rfl, _, _, _, _, rfl, rfl, SqL.of (by fail "hp"), (by fail "ix"), _, _, rfl, rfl, (by fail "mul"), _, _, rfl, rfl, .inl ⟨_, rfl, _, _, rfl, rfl, (by fail "nz"), ?_⟩⟩
      -- second = int(first * first + box[3] * 40692 + box[4]) % 2147483399
      refine ⟨_, rfl, _, rfl, _, _, rfl, rfl, (by fail "mul"), _, rfl, _, _, _, _, rfl, rfl, SqL.of (by fail "hp"), (by fail "ix"), _, _, rfl, rfl, (by fail "mul"), _, _, rfl, rfl, _, rfl, _, _, _, _, rfl, rfl, SqL.of (by fail "hp"), (by fail "ix"), _, _, rfl, rfl, .inl ⟨_, rfl, _, _, rfl, rfl, (by fail "nz"), ?_⟩⟩
      -- third = int(second * second + first) % 2147483629
      refine ⟨_, rfl, _, rfl, _, _, rfl, rfl, (by fail "mul"), _, rfl, _, _, rfl, rfl, .inl ⟨_, rfl, _, _, rfl, rfl, (by fail "nz"), ?_⟩⟩
      -- return int(third // 8) % many
      refine ⟨_, rfl, _, _, rfl, rfl, (by fail "dv"), .inl ⟨_, rfl, _, rfl, _, _, rfl, rfl, (by fail "nz"), ?_⟩⟩
      refine k _ _ (fm0 _ (by omega)) (fm1 _ (by omega)) (by fail "kp") ?_
      exact ⟨ns, x1, x2, _, x4, upd_same, by rw [upd_ne (box_c hb hc)]; exact hc, h1⟩
abbrev sGreat : Stmt := top 15
theorem scGreat : FnScope ["box", "low", "middle", "high", "top"] ["box"] (defScope sGreat) := ⟨rfl, rfl, rfl, by decide +kernel, rfl, by decide +kernel, by decide +kernel⟩
def spGreat : Sp := fun vs H Q _ => ∃ (b bc : Addr), vs = [.ref b] ∧ BoxOk H b bc ∧
  ∀ (d : Int) (H' : Hp), 0 ≤ d → Kp b H H' → BoxOk H' b bc → Q (.int d) H'
theorem ok_Great (D : Df K mg "_law_great" sGreat ["box"]) (T : Txt K mg) (GDraw : C8.Cal P w K mg base 1 "_law_draw" spDraw []) : C8.Cal P w K mg base 2 "_law_great" spGreat [] := by
  obtain ⟨f, fd, F, hm, hb⟩ := D
  refine ⟨f, fd, ["box"], [], F.ok scGreat (fun vs H Q E h => ?_) (fun cdv A outer s H vs Q E hr h => ?_), hm, F.kp, hb, .nil⟩
  · obtain ⟨b, bc, rfl, bx, k⟩ := h
    rfl
  · obtain ⟨b, bc, rfl, bx, k⟩ := h
    refine ⟨_, (pss_cons (ps_set (i := 1) scGreat.nd rfl (Or.inl rfl) (C8.pe_c GDraw hr (by decide) (by rfl) (pa_cons (pv 0) (pa_cons (pe_op op_pow pe_int pe_int) pa_nil))))
      (pss_cons (ps_set (i := 2) scGreat.nd rfl (Or.inl rfl) (C8.pe_c GDraw hr (by decide) (by rfl) (pa_cons (pv 0) (pa_cons (pe_op op_pow pe_int pe_int) pa_nil))))
      (pss_cons (ps_set (i := 3) scGreat.nd rfl (Or.inl rfl) (C8.pe_c GDraw hr (by decide) (by rfl) (pa_cons (pv 0) (pa_cons (pe_op op_pow pe_int pe_int) pa_nil))))
      (pss_cons (ps_set (i := 4) scGreat.nd rfl (Or.inl rfl) (C8.pe_c GDraw hr (by decide) (by rfl) (pa_cons (pv 0) (pa_cons (pe_op op_pow pe_int pe_int) pa_nil))))
      (pss_one (ps_ret (pe_op op_add (pe_op op_mul (pe_op op_add (pe_op op_mul (pe_op op_add (pe_op op_mul (pv 4) (pe_op op_pow pe_int pe_int)) (pv 3)) (pe_op op_pow pe_int pe_int)) (pv 2)) (pe_op op_pow pe_int pe_int)) (pv 1)))))))), ?_⟩
    -- low = _law_draw(box, 10 ** 8)
    refine ⟨_, rfl, _, _, rfl, rfl, ⟨by decide, by decide, by decide⟩, _, _, _, rfl, (by fail "bx"), (by fail "om"), (by fail "om"), fun d1 H1 da1 db1 kp1 bx1 => ?_⟩
    -- middle = _law_draw(box, 10 ** 8)
    refine ⟨_, rfl, _, _, rfl, rfl, ⟨by decide, by decide, by decide⟩, _, _, _, rfl, (by fail "bx"), (by fail "om"), (by fail "om"), fun d2 H2 da2 db2 kp2 bx2 => ?_⟩
    -- high = _law_draw(box, 10 ** 8)
    refine ⟨_, rfl, _, _, rfl, rfl, ⟨by decide, by decide, by decide⟩, _, _, _, rfl, (by fail "bx"), (by fail "om"), (by fail "om"), fun d3 H3 da3 db3 kp3 bx3 => ?_⟩
    -- top = _law_draw(box, 10 ** 6)
    refine ⟨_, rfl, _, _, rfl, rfl, ⟨by decide, by decide, by decide⟩, _, _, _, rfl, (by fail "bx"), (by fail "om"), (by fail "om"), fun d4 H4 da4 db4 kp4 bx4 => ?_⟩
    -- return ((top * 10 ** 8 + high) * 10 ** 8 + middle) * 10 ** 8 + low
    refine ⟨_, rfl, _, _, rfl, rfl, ⟨by decide, by decide, by decide⟩, _, _, rfl, rfl, (by fail "mul"), _, rfl, _, _, rfl, rfl, _, _, rfl, rfl, ⟨by decide, by decide, by decide⟩, _, _, rfl, rfl, (by fail "mul"), _, rfl, _, _, rfl, rfl, _, _, rfl, rfl, ⟨by decide, by decide, by decide⟩, _, _, rfl, rfl, (by fail "mul"), _, rfl, _, _, rfl, rfl, ?_⟩
    refine k _ _ ?_ (by fail "kp") (by fail "bx")
    show 0 ≤ ((d4 * (100000000 : Int) + d3) * (100000000 : Int) + d2) * (100000000 : Int) + d1
    omega
abbrev sIsInt : Stmt := top 16
theorem scIsInt : FnScope ["actual"] ["actual"] (defScope sIsInt) := ⟨rfl, rfl, rfl, by decide +kernel, rfl, by decide +kernel, by decide +kernel⟩
def spIsInt : Sp := fun vs H Q _ => ∃ (i : Int), vs = [.int i] ∧ Q (.bl true) H
theorem ok_IsInt (D : Df K mg "_law_is_int" sIsInt ["actual"]) (T : Txt K mg) : C8.Cal P w K mg base 1 "_law_is_int" spIsInt [] := by
  obtain ⟨f, fd, F, hm, hb⟩ := D
  refine ⟨f, fd, ["actual"], [], F.ok scIsInt (fun vs H Q E h => ?_) (fun cdv A outer s H vs Q E hr h => ?_), hm, F.kp, hb, .nil⟩
  · obtain ⟨i, rfl, k⟩ := h
    rfl
  · obtain ⟨i, rfl, k⟩ := h
    refine ⟨_, (pss_one (ps_ret (pe_and (pe_callB call_isi (by rfl) T.isinstance (by decide +kernel) (pa_cons (pv 0) (pa_cons (pe_bltn (v := .ty "int") (u := .type "int") (by rfl) T.int (by decide +kernel) rfl) pa_nil))) (pe_one (pe_not (pe_callB call_isi (by rfl) T.isinstance (by decide +kernel) (pa_cons (pv 0) (pa_cons (pe_bltn (v := .ty "bool") (u := .type "bool") (by rfl) T.bool (by decide +kernel) rfl) pa_nil)))))))), ?_⟩
    -- return isinstance(actual, int) and (not isinstance(actual, bool))
    refine ⟨_, rfl, _, _, _, _, true, rfl, (by fail "cv"), (by fail "tx"), kit_ty (by decide +kernel), _, rfl, iteK (by fail "tt") ⟨_, rfl, _, _, _, _, false, rfl, (by fail "cv"), (by fail "tx"), kit_ty (by decide +kernel), _, rfl, ?_⟩⟩
    exact k
abbrev sStranger : Stmt := top 17
theorem scStranger : FnScope ["box", "count", "kind", "great"] ["box", "count"] (defScope sStranger) := ⟨rfl, rfl, rfl, by decide +kernel, rfl, by decide +kernel, by decide +kernel⟩
def spStranger : Sp := fun vs H Q _ => ∃ (b bc : Addr) (n : Int), vs = [.ref b, .int n] ∧ BoxOk H b bc ∧ 0 < n ∧
  ∀ (d : Int) (H' : Hp), (d < 0 ∨ n ≤ d) → Kp b H H' → BoxOk H' b bc → Q (.int d) H'
theorem ok_Stranger (D : Df K mg "_law_stranger" sStranger ["box", "count"]) (T : Txt K mg) (GDraw : C8.Cal P w K mg base 1 "_law_draw" spDraw []) (GGreat : C8.Cal P w K mg base 2 "_law_great" spGreat []) : C8.Cal P w K mg base 3 "_law_stranger" spStranger [] := by
  obtain ⟨f, fd, F, hm, hb⟩ := D
  refine ⟨f, fd, ["box", "count"], [], F.ok scStranger (fun vs H Q E h => ?_) (fun cdv A outer s H vs Q E hr h => ?_), hm, F.kp, hb, .nil⟩
  · obtain ⟨b, bc, n, rfl, bx, hn, k⟩ := h
    rfl
  · obtain ⟨b, bc, n, rfl, bx, hn, k⟩ := h
    refine ⟨_, (pss_cons (ps_set (i := 2) scStranger.nd rfl (Or.inl rfl) (C8.pe_c GDraw hr (by decide) (by rfl) (pa_cons (pv 0) (pa_cons pe_int pa_nil))))
      (pss_cons (ps_if (pt_cmpR op_eq (pv 2) pe_int (nomark _))
        (pss_one (ps_ret (pe_un un_neg pe_int)))
        pss_nil)
      (pss_cons (ps_if (pt_cmpR op_eq (pv 2) pe_int (nomark _))
        (pss_one (ps_ret (pv 1)))
        pss_nil)
      (pss_cons (ps_if (pt_cmpR op_eq (pv 2) pe_int (nomark _))
        (pss_one (ps_ret (pe_op op_sub (pe_un un_neg pe_int) (C8.pe_c GDraw hr (by decide) (by rfl) (pa_cons (pv 0) (pa_cons pe_int pa_nil))))))
        pss_nil)
      (pss_cons (ps_if (pt_cmpR op_eq (pv 2) pe_int (nomark _))
        (pss_one (ps_ret (pe_op op_add (pv 1) (C8.pe_c GDraw hr (by decide) (by rfl) (pa_cons (pv 0) (pa_cons pe_int pa_nil))))))
        pss_nil)
      (pss_cons (ps_set (i := 3) scStranger.nd rfl (Or.inl rfl) (C8.pe_c GGreat hr (by decide) (by rfl) (pa_cons (pv 0) pa_nil)))
      (pss_cons (ps_if (pt_cmpR op_eq (pv 2) pe_int (nomark _))
        (pss_one (ps_ret (pe_callB (call_max2 rfl) (by rfl) T.max (by decide +kernel) (pa_cons (pv 1) (pa_cons (pv 3) pa_nil)))))
        pss_nil)
      (pss_one (ps_ret (pe_callB (call_min2 rfl) (by rfl) T.min (by decide +kernel) (pa_cons (pe_un un_neg pe_int) (pa_cons (pe_op op_sub pe_int (pv 3)) pa_nil)))))))))))), ?_⟩
    -- kind = _law_draw(box, 6)
    refine ⟨_, rfl, _, _, _, rfl, (by fail "bx"), (by fail "om"), (by fail "om"), fun d1 H1 da1 db1 kp1 bx1 => ?_⟩
    -- if kind == 0:
    refine ⟨_, rfl, rfl, _, rfl, ?_⟩
    refine ifEqI (fun g2 => ?_) (fun g2 => ?_)
    · -- return -1
      refine ⟨_, rfl, ?_⟩
      exact k _ _ (by omega) (by fail "kp") (by fail "bx")
    · -- if kind == 1:
      refine ⟨_, rfl, rfl, _, rfl, ?_⟩
      refine ifEqI (fun g3 => ?_) (fun g3 => ?_)
      · -- return count
        refine ⟨_, rfl, ?_⟩
        exact k _ _ (by omega) (by fail "kp") (by fail "bx")
      · -- if kind == 2:
        refine ⟨_, rfl, rfl, _, rfl, ?_⟩
        refine ifEqI (fun g4 => ?_) (fun g4 => ?_)
        · -- return -1 - _law_draw(box, 24)
          refine ⟨_, rfl, _, rfl, _, _, _, rfl, (by fail "bx"), (by fail "om"), (by fail "om"), fun d5 H5 da5 db5 kp5 bx5 => ⟨_, _, rfl, rfl, ?_⟩⟩
          exact k _ _ (by omega) (by fail "kp") (by fail "bx")
        · -- if kind == 3:
          refine ⟨_, rfl, rfl, _, rfl, ?_⟩
          refine ifEqI (fun g6 => ?_) (fun g6 => ?_)
          · -- return count + _law_draw(box, 4)
            refine ⟨_, rfl, _, rfl, _, _, _, rfl, (by fail "bx"), (by fail "om"), (by fail "om"), fun d7 H7 da7 db7 kp7 bx7 => ⟨_, _, rfl, rfl, ?_⟩⟩
            exact k _ _ (by omega) (by fail "kp") (by fail "bx")
          · -- great = _law_great(box)
            refine ⟨_, rfl, _, _, rfl, (by fail "bx"), fun d8 H8 da8 kp8 bx8 => ?_⟩
            -- if kind == 4:
            refine ⟨_, rfl, rfl, _, rfl, ?_⟩
            refine ifEqI (fun g9 => ?_) (fun g9 => ?_)
            · -- return max(count, great)
              refine ⟨_, rfl, _, rfl, _, _, rfl, ?_⟩
              exact k _ _ (by split <;> omega) (by fail "kp") (by fail "bx")
            · -- return min(-1, 0 - great)
              refine ⟨_, rfl, _, rfl, _, _, rfl, rfl, _, _, rfl, ?_⟩
              exact k _ _ (by split <;> omega) (by fail "kp") (by fail "bx")
abbrev sTruth : Stmt := top 18
theorem scTruth : FnScope ["actual", "due"] ["actual", "due"] (defScope sTruth) := ⟨rfl, rfl, rfl, by decide +kernel, rfl, by decide +kernel, by decide +kernel⟩
def spTruth : Sp := fun vs H Q _ => ∃ (a : Bool), vs = [.bl a, .bl a] ∧ Q (.bl true) H
theorem ok_Truth (D : Df K mg "_law_truth" sTruth ["actual", "due"]) (T : Txt K mg) : C8.Cal P w K mg base 1 "_law_truth" spTruth [] := by
  obtain ⟨f, fd, F, hm, hb⟩ := D
  refine ⟨f, fd, ["actual", "due"], [], F.ok scTruth (fun vs H Q E h => ?_) (fun cdv A outer s H vs Q E hr h => ?_), hm, F.kp, hb, .nil⟩
  · obtain ⟨a, rfl, k⟩ := h
    rfl
  · obtain ⟨a, rfl, k⟩ := h
    refine ⟨_, (pss_one (ps_ret (pe_and (pe_callB call_isi (by rfl) T.isinstance (by decide +kernel) (pa_cons (pv 0) (pa_cons (pe_bltn (v := .ty "bool") (u := .type "bool") (by rfl) T.bool (by decide +kernel) rfl) pa_nil))) (pe_one (pe_cmpR op_eq (pv 0) (pv 1) (nomark _)))))), ?_⟩
    -- return isinstance(actual, bool) and actual == due
    refine ⟨_, rfl, _, _, _, _, true, rfl, (by fail "cv"), (by fail "tx"), kit_ty (by decide +kernel), _, rfl, iteK (by fail "tt") ⟨_, rfl, _, rfl, rfl, ?_⟩⟩
    rw [decide_eq_true rfl]
    exact k
abbrev sCount : Stmt := top 22
theorem scCount : FnScope ["box", "share"] ["box"] (defScope sCount) := ⟨rfl, rfl, rfl, by decide +kernel, rfl, by decide +kernel, by decide +kernel⟩
def spCount : Sp := fun vs H Q _ => ∃ (b bc : Addr), vs = [.ref b] ∧ BoxOk H b bc ∧
  ∀ (d : Int) (H' : Hp), 1 ≤ d → d ≤ 24 → Kp b H H' → BoxOk H' b bc → Q (.int d) H'
theorem ok_Count (D : Df K mg "_law_count" sCount ["box"]) (T : Txt K mg) (GDraw : C8.Cal P w K mg base 1 "_law_draw" spDraw []) : C8.Cal P w K mg base 2 "_law_count" spCount [] := by
  obtain ⟨f, fd, F, hm, hb⟩ := D
  refine ⟨f, fd, ["box"], [], F.ok scCount (fun vs H Q E h => ?_) (fun cdv A outer s H vs Q E hr h => ?_), hm, F.kp, hb, .nil⟩
  · obtain ⟨b, bc, rfl, bx, k⟩ := h
    rfl
  · obtain ⟨b, bc, rfl, bx, k⟩ := h
    refine ⟨_, (pss_cons (ps_set (i := 1) scCount.nd rfl (Or.inl rfl) (C8.pe_c GDraw hr (by decide) (by rfl) (pa_cons (pv 0) (pa_cons pe_int pa_nil))))
      (pss_cons (ps_if (pt_cmpR op_lt (pv 1) pe_int (nomark _))
        (pss_one (ps_ret (pe_op op_add pe_int (C8.pe_c GDraw hr (by decide) (by rfl) (pa_cons (pv 0) (pa_cons pe_int pa_nil))))))
        pss_nil)
      (pss_cons (ps_if (pt_cmpR op_eq (pv 1) pe_int (nomark _))
        (pss_one (ps_ret (pe_op op_add pe_int (C8.pe_c GDraw hr (by decide) (by rfl) (pa_cons (pv 0) (pa_cons pe_int pa_nil))))))
        pss_nil)
      (pss_one (ps_ret (pe_op op_add pe_int (C8.pe_c GDraw hr (by decide) (by rfl) (pa_cons (pv 0) (pa_cons pe_int pa_nil))))))))), ?_⟩
    -- share = _law_draw(box, 8)
    refine ⟨_, rfl, _, _, _, rfl, (by fail "bx"), (by fail "om"), (by fail "om"), fun d1 H1 da1 db1 kp1 bx1 => ?_⟩
    -- if share < 6:
    refine ⟨_, rfl, _, _, rfl, rfl, _, rfl, ?_⟩
    refine ifD (fun g2 => ?_) (fun g2 => ?_)
    · -- return 1 + _law_draw(box, 6)
      refine ⟨_, rfl, _, _, _, rfl, (by fail "bx"), (by fail "om"), (by fail "om"), fun d3 H3 da3 db3 kp3 bx3 => ⟨_, _, rfl, rfl, ?_⟩⟩
      exact k _ _ (by omega) (by omega) (by fail "kp") (by fail "bx")
    · -- if share == 6:
      refine ⟨_, rfl, rfl, _, rfl, ?_⟩
      refine ifEqI (fun g4 => ?_) (fun g4 => ?_)
      · -- return 1 + _law_draw(box, 24)
        refine ⟨_, rfl, _, _, _, rfl, (by fail "bx"), (by fail "om"), (by fail "om"), fun d5 H5 da5 db5 kp5 bx5 => ⟨_, _, rfl, rfl, ?_⟩⟩
        exact k _ _ (by omega) (by omega) (by fail "kp") (by fail "bx")
      · -- return 23 + _law_draw(box, 2)
        refine ⟨_, rfl, _, _, _, rfl, (by fail "bx"), (by fail "om"), (by fail "om"), fun d6 H6 da6 db6 kp6 bx6 => ⟨_, _, rfl, rfl, ?_⟩⟩
        exact k _ _ (by omega) (by omega) (by fail "kp") (by fail "bx")
abbrev sPair : Stmt := top 23
theorem scPair : FnScope ["box", "count", "source"] ["box", "count"] (defScope sPair) := ⟨rfl, rfl, rfl, by decide +kernel, rfl, by decide +kernel, by decide +kernel⟩
def spPair : Sp := fun vs H Q _ => ∃ (b bc : Addr) (n : Int), vs = [.ref b, .int n] ∧ BoxOk H b bc ∧ 2 ≤ n ∧ n ≤ 24 ∧
  ∀ (x y : Int) (t : Addr) (H' : Hp), 0 ≤ x → x < n → 0 ≤ y → y < n → x ≠ y → Kp b H H' → BoxOk H' b bc → H t = none → t ≠ b → H' t = some (.tup [.int x, .int y]) → Q (.ref t) H'
theorem ok_Pair (D : Df K mg "_law_pair" sPair ["box", "count"]) (T : Txt K mg) (GDraw : C8.Cal P w K mg base 1 "_law_draw" spDraw []) : C8.Cal P w K mg base 2 "_law_pair" spPair [] := by
  obtain ⟨f, fd, F, hm, hb⟩ := D
  refine ⟨f, fd, ["box", "count"], [], F.ok scPair (fun vs H Q E h => ?_) (fun cdv A outer s H vs Q E hr h => ?_), hm, F.kp, hb, .nil⟩
  · obtain ⟨b, bc, n, rfl, bx, hn1, hn2, k⟩ := h
    rfl
  · obtain ⟨b, bc, n, rfl, bx, hn1, hn2, k⟩ := h
    refine ⟨_, (pss_cons (ps_set (i := 2) scPair.nd rfl (Or.inl rfl) (C8.pe_c GDraw hr (by decide) (by rfl) (pa_cons (pv 0) (pa_cons (pv 1) pa_nil))))
      (pss_one (ps_ret (pe_tup (pa_cons (pv 2) (pa_cons (pe_op op_modN (pe_callTy call_int1 (by rfl) T.int (by decide +kernel) (pa_cons (pe_op op_add (pe_op op_add (pv 2) pe_int) (C8.pe_c GDraw hr (by decide) (by rfl) (pa_cons (pv 0) (pa_cons (pe_op op_sub (pv 1) pe_int) pa_nil)))) pa_nil)) (pv 1)) pa_nil)))))), ?_⟩
    -- source = _law_draw(box, count)
    refine ⟨_, rfl, _, rfl, _, _, _, rfl, (by fail "bx"), (by fail "om"), (by fail "om"), fun d1 H1 da1 db1 kp1 bx1 => ?_⟩
    -- return (source, int(source + 1 + _law_draw(box, count - 1)) % count)
    refine ⟨_, rfl, _, rfl, _, _, rfl, rfl, _, rfl, _, rfl, _, _, rfl, rfl, _, _, _, rfl, (by fail "bx"), (by fail "om"), (by fail "om"), fun d3 H3 da3 db3 kp3 bx3 => ⟨_, _, rfl, rfl, .inl ⟨_, rfl, _, rfl, _, _, rfl, rfl, (by fail "nz"), (by fail "sz"), fun p2 np2 => ?_⟩⟩⟩
    refine k _ _ _ _ da1 db1 (fm0 _ (by omega)) (fm1 _ (by omega)) ?_ (by fail "kp") (by fail "bx") ?_ ?_ upd_same
    · exact pair_ne da1 db1 da3 db3
    · exact Kp.free (Kp.trans kp1 kp3) bx3 np2
    · exact fun z => by subst z; obtain ⟨u, hu⟩ := bx3.there; rw [hu] at np2; cases np2
end
end K00

end
section
set_option Elab.async false
set_option linter.all false
set_option maxRecDepth 100000
set_option maxHeartbeats 4000000
namespace K00
open PySem L2 Kit KR
local macro_rules | `(tactic| fail "om") => `(tactic| first | omega | decide | assumption | (simp only [List.length_map, List.length_append, List.length_cons, List.length_nil]; omega) | fail "no om")
local macro_rules | `(tactic| fail "nz") => `(tactic| first | decide | omega | fail "no nz")
local macro_rules | `(tactic| fail "dv") => `(tactic| exact ⟨by first | decide | omega, by first | decide | omega⟩)
local macro_rules | `(tactic| fail "mul") => `(tactic| first | exact .inr ⟨by decide, by decide⟩ | exact .inl ⟨by decide, by decide⟩ | exact mulF (by decide) (by decide) | exact .inl ⟨by omega, by omega⟩ | exact .inr ⟨by omega, by omega⟩ | fail "no mul")
local macro_rules | `(tactic| fail "sz") => `(tactic| first | assumption | exact Nat.zero_le _ | (show 1 ≤ sizeLine; decide) | (show 2 ≤ sizeLine; decide) | (show 3 ≤ sizeLine; decide) | (show 4 ≤ sizeLine; decide) | (show 5 ≤ sizeLine; decide) | exact Evl.sz_of (by omega) | (refine Evl.sz_of ?_; simp only [List.length_append, List.length_map, List.length_cons, List.length_nil]; omega) | fail "no sz")
local macro_rules | `(tactic| fail "szl") => `(tactic| first | exact Evl.sz_lt (by omega) | (refine Evl.sz_lt ?_; simp only [List.length_append, List.length_map, List.length_cons, List.length_nil]; omega) | fail "no szl")
local macro_rules | `(tactic| fail "ix") => `(tactic| first | assumption | exact ix0 | exact ix1 | exact ix2 | exact at_ref (by assumption) (by omega) | exact at_int (by assumption) (by omega) | exact at_drawn (by assumption) (by assumption) | rfl | fail "no ix")
local macro_rules | `(tactic| fail "ixn") => `(tactic| first | rfl | assumption | fail "no ixn")
local macro_rules | `(tactic| fail "nb") => `(tactic| first | assumption | exact nb_tup | exact nb_nil | exact nb_ints | exact nb_refs | exact nb_ins | exact nb_dT | exact nb_frz | fail "no nb")
local macro_rules | `(tactic| fail "ne") => `(tactic| first | assumption | exact Ne.symm (by assumption) | exact ne_of_none (by assumption) (by assumption) | exact (ne_of_none (by assumption) (by assumption)).symm | exact ne_of (by assumption) (by assumption) (by intro q; cases q) | exact ne_of (by assumption) (by assumption) (by simp) | fail "no ne")
local macro_rules | `(tactic| fail "hp") => `(tactic| first | assumption | exact upd_same | (refine' Tk.get (by assumption) ?k1; (case k1 => fail "tk")) | (with_reducible refine' upd_new ?h1 ?n1; (case n1 => assumption); (case h1 => fail "hp")) | (refine' Same.get (by assumption) ?h1; (case h1 => fail "hp")) | (refine' Kp.get (by assumption) (by fail "bx") ?h1 ?d1; (case h1 => fail "hp"); (case d1 => fail "nb")) | (with_reducible refine' upd_oth ?h1 ?n1; (case n1 => fail "ne"); (case h1 => fail "hp")) | (with_reducible refine' upd_oth ?h1 ?n1; (case h1 => fail "hp"); (case n1 => fail "ne")) | fail "no hp")
local macro_rules | `(tactic| fail "bx") => `(tactic| first | assumption | (with_reducible refine' BoxOk.new ?h1 ?n1; (case n1 => assumption); (case h1 => fail "bx")) | (refine' BoxOk.same (by assumption) ?h1; (case h1 => fail "bx")) | (with_reducible refine' BoxOk.mut ?h1 ?h2 ?n1; (case n1 => assumption); (case h2 => assumption); (case h1 => fail "bx")) | fail "no bx")
local macro_rules | `(tactic| fail "kp") => `(tactic| first | assumption | exact Kp.refl | (with_reducible refine' Kp.at ?h1; (case h1 => fail "kp")) | (with_reducible refine' Kp.new ?h1 ?n1; (case n1 => assumption); (case h1 => fail "kp")) | (with_reducible refine' Kp.mut ?h1 ?n1; (case n1 => assumption); (case h1 => fail "kp")) | (refine' Kp.tr (by assumption) ?h1; (case h1 => fail "kp")) | (refine' Kp.tr (Kp.of (by assumption)) ?h1; (case h1 => fail "kp")) | fail "no kp")
local macro_rules | `(tactic| fail "ite") => `(tactic| first | refine iteT ?_ | refine iteF ?_)
local macro_rules | `(tactic| fail "tt") => `(tactic| first | rfl | exact decide_eq_true (by first | rfl | omega | assumption) | exact decide_eq_true (congrArg V.int (by first | rfl | omega)) | fail "no tt")
local macro_rules | `(tactic| fail "cv") => `(tactic| first | exact .ty _ | exact .own _)
local macro_rules | `(tactic| fail "tx") => `(tactic| first | exact .base (.int _) | exact .base (.bl _) | exact .base .non | exact .base (.lst (by fail "hp")) | exact .base (.tup (by fail "hp")) | fail "no tx")
local macro_rules | `(tactic| fail "dead") => `(tactic| (exfalso; first | omega | contradiction | simp_all))
local macro_rules | `(tactic| fail "dp") => `(tactic| first | exact .tup (SqT.of (by fail "hp")) (.cons (.int _) (.cons (.int _) .nil)) | exact .lst (SqL.of (by fail "hp")) (dpPrs (by fail "pr")) | exact .lst (SqL.of (by fail "hp")) (dpInts _) | exact .lst (SqL.of (by fail "hp")) .nil | fail "no dp")
local macro_rules | `(tactic| fail "shp") => `(tactic| first | assumption | exact prD_shaped _ | exact PySem.W.ke_shaped_ints _ | rfl | fail "no shp")
local macro_rules | `(tactic| fail "pr") => `(tactic| first | assumption | exact PrT.mono (by assumption) (by fail "tk") | fail "no pr")
local macro_rules | `(tactic| fail "tk") => `(tactic| first | assumption | exact Tk.refl | (with_reducible refine' Tk.new ?h1 ?n1; (case n1 => assumption); (case h1 => fail "tk")) | (refine' Tk.tr (Kp.tk (by assumption) (by fail "bx")) ?h1; (case h1 => fail "tk")) | (refine' Tk.tr (Same.tk (by assumption)) ?h1; (case h1 => fail "tk")) | (with_reducible refine' Tk.lst ?h1 ?n1; (case n1 => fail "hp"); (case h1 => fail "tk")) | fail "no tk")

theorem eqv_pair (x y : Int) : PyData.eqv (.tuple [.int x, .int y]) (.tuple [.int x, .int y]) = true := SeqAt.eqv_refl _ rfl
section
variable {P : Program} {w : World} {K : PySem.W.Frag} {mg : Str → Option Value} {base : Heap}

abbrev sIsPair : Stmt := top 19
theorem scIsPair : FnScope ["actual", "due"] ["actual", "due"] (defScope sIsPair) := ⟨rfl, rfl, rfl, by decide +kernel, rfl, by decide +kernel, by decide +kernel⟩
def spIsPair : Sp := fun vs H Q _ => ∃ (p q : Addr) (x y : Int), vs = [.ref p, .ref q] ∧ H p = some (.tup [.int x, .int y]) ∧ H q = some (.tup [.int x, .int y]) ∧ Q (.bl true) H
theorem ok_IsPair (D : Df K mg "_law_is_pair" sIsPair ["actual", "due"]) (T : Txt K mg) (GIsInt : C8.Cal P w K mg base 1 "_law_is_int" spIsInt []) : C8.Cal P w K mg base 2 "_law_is_pair" spIsPair [] := by
  obtain ⟨f, fd, F, hm, hb⟩ := D
  refine ⟨f, fd, ["actual", "due"], [], F.ok scIsPair (fun vs H Q E h => ?_) (fun cdv A outer s H vs Q E hr h => ?_), hm, F.kp, hb, .nil⟩
  · obtain ⟨p, q, x, y, rfl, hp, hq, k⟩ := h
    rfl
  · obtain ⟨p, q, x, y, rfl, hp, hq, k⟩ := h
    refine ⟨_, (pss_cons (ps_if (PW.pt (pw_or (pt_not (pt_val (pe_callB call_isi (by rfl) T.isinstance (by decide +kernel) (pa_cons (pv 0) (pa_cons (pe_bltn (v := .ty "tuple") (u := .type "tuple") (by rfl) T.tuple (by decide +kernel) rfl) pa_nil))))) (pw_or1 (pt_cmpR op_ne (pe_callB call_len_seq (by rfl) T.len (by decide +kernel) (pa_cons (pv 0) pa_nil)) pe_int (nomark _)))))
        (pss_one (ps_ret pe_bl))
        pss_nil)
      (pss_one (ps_ret (pe_and (C8.pe_c GIsInt hr (by decide) (by rfl) (pa_cons (pe_ix ix_tup (pv 0) pe_int (fun _ _ => rfl)) pa_nil)) (pe_and (C8.pe_c GIsInt hr (by decide) (by rfl) (pa_cons (pe_ix ix_tup (pv 0) pe_int (fun _ _ => rfl)) pa_nil)) (pe_one (pe_cmpR (op_eqD hr.units) (pv 0) (pv 1) (nomark _)))))))), ?_⟩
    -- if not isinstance(actual, tuple) or len(actual) != 2:
    refine ⟨_, rfl, _, _, _, _, true, rfl, (by fail "cv"), (by fail "tx"), kit_ty (by decide +kernel), _, rfl, ?_⟩
    fail "ite"
    refine ⟨_, rfl, _, _, rfl, .inr (SqT.of (by fail "hp")), rfl, _, rfl, ?_⟩
    refine ifNeI (fun g1 => ?_) (fun g1 => ?_)
    · -- return False
      exact absurd rfl g1
    · -- return _law_is_int(actual[0]) and _law_is_int(actual[1]) and (actual == due)
      refine ⟨_, rfl, _, _, _, _, rfl, rfl, SqT.of (by fail "hp"), (by fail "ix"), _, rfl, ⟨_, rfl, iteK (by fail "tt") ⟨_, rfl, _, _, _, _, rfl, rfl, SqT.of (by fail "hp"), (by fail "ix"), _, rfl, ⟨_, rfl, iteK (by fail "tt") ⟨_, rfl, _, rfl, _, _, (by fail "dp"), (by fail "dp"), (by fail "shp"), (by fail "shp"), ?_⟩⟩⟩⟩⟩
      rw [eqv_pair]
      exact k
abbrev sPairsAre : Stmt := top 20
theorem scPairsAre : FnScope ["told", "due", "k"] ["told", "due"] (defScope sPairsAre) := ⟨rfl, rfl, rfl, by decide +kernel, rfl, by decide +kernel, by decide +kernel⟩
def spPairsAre : Sp := fun vs H Q _ => ∃ (a c : Addr) (as cs : List Addr) (ps : List (Int × Int)), vs = [.ref a, .ref c] ∧ H a = some (.lst (as.map V.ref)) ∧ H c = some (.lst (cs.map V.ref)) ∧
  PrT H as ps ∧ PrT H cs ps ∧ ps.length ≤ 1000 ∧ Q (.bl true) H
theorem len2 {as cs : List Addr} {H : Hp} {ps : List (Int × Int)} (pa : PrT H as ps) (pc : PrT H cs ps) : (((as.map V.ref).length : Nat) : Int) = (((cs.map V.ref).length : Nat) : Int) := by
  rw [List.length_map, List.length_map, pa.1, pc.1]
theorem ok_PairsAre (D : Df K mg "_law_pairs_are" sPairsAre ["told", "due"]) (T : Txt K mg) (GIsPair : C8.Cal P w K mg base 2 "_law_is_pair" spIsPair []) : C8.Cal P w K mg base 3 "_law_pairs_are" spPairsAre [] := by
  obtain ⟨f, fd, F, hm, hb⟩ := D
  refine ⟨f, fd, ["told", "due"], [], F.ok scPairsAre (fun vs H Q E h => ?_) (fun cdv A outer s H vs Q E hr h => ?_), hm, F.kp, hb, .nil⟩
  · obtain ⟨a, c, as, cs, ps, rfl, ha, hc, pa, pc, hl, k⟩ := h
    rfl
  · obtain ⟨a, c, as, cs, ps, rfl, ha, hc, pa, pc, hl, k⟩ := h
    have hl2 : cs.length ≤ 1000 := by rw [pc.1]; exact hl
    refine ⟨_, (pss_cons (ps_if (PW.pt (pw_or (pt_not (pt_val (pe_callB call_isi (by rfl) T.isinstance (by decide +kernel) (pa_cons (pv 0) (pa_cons (pe_bltn (v := .ty "list") (u := .type "list") (by rfl) T.list (by decide +kernel) rfl) pa_nil))))) (pw_or1 (pt_cmpR op_ne (pe_callB call_len_seq (by rfl) T.len (by decide +kernel) (pa_cons (pv 0) pa_nil)) (pe_callB call_len_seq (by rfl) T.len (by decide +kernel) (pa_cons (pv 1) pa_nil)) (nomark _)))))
        (pss_one (ps_ret pe_bl))
        pss_nil)
      (pss_cons (ps_for PassesOwn.never rfl (pi_range1 rfl T.range (pa_cons (pe_callB call_len_seq (by rfl) T.len (by decide +kernel) (pa_cons (pv 1) pa_nil)) pa_nil)) (pg_name (i := 2) scPairsAre.nd rfl (Or.inl rfl))
        (pss_one (ps_if (pt_not (pt_val (C8.pe_c GIsPair hr (by decide) (by rfl) (pa_cons (pe_ix ix_list (pv 0) (pv 2) (fun _ _ => rfl)) (pa_cons (pe_ix ix_list (pv 1) (pv 2) (fun _ _ => rfl)) pa_nil)))))
          (pss_one (ps_ret pe_bl))
          pss_nil)))
      (pss_one (ps_ret pe_bl)))), ?_⟩
    -- if not isinstance(told, list) or len(told) != len(due):
    refine ⟨_, rfl, _, _, _, _, true, rfl, (by fail "cv"), (by fail "tx"), kit_ty (by decide +kernel), _, rfl, ?_⟩
    fail "ite"
    refine ⟨_, rfl, _, _, rfl, .inl (SqL.of (by fail "hp")), _, rfl, _, _, rfl, .inl (SqL.of (by fail "hp")), rfl, _, rfl, ?_⟩
    refine ifNeI (fun g1 => ?_) (fun g1 => ?_)
    · -- return False
      exact absurd (len2 pa pc) g1
    · -- for k in range(len(due)):
      refine ⟨_, rfl, _, _, rfl, .inl (SqL.of (by fail "hp")), _, rfl, (by fail "om"), (by fail "om"), for_range (lo := 0) (fun i σ H' => H' = H ∧ ∃ v, σ = [some (.ref a), some (.ref c), v]) ⟨rfl, none, rfl⟩ ?_ ?_⟩
      · rintro i σ H' hi ⟨rfl, v, rfl⟩
        have hi' : i < ps.length := by
          have := pc.1
          simp at hi
          omega
        obtain ⟨ta, x, y, e1, e2, e3⟩ := pa.at hi'
        obtain ⟨tc, x2, y2, f1, f2, f3⟩ := pc.at hi'
        rw [e2] at f2
        cases f2
        -- if not _law_is_pair(told[k], due[k]):
        refine ⟨_, rfl, _, rfl, _, _, _, _, rfl, rfl, SqL.of (by fail "hp"), (by fail "ix"), _, rfl, _, rfl, _, _, _, _, rfl, rfl, SqL.of (by fail "hp"), (by fail "ix"), _, _, _, _, rfl, (by fail "hp"), (by fail "hp"), ⟨_, rfl, ?_⟩⟩
        fail "ite"
        exact ⟨rfl, _, rfl⟩
      · rintro σ H' ⟨rfl, v, rfl⟩
        -- return True
        exact k
abbrev sIntsAre : Stmt := top 21
theorem scIntsAre : FnScope ["told", "due", "k"] ["told", "due"] (defScope sIntsAre) := ⟨rfl, rfl, rfl, by decide +kernel, rfl, by decide +kernel, by decide +kernel⟩
def spIntsAre : Sp := fun vs H Q _ => ∃ (a c : Addr) (ns : List Int), vs = [.ref a, .ref c] ∧ H a = some (.lst (ns.map V.int)) ∧ H c = some (.lst (ns.map V.int)) ∧ ns.length ≤ 1000 ∧ Q (.bl true) H
theorem ok_IntsAre (D : Df K mg "_law_ints_are" sIntsAre ["told", "due"]) (T : Txt K mg) (GIsInt : C8.Cal P w K mg base 1 "_law_is_int" spIsInt []) : C8.Cal P w K mg base 2 "_law_ints_are" spIntsAre [] := by
  obtain ⟨f, fd, F, hm, hb⟩ := D
  refine ⟨f, fd, ["told", "due"], [], F.ok scIntsAre (fun vs H Q E h => ?_) (fun cdv A outer s H vs Q E hr h => ?_), hm, F.kp, hb, .nil⟩
  · obtain ⟨a, c, ns, rfl, ha, hc, hl, k⟩ := h
    rfl
  · obtain ⟨a, c, ns, rfl, ha, hc, hl, k⟩ := h
    refine ⟨_, (pss_cons (ps_if (PW.pt (pw_or (pt_not (pt_val (pe_callB call_isi (by rfl) T.isinstance (by decide +kernel) (pa_cons (pv 0) (pa_cons (pe_bltn (v := .ty "list") (u := .type "list") (by rfl) T.list (by decide +kernel) rfl) pa_nil))))) (pw_or1 (pt_cmpR op_ne (pe_callB call_len_seq (by rfl) T.len (by decide +kernel) (pa_cons (pv 0) pa_nil)) (pe_callB call_len_seq (by rfl) T.len (by decide +kernel) (pa_cons (pv 1) pa_nil)) (nomark _)))))
        (pss_one (ps_ret pe_bl))
        pss_nil)
      (pss_cons (ps_for PassesOwn.never rfl (pi_range1 rfl T.range (pa_cons (pe_callB call_len_seq (by rfl) T.len (by decide +kernel) (pa_cons (pv 1) pa_nil)) pa_nil)) (pg_name (i := 2) scIntsAre.nd rfl (Or.inl rfl))
        (pss_one (ps_if (PW.pt (pw_or (pt_not (pt_val (C8.pe_c GIsInt hr (by decide) (by rfl) (pa_cons (pe_ix ix_list (pv 0) (pv 2) (fun _ _ => rfl)) pa_nil)))) (pw_or1 (pt_cmpR op_ne (pe_ix ix_list (pv 0) (pv 2) (fun _ _ => rfl)) (pe_ix ix_list (pv 1) (pv 2) (fun _ _ => rfl)) (nomark _)))))
          (pss_one (ps_ret pe_bl))
          pss_nil)))
      (pss_one (ps_ret pe_bl)))), ?_⟩
    -- if not isinstance(told, list) or len(told) != len(due):
    refine ⟨_, rfl, _, _, _, _, true, rfl, (by fail "cv"), (by fail "tx"), kit_ty (by decide +kernel), _, rfl, ?_⟩
    fail "ite"
    refine ⟨_, rfl, _, _, rfl, .inl (SqL.of (by fail "hp")), _, rfl, _, _, rfl, .inl (SqL.of (by fail "hp")), rfl, _, rfl, ?_⟩
    refine ifNeI (fun g1 => ?_) (fun g1 => ?_)
    · -- return False
      exact absurd rfl g1
    · -- for k in range(len(due)):
      refine ⟨_, rfl, _, _, rfl, .inl (SqL.of (by fail "hp")), _, rfl, (by fail "om"), (by fail "om"), for_range (lo := 0) (fun i σ H' => H' = H ∧ ∃ v, σ = [some (.ref a), some (.ref c), v]) ⟨rfl, none, rfl⟩ ?_ ?_⟩
      · rintro i σ H' hi ⟨rfl, v, rfl⟩
        have hi' : i < ns.length := by
          simp at hi
          omega
        have e1 := List.getElem?_eq_getElem hi'
        -- if not _law_is_int(told[k]) or told[k] != due[k]:
        refine ⟨_, rfl, _, rfl, _, _, _, _, rfl, rfl, SqL.of (by fail "hp"), (by fail "ix"), _, rfl, ⟨_, rfl, ?_⟩⟩
        fail "ite"
        refine ⟨_, rfl, _, rfl, _, _, _, _, rfl, rfl, SqL.of (by fail "hp"), (by fail "ix"), _, rfl, _, rfl, _, _, _, _, rfl, rfl, SqL.of (by fail "hp"), (by fail "ix"), rfl, _, rfl, ?_⟩
        refine ifNeI (fun g3 => ?_) (fun g3 => ?_)
        · -- return False
          contradiction
        · exact ⟨rfl, _, rfl⟩
      · rintro σ H' ⟨rfl, v, rfl⟩
        -- return True
        exact k
abbrev sBox : Stmt := top 12
theorem scBox : FnScope ["script", "cells"] ["script"] (defScope sBox) := ⟨rfl, rfl, rfl, by decide +kernel, rfl, by decide +kernel, by decide +kernel⟩
def spBox (K : PySem.W.Frag) : Sp := fun vs H Q _ => ∃ (a : Addr) (ns : List Int), vs = [.ref a] ∧ SqL K H a (ns.map V.int) ∧ ns.length ≤ 63 ∧
  ∀ (b bc : Addr) (H' : Hp), H b = none → Same H H' → BoxOk H' b bc → Q (.ref b) H'
theorem ok_Box (D : Df K mg "_law_box" sBox ["script"]) (T : Txt K mg) : C8.Cal P w K mg base 1 "_law_box" (spBox K) [] := by
  obtain ⟨f, fd, F, hm, hb⟩ := D
  refine ⟨f, fd, ["script"], [], F.ok scBox (fun vs H Q E h => ?_) (fun cdv A outer s H vs Q E hr h => ?_), hm, F.kp, hb, .nil⟩
  · obtain ⟨a, ns, rfl, ha, hl, k⟩ := h
    rfl
  · obtain ⟨a, ns, rfl, ha, hl, k⟩ := h
    refine ⟨_, (pss_cons (ps_set (i := 1) scBox.nd rfl (Or.inl rfl) (pe_callTy call_list_of (by rfl) T.list (by decide +kernel) (pa_cons (pe_slice sl_list (pv 0) po_none (po_some pe_int)) pa_nil)))
      (pss_cons (ps_if (pt_cmpR (op_eqD hr.units) (pv 1) (pe_lst pa_nil) (nomark _))
        (pss_one (ps_set (i := 1) scBox.nd rfl (Or.inl rfl) (pe_lst (pa_cons pe_int pa_nil))))
        pss_nil)
      (pss_one (ps_ret (pe_lst (pa_cons (pv 1) (pa_cons pe_int (pa_cons pe_int (pa_cons pe_int (pa_cons (pe_op op_modN (pe_callTy call_int1 (by rfl) T.int (by decide +kernel) (pa_cons (pe_callB (cr_sum rfl) (by rfl) T.sum (by decide +kernel) (pa_cons (pv 1) pa_nil)) pa_nil)) pe_int) pa_nil)))))))))), ?_⟩
    refine ⟨_, rfl, _, rfl, a, _, rfl, ha, fun p2 np2 => ⟨_, _, rfl, .inl (SqL.of upd_same), fun p1 np1 => ?_⟩⟩
    rw [cut_all (by omega)] at np1 ⊢
    have fin : ∀ (b c : Addr) (H1 : Hp) (ms : List Int) (v : Int), H1 c = some (.lst (ms.map V.int)) → Same H H1 → H1 b = none → Q (.ref b) (upd H1 b (.lst (boxL c 0 0 0 v))) := fun b c H1 ms v hc sm nb =>
      k b c _ (sm.free nb) (Same.new sm nb) ⟨ms, 0, 0, 0, v, upd_same, upd_new hc nb, Int.le_refl 0⟩
    have sm : Same H (upd (upd H p2 (.lst (ns.map V.int))) p1 (.lst (ns.map V.int))) := Same.new (Same.new (Same.refl H) np2) np1
    refine ⟨_, rfl, (by fail "sz"), fun p3 np3 => ⟨.list (ns.map PyData.int), .list [], .lst (SqL.of (upd_new upd_same np3)) (dpInts ns), .lst (SqL.of upd_same) .nil, PySem.W.ke_shaped_ints ns, rfl, _, rfl, ?_⟩⟩
    cases ns with
    | nil =>
      refine iteT ?_
      refine ⟨(by fail "sz"), fun p5 np5 => ?_⟩
      refine ⟨_, rfl, _, rfl, _, [0], rfl, SqL.of upd_same, .inl ⟨_, rfl, _, _, rfl, rfl, (by fail "nz"), (by fail "sz"), fun p6 np6 => ?_⟩⟩
      exact fin p6 p5 _ [0] _ upd_same (Same.new (Same.new sm np3) np5) np6
    | cons n r =>
      refine iteF ?_
      refine ⟨_, rfl, _, rfl, _, n :: r, rfl, SqL.of (upd_new upd_same np3), .inl ⟨_, rfl, _, _, rfl, rfl, (by fail "nz"), (by fail "sz"), fun p7 np7 => ?_⟩⟩
      exact fin p7 p1 _ (n :: r) _ (upd_new upd_same np3) (Same.new sm np3) np7
abbrev sStep : Stmt := top 13
theorem scStep : FnScope ["box", "cell"] ["box"] (defScope sStep) := ⟨rfl, rfl, rfl, by decide +kernel, rfl, by decide +kernel, by decide +kernel⟩
def spStep : Sp := fun vs H Q _ => ∃ (b bc : Addr), vs = [.ref b] ∧ BoxOk H b bc ∧ ∀ (H' : Hp), Kp b H H' → BoxOk H' b bc → Q .non H'
theorem ok_Step (D : Df K mg "_law_step" sStep ["box"]) (T : Txt K mg) : C8.Cal P w K mg base 1 "_law_step" spStep [] := by
  obtain ⟨f, fd, F, hm, hb⟩ := D
  refine ⟨f, fd, ["box"], [], F.ok scStep (fun vs H Q E h => ?_) (fun cdv A outer s H vs Q E hr h => ?_), hm, F.kp, hb, .nil⟩
  · obtain ⟨b, c, rfl, ⟨ns, x1, x2, x3, x4, hb, hc, h1⟩, k⟩ := h
    rfl
  · obtain ⟨b, c, rfl, ⟨ns, x1, x2, x3, x4, hb, hc, h1⟩, k⟩ := h
    refine ⟨_, (pss_one (ps_if (pt_cmpR op_lt (pe_ix ix_list (pv 0) pe_int (fun _ _ => rfl)) (pe_callB call_len_seq (by rfl) T.len (by decide +kernel) (pa_cons (pe_ix ix_list (pv 0) pe_int (fun _ _ => rfl)) pa_nil)) (nomark _))
        (pss_cons (ps_set (i := 1) scStep.nd rfl (Or.inl rfl) (pe_ix ix_list (pe_ix ix_list (pv 0) pe_int (fun _ _ => rfl)) (pe_ix ix_list (pv 0) pe_int (fun _ _ => rfl)) (fun _ _ => rfl)))
        (pss_cons (ps_asg (pe_op op_add (pe_ix ix_list (pv 0) pe_int (fun _ _ => rfl)) pe_int) (pg_sub (pv 0) pe_int set_list))
        (pss_cons (ps_asg pe_int (pg_sub (pv 0) pe_int set_list))
        (pss_one (ps_if (pt_cmpR op_ge (pv 1) (pe_op op_pow pe_int pe_int) (nomark _))
          (pss_one (ps_asg (pv 1) (pg_sub (pv 0) pe_int set_list)))
          (pss_one (ps_asg (pe_op op_modN (pe_callTy call_int1 (by rfl) T.int (by decide +kernel) (pa_cons (pe_op op_add (pe_op op_mul (pe_ix ix_list (pv 0) pe_int (fun _ _ => rfl)) pe_int) (pv 1)) pa_nil)) pe_int) (pg_sub (pv 0) pe_int set_list))))))))
        pss_nil)), ?_⟩
    -- if box[1] < len(box[0]):
    refine ⟨_, rfl, _, _, _, _, rfl, rfl, SqL.of (by fail "hp"), (by fail "ix"), _, rfl, _, _, _, _, rfl, rfl, SqL.of (by fail "hp"), (by fail "ix"), _, _, rfl, .inl (SqL.of (by fail "hp")), _, _, rfl, rfl, _, rfl, ?_⟩
    refine ifD (fun g1 => ?_) (fun g1 => ?_)
    · have hi : x1.toNat < ns.length := by
        have g : x1 < (((ns.map V.int).length : Nat) : Int) := g1
        rw [List.length_map] at g
        omega
      have e1 := List.getElem?_eq_getElem hi
      have ncb : c ≠ b := box_c hb hc
      -- cell = box[0][box[1]]
      refine ⟨_, rfl, _, _, _, _, rfl, rfl, SqL.of (by fail "hp"), (by fail "ix"), _, rfl, _, _, _, _, rfl, rfl, SqL.of (by fail "hp"), (by fail "ix"), _, _, _, _, rfl, rfl, SqL.of (by fail "hp"), (by fail "ix"), ?_⟩
      -- box[1] = box[1] + 1
      refine ⟨_, rfl, _, _, _, _, rfl, rfl, SqL.of (by fail "hp"), (by fail "ix"), _, _, rfl, rfl, _, rfl, _, _, _, _, rfl, rfl, (by fail "hp"), (by fail "ixn"), ?_⟩
      -- box[2] = 0
      refine ⟨_, rfl, _, _, _, _, rfl, rfl, (by fail "hp"), (by fail "ixn"), ?_⟩
      -- if cell >= 10 ** 18:
      refine ⟨_, rfl, _, _, rfl, rfl, ⟨by decide, by decide, by decide⟩, _, _, rfl, rfl, _, rfl, ?_⟩
      refine ifD (fun g2 => ?_) (fun g2 => ?_)
      · -- box[2] = cell
        refine ⟨_, rfl, _, rfl, _, _, _, _, rfl, rfl, (by fail "hp"), (by fail "ixn"), ?_⟩
        refine k _ (by fail "kp") ?_
        refine ⟨ns, _, _, _, _, upd_same, ?_, ?_⟩
        · rw [upd_ne ncb, upd_ne ncb, upd_ne ncb]
          exact hc
        · omega
      · -- box[4] = int(box[4] * 31 + cell) % 2147483647
        refine ⟨_, rfl, _, _, _, _, rfl, rfl, SqL.of (by fail "hp"), (by fail "ix"), _, _, rfl, rfl, (by fail "mul"), _, rfl, _, _, rfl, rfl, .inl ⟨_, rfl, _, _, rfl, rfl, (by fail "nz"), _, rfl, _, _, _, _, rfl, rfl, (by fail "hp"), (by fail "ixn"), ?_⟩⟩
        refine k _ (by fail "kp") ?_
        refine ⟨ns, _, _, _, _, upd_same, ?_, ?_⟩
        · rw [upd_ne ncb, upd_ne ncb, upd_ne ncb]
          exact hc
        · omega
    · exact k _ Kp.refl ⟨ns, x1, x2, x3, x4, hb, hc, h1⟩
end
end K00

end
section
set_option Elab.async false
set_option linter.all false
set_option maxRecDepth 100000
set_option maxHeartbeats 4000000
namespace K00
open PySem L2 Kit KR
local macro_rules | `(tactic| fail "om") => `(tactic| first | omega | decide | assumption | (simp only [List.length_map, List.length_append, List.length_cons, List.length_nil]; omega) | fail "no om")
local macro_rules | `(tactic| fail "nz") => `(tactic| first | decide | omega | fail "no nz")
local macro_rules | `(tactic| fail "dv") => `(tactic| exact ⟨by first | decide | omega, by first | decide | omega⟩)
local macro_rules | `(tactic| fail "mul") => `(tactic| first | exact .inr ⟨by decide, by decide⟩ | exact .inl ⟨by decide, by decide⟩ | exact mulF (by decide) (by decide) | exact .inl ⟨by omega, by omega⟩ | exact .inr ⟨by omega, by omega⟩ | fail "no mul")
local macro_rules | `(tactic| fail "sz") => `(tactic| first | assumption | exact Nat.zero_le _ | (show 1 ≤ sizeLine; decide) | (show 2 ≤ sizeLine; decide) | (show 3 ≤ sizeLine; decide) | (show 4 ≤ sizeLine; decide) | (show 5 ≤ sizeLine; decide) | exact Evl.sz_of (by omega) | (refine Evl.sz_of ?_; simp only [List.length_append, List.length_map, List.length_cons, List.length_nil]; omega) | fail "no sz")
local macro_rules | `(tactic| fail "szl") => `(tactic| first | exact Evl.sz_lt (by omega) | (refine Evl.sz_lt ?_; simp only [List.length_append, List.length_map, List.length_cons, List.length_nil]; omega) | fail "no szl")
local macro_rules | `(tactic| fail "ix") => `(tactic| first | assumption | exact ix0 | exact ix1 | exact ix2 | exact at_ref (by assumption) (by omega) | exact at_int (by assumption) (by omega) | exact at_drawn (by assumption) (by assumption) | rfl | fail "no ix")
local macro_rules | `(tactic| fail "ixn") => `(tactic| first | rfl | assumption | fail "no ixn")
local macro_rules | `(tactic| fail "nb") => `(tactic| first | assumption | exact nb_tup | exact nb_nil | exact nb_ints | exact nb_refs | exact nb_ins | exact nb_dT | exact nb_frz | fail "no nb")
local macro_rules | `(tactic| fail "ne") => `(tactic| first | assumption | exact Ne.symm (by assumption) | exact ne_of_none (by assumption) (by assumption) | exact (ne_of_none (by assumption) (by assumption)).symm | exact ne_of (by assumption) (by assumption) (by intro q; cases q) | exact ne_of (by assumption) (by assumption) (by simp) | fail "no ne")
local macro_rules | `(tactic| fail "hp") => `(tactic| first | assumption | exact upd_same | (refine' Tk.get (by assumption) ?k1; (case k1 => fail "tk")) | (with_reducible refine' upd_new ?h1 ?n1; (case n1 => assumption); (case h1 => fail "hp")) | (refine' Same.get (by assumption) ?h1; (case h1 => fail "hp")) | (refine' Kp.get (by assumption) (by fail "bx") ?h1 ?d1; (case h1 => fail "hp"); (case d1 => fail "nb")) | (with_reducible refine' upd_oth ?h1 ?n1; (case n1 => fail "ne"); (case h1 => fail "hp")) | (with_reducible refine' upd_oth ?h1 ?n1; (case h1 => fail "hp"); (case n1 => fail "ne")) | fail "no hp")
local macro_rules | `(tactic| fail "bx") => `(tactic| first | assumption | (with_reducible refine' BoxOk.new ?h1 ?n1; (case n1 => assumption); (case h1 => fail "bx")) | (refine' BoxOk.same (by assumption) ?h1; (case h1 => fail "bx")) | (with_reducible refine' BoxOk.mut ?h1 ?h2 ?n1; (case n1 => assumption); (case h2 => assumption); (case h1 => fail "bx")) | fail "no bx")
local macro_rules | `(tactic| fail "kp") => `(tactic| first | assumption | exact Kp.refl | (with_reducible refine' Kp.at ?h1; (case h1 => fail "kp")) | (with_reducible refine' Kp.new ?h1 ?n1; (case n1 => assumption); (case h1 => fail "kp")) | (with_reducible refine' Kp.mut ?h1 ?n1; (case n1 => assumption); (case h1 => fail "kp")) | (refine' Kp.tr (by assumption) ?h1; (case h1 => fail "kp")) | (refine' Kp.tr (Kp.of (by assumption)) ?h1; (case h1 => fail "kp")) | fail "no kp")
local macro_rules | `(tactic| fail "ite") => `(tactic| first | refine iteT ?_ | refine iteF ?_)
local macro_rules | `(tactic| fail "tt") => `(tactic| first | rfl | exact decide_eq_true (by first | rfl | omega | assumption) | exact decide_eq_true (congrArg V.int (by first | rfl | omega)) | fail "no tt")
local macro_rules | `(tactic| fail "cv") => `(tactic| first | exact .ty _ | exact .own _)
local macro_rules | `(tactic| fail "tx") => `(tactic| first | exact .base (.int _) | exact .base (.bl _) | exact .base .non | exact .base (.lst (by fail "hp")) | exact .base (.tup (by fail "hp")) | fail "no tx")
local macro_rules | `(tactic| fail "dead") => `(tactic| (exfalso; first | omega | contradiction | simp_all))
local macro_rules | `(tactic| fail "dp") => `(tactic| first | exact .tup (SqT.of (by fail "hp")) (.cons (.int _) (.cons (.int _) .nil)) | exact .lst (SqL.of (by fail "hp")) (dpPrs (by fail "pr")) | exact .lst (SqL.of (by fail "hp")) (dpInts _) | exact .lst (SqL.of (by fail "hp")) .nil | fail "no dp")
local macro_rules | `(tactic| fail "shp") => `(tactic| first | assumption | exact prD_shaped _ | exact PySem.W.ke_shaped_ints _ | rfl | fail "no shp")
local macro_rules | `(tactic| fail "pr") => `(tactic| first | assumption | exact PrT.mono (by assumption) (by fail "tk") | fail "no pr")
local macro_rules | `(tactic| fail "tk") => `(tactic| first | assumption | exact Tk.refl | (with_reducible refine' Tk.new ?h1 ?n1; (case n1 => assumption); (case h1 => fail "tk")) | (refine' Tk.tr (Kp.tk (by assumption) (by fail "bx")) ?h1; (case h1 => fail "tk")) | (refine' Tk.tr (Same.tk (by assumption)) ?h1; (case h1 => fail "tk")) | (with_reducible refine' Tk.lst ?h1 ?n1; (case n1 => fail "hp"); (case h1 => fail "tk")) | fail "no tk")

section
variable {P : Program} {w : World} {K : PySem.W.Frag} {mg : Str → Option Value} {base : Heap}

abbrev sFirstBad : Stmt := top 27
theorem scFirstBad : FnScope ["count", "pairs", "pair", "inside"] ["count", "pairs"] (defScope sFirstBad) := ⟨rfl, rfl, rfl, by decide +kernel, rfl, by decide +kernel, by decide +kernel⟩
def spFirstBad : Sp := fun vs H Q _ => ∃ (n : Nat) (l : Addr) (as : List Addr) (ps : List (Int × Int)), vs = [.int (n : Int), .ref l] ∧ H l = some (.lst (as.map V.ref)) ∧ PrT H as ps ∧
  ((∀ p ∈ ps, Good n p) → Q .non H) ∧ (∀ (i : Nat) (a : Addr) (p : Int × Int), as[i]? = some a → ps[i]? = some p → ¬ Good n p → (∀ j q, j < i → ps[j]? = some q → Good n q) → Q (.ref a) H)
theorem ok_FirstBad (D : Df K mg "_law_first_bad" sFirstBad ["count", "pairs"]) (T : Txt K mg) : C8.Cal P w K mg base 1 "_law_first_bad" spFirstBad [] := by
  obtain ⟨f, fd, F, hm, hb⟩ := D
  refine ⟨f, fd, ["count", "pairs"], [], F.ok scFirstBad (fun vs H Q E h => ?_) (fun cdv A outer s H vs Q E hr h => ?_), hm, F.kp, hb, .nil⟩
  · obtain ⟨n, l, as, ps, rfl, hl, pa, kG, kB⟩ := h
    rfl
  · obtain ⟨n, l, as, ps, rfl, hl, pa, kG, kB⟩ := h
    refine ⟨_, (pss_cons (ps_for PassesOwn.never rfl (pi_list (pv 1)) (pg_name (i := 2) scFirstBad.nd rfl (Or.inl rfl))
        (pss_cons (ps_set (i := 3) scFirstBad.nd rfl (Or.inl rfl) (pe_and (pe_chain op_le op_lt pe_int (pe_ix ix_tup (pv 2) pe_int (fun _ _ => rfl)) (pv 0)) (pe_one (pe_chain op_le op_lt pe_int (pe_ix ix_tup (pv 2) pe_int (fun _ _ => rfl)) (pv 0)))))
        (pss_one (ps_if (PW.pt (pw_or (pt_not (pt_val (pv 3))) (pw_or1 (pt_cmpR op_eq (pe_ix ix_tup (pv 2) pe_int (fun _ _ => rfl)) (pe_ix ix_tup (pv 2) pe_int (fun _ _ => rfl)) (nomark _)))))
          (pss_one (ps_ret (pv 2)))
          pss_nil))))
      (pss_one (ps_ret pe_non))), ?_⟩
    -- for pair in pairs:
    refine ⟨_, rfl, _, rfl, ⟨_, SqL.of (by fail "hp")⟩, for_list (K := K) (a := l) (xs := as.map V.ref) (fun i σ H' => H' = H ∧ (∀ j q, j < i → ps[j]? = some q → Good n q) ∧ ∃ v w, σ = [some (.int (n : Int)), some (.ref l), v, w]) ⟨rfl, fun j q h => absurd h (by omega), none, none, rfl⟩ (fun i σ H' _ z => by rw [z.1]; exact SqL.of hl) ?_ ?_⟩
    · rintro i y σ H' hi ⟨rfl, hg, v, w, rfl⟩
      obtain ⟨a0, x0, y0, rfl, e1, e2, e3⟩ := pa.item hi
      -- inside = 0 <= pair[0] < count and 0 <= pair[1] < count
      refine ⟨_, rfl, _, _, _, _, rfl, rfl, SqT.of (by fail "hp"), (by fail "ix"), _, _, rfl, rfl, _, rfl, ?_⟩
      refine ifD (fun g1 => ?_) (fun g1 => ?_)
      · refine ⟨_, rfl, _, _, rfl, rfl, _, rfl, ?_⟩
        refine ifD (fun g2 => ?_) (fun g2 => ?_)
        · refine ⟨_, rfl, _, _, _, _, rfl, rfl, SqT.of (by fail "hp"), (by fail "ix"), _, _, rfl, rfl, _, rfl, ?_⟩
          refine ifD (fun g3 => ?_) (fun g3 => ?_)
          · refine ⟨_, rfl, _, _, rfl, rfl, ?_⟩
            -- if not inside or pair[0] == pair[1]:
            refine ⟨_, rfl, _, rfl, ?_⟩
            refine nifB (fun g4 => ?_) (fun g4 => ?_)
            · fail "ite"
              -- return pair
              refine ⟨_, rfl, ?_⟩
              refine kB i a0 (x0, y0) e1 e2 (fun z => ?_) hg
              obtain ⟨z1, z2, z3, z4, z5⟩ := z
              try simp only [decide_eq_false_iff_not, decide_eq_true_eq] at *
              omega
            · refine ⟨_, rfl, _, _, _, _, rfl, rfl, SqT.of (by fail "hp"), (by fail "ix"), _, rfl, _, _, _, _, rfl, rfl, SqT.of (by fail "hp"), (by fail "ix"), rfl, _, rfl, ?_⟩
              refine ifEqI (fun g5 => ?_) (fun g5 => ?_)
              · -- return pair
                refine ⟨_, rfl, ?_⟩
                refine kB i a0 (x0, y0) e1 e2 (fun z => ?_) hg
                obtain ⟨z1, z2, z3, z4, z5⟩ := z
                try simp only [decide_eq_false_iff_not, decide_eq_true_eq] at *
                omega
              · first
                | (exfalso; contradiction)
                | (refine ⟨rfl, fun j q hj hq => ?_, _, _, rfl⟩
                   by_cases hji : j = i
                   · subst hji
                     rw [e2] at hq
                     cases hq
                     try simp only [decide_eq_false_iff_not, decide_eq_true_eq] at *
                     exact ⟨by omega, by omega, by omega, by omega, by first | assumption | omega⟩
                   · exact hg j q (by omega) hq)
          · -- if not inside or pair[0] == pair[1]:
            refine ⟨_, rfl, _, rfl, ?_⟩
            refine nifB (fun g6 => ?_) (fun g6 => ?_)
            · fail "ite"
              -- return pair
              refine ⟨_, rfl, ?_⟩
              refine kB i a0 (x0, y0) e1 e2 (fun z => ?_) hg
              obtain ⟨z1, z2, z3, z4, z5⟩ := z
              try simp only [decide_eq_false_iff_not, decide_eq_true_eq] at *
              omega
            · refine ⟨_, rfl, _, _, _, _, rfl, rfl, SqT.of (by fail "hp"), (by fail "ix"), _, rfl, _, _, _, _, rfl, rfl, SqT.of (by fail "hp"), (by fail "ix"), rfl, _, rfl, ?_⟩
              refine ifEqI (fun g7 => ?_) (fun g7 => ?_)
              · -- return pair
                refine ⟨_, rfl, ?_⟩
                refine kB i a0 (x0, y0) e1 e2 (fun z => ?_) hg
                obtain ⟨z1, z2, z3, z4, z5⟩ := z
                try simp only [decide_eq_false_iff_not, decide_eq_true_eq] at *
                omega
              · first
                | (exfalso; contradiction)
                | (refine ⟨rfl, fun j q hj hq => ?_, _, _, rfl⟩
                   by_cases hji : j = i
                   · subst hji
                     rw [e2] at hq
                     cases hq
                     try simp only [decide_eq_false_iff_not, decide_eq_true_eq] at *
                     exact ⟨by omega, by omega, by omega, by omega, by first | assumption | omega⟩
                   · exact hg j q (by omega) hq)
        · -- if not inside or pair[0] == pair[1]:
          refine ⟨_, rfl, _, rfl, ?_⟩
          refine nifB (fun g8 => ?_) (fun g8 => ?_)
          · fail "ite"
            -- return pair
            refine ⟨_, rfl, ?_⟩
            refine kB i a0 (x0, y0) e1 e2 (fun z => ?_) hg
            obtain ⟨z1, z2, z3, z4, z5⟩ := z
            try simp only [decide_eq_false_iff_not, decide_eq_true_eq] at *
            omega
          · refine ⟨_, rfl, _, _, _, _, rfl, rfl, SqT.of (by fail "hp"), (by fail "ix"), _, rfl, _, _, _, _, rfl, rfl, SqT.of (by fail "hp"), (by fail "ix"), rfl, _, rfl, ?_⟩
            refine ifEqI (fun g9 => ?_) (fun g9 => ?_)
            · -- return pair
              refine ⟨_, rfl, ?_⟩
              refine kB i a0 (x0, y0) e1 e2 (fun z => ?_) hg
              obtain ⟨z1, z2, z3, z4, z5⟩ := z
              try simp only [decide_eq_false_iff_not, decide_eq_true_eq] at *
              omega
            · first
              | (exfalso; contradiction)
              | (refine ⟨rfl, fun j q hj hq => ?_, _, _, rfl⟩
                 by_cases hji : j = i
                 · subst hji
                   rw [e2] at hq
                   cases hq
                   try simp only [decide_eq_false_iff_not, decide_eq_true_eq] at *
                   exact ⟨by omega, by omega, by omega, by omega, by first | assumption | omega⟩
                 · exact hg j q (by omega) hq)
      · refine ⟨_, rfl, ?_⟩
        fail "ite"
        -- if not inside or pair[0] == pair[1]:
        refine ⟨_, rfl, _, rfl, ?_⟩
        refine nifB (fun g10 => ?_) (fun g10 => ?_)
        · fail "ite"
          -- return pair
          refine ⟨_, rfl, ?_⟩
          refine kB i a0 (x0, y0) e1 e2 (fun z => ?_) hg
          obtain ⟨z1, z2, z3, z4, z5⟩ := z
          try simp only [decide_eq_false_iff_not, decide_eq_true_eq] at *
          omega
        · refine ⟨_, rfl, _, _, _, _, rfl, rfl, SqT.of (by fail "hp"), (by fail "ix"), _, rfl, _, _, _, _, rfl, rfl, SqT.of (by fail "hp"), (by fail "ix"), rfl, _, rfl, ?_⟩
          refine ifEqI (fun g11 => ?_) (fun g11 => ?_)
          · -- return pair
            refine ⟨_, rfl, ?_⟩
            refine kB i a0 (x0, y0) e1 e2 (fun z => ?_) hg
            obtain ⟨z1, z2, z3, z4, z5⟩ := z
            try simp only [decide_eq_false_iff_not, decide_eq_true_eq] at *
            omega
          · first
            | (exfalso; contradiction)
            | (refine ⟨rfl, fun j q hj hq => ?_, _, _, rfl⟩
               by_cases hji : j = i
               · subst hji
                 rw [e2] at hq
                 cases hq
                 try simp only [decide_eq_false_iff_not, decide_eq_true_eq] at *
                 exact ⟨by omega, by omega, by omega, by omega, by first | assumption | omega⟩
               · exact hg j q (by omega) hq)
    · rintro σ H' ⟨rfl, hg, v, w, rfl⟩
      refine kG fun p hp => ?_
      obtain ⟨j, hj⟩ := List.getElem?_of_mem hp
      refine hg j p ?_ hj
      rw [List.length_map, pa.1]
      exact (List.getElem?_eq_some_iff.mp hj).1
      -- return None
      skip
abbrev sTable : Stmt := top 28
theorem scTable : FnScope ["count", "pairs", "both", "table", "pair"] ["count", "pairs", "both"] (defScope sTable) := ⟨rfl, rfl, rfl, by decide +kernel, rfl, by decide +kernel, by decide +kernel⟩
def spTable : Sp := fun vs H Q _ => ∃ (n : Nat) (l : Addr) (as : List Addr) (ps : List (Int × Int)) (both : Bool), vs = [.int (n : Int), .ref l, .bl both] ∧ H l = some (.lst (as.map V.ref)) ∧ PrT H as ps ∧ n ≤ 24 ∧ (∀ p ∈ ps, Good n p) ∧
  ∀ (t : Addr) (T : List Int) (H' : Hp), H t = none → Same H H' → H' t = some (.lst (T.map V.int)) → IsTab n T (relP ps both) → Q (.ref t) H'
theorem toN {n : Nat} {x : Int} (h0 : 0 ≤ x) (h1 : x < n) : ∃ k : Nat, x = (k : Int) ∧ k < n := ⟨x.toNat, by omega, by omega⟩
theorem take_more' {α : Type} {l : List α} {i : Nat} {x : α} (h : l[i]? = some x) : l.take (i + 1) = l.take i ++ [x] := by
  rw [List.take_succ, h]
  rfl
theorem ixN_tab {n x y : Nat} {T : List Int} (hT : T.length = n * n) (hx : x < n) (hy : y < n) : ixN (T.map V.int).length ((x : Int) * (n : Int) + (y : Int)) = some (x * n + y) := by
  have h := ix_lt hx hy
  have e : (x : Int) * (n : Int) + (y : Int) = ((x * n + y : Nat) : Int) := by push_cast; rfl
  rw [e, List.length_map, hT]
  unfold ixN
  rw [if_pos (by omega), if_pos (by omega)]
  rfl
theorem nn_b {n : Nat} (hn : n ≤ 24) : (-(2 ^ 63) : Int) ≤ (n : Int) * (n : Int) ∧ (n : Int) * (n : Int) < 2 ^ 63 ∧ [V.int 0].length * ((n : Int) * (n : Int)).toNat ≤ sizeLine ∧ ((n : Int) * (n : Int)).toNat = n * n := by
  have h : n * n ≤ 24 * 24 := Nat.mul_le_mul hn hn
  have e : (n : Int) * (n : Int) = ((n * n : Nat) : Int) := by push_cast; rfl
  rw [e]
  refine ⟨by omega, by omega, ?_, by rw [Int.toNat_natCast]⟩
  rw [Int.toNat_natCast]
  refine Evl.sz_of ?_
  show 1 * (n * n) ≤ 100000
  omega
theorem set_ints {T : List Int} {i : Nat} {v : Int} : (T.map V.int).set i (V.int v) = (T.set i v).map V.int := by rw [List.map_set]
theorem ok_Table (D : Df K mg "_law_table" sTable ["count", "pairs", "both"]) (T : Txt K mg) : C8.Cal P w K mg base 1 "_law_table" spTable [] := by
  obtain ⟨f, fd, F, hm, hb⟩ := D
  refine ⟨f, fd, ["count", "pairs", "both"], [], F.ok scTable (fun vs H Q E h => ?_) (fun cdv A outer s H vs Q E hr h => ?_), hm, F.kp, hb, .nil⟩
  · obtain ⟨n, l, as, ps, both, rfl, hl, pa, hn, hg, k⟩ := h
    rfl
  · obtain ⟨n, l, as, ps, both, rfl, hl, pa, hn, hg, k⟩ := h
    obtain ⟨nn1, nn2, nn3, nn4⟩ := nn_b hn
    refine ⟨_, (pss_cons (ps_set (i := 3) scTable.nd rfl (Or.inl rfl) (pe_op op_rep (pe_lst (pa_cons pe_int pa_nil)) (pe_op op_mul (pv 0) (pv 0))))
      (pss_cons (ps_for PassesOwn.never rfl (pi_list (pv 1)) (pg_name (i := 4) scTable.nd rfl (Or.inl rfl))
        (pss_cons (ps_asg pe_int (pg_sub (pv 3) (pe_op op_add (pe_op op_mul (pe_ix ix_tup (pv 4) pe_int (fun _ _ => rfl)) (pv 0)) (pe_ix ix_tup (pv 4) pe_int (fun _ _ => rfl))) set_list))
        (pss_one (ps_if (pt_val (pv 2))
          (pss_one (ps_asg pe_int (pg_sub (pv 3) (pe_op op_add (pe_op op_mul (pe_ix ix_tup (pv 4) pe_int (fun _ _ => rfl)) (pv 0)) (pe_ix ix_tup (pv 4) pe_int (fun _ _ => rfl))) set_list)))
          pss_nil))))
      (pss_one (ps_ret (pv 3))))), ?_⟩
    -- table = [0] * (count * count)
    refine ⟨(by fail "sz"), fun p2 np2 => ⟨_, rfl, _, rfl, _, _, rfl, rfl, (by fail "mul"), _, _, _, rfl, rfl, (by fail "hp"), (by fail "om"), (by fail "om"), (by fail "sz"), fun p1 np1 => ?_⟩⟩
    have nr1 : H p1 = none := by
      rw [upd_ne (fun e => by rw [e, upd_same] at np1; cases np1)] at np1
      exact np1
    -- for pair in pairs:
    refine ⟨_, rfl, _, rfl, ⟨_, SqL.of (by fail "hp")⟩, for_list (K := K) (a := l) (xs := as.map V.ref) (fun i σ H' => ∃ (T : List Int) (v : Option V), σ = [some (.int (n : Int)), some (.ref l), some (.bl both), some (.ref p1), v] ∧ Same H H' ∧ H' p1 = some (.lst (T.map V.int)) ∧ IsTab n T (relP (ps.take i) both)) ⟨List.replicate (n * n) 0, none, rfl, Same.new (Same.new (Same.refl H) np2) np1, by rw [upd_same, rep_ints, nn4], IsTab.zero n⟩ (fun i σ H' _ z => by obtain ⟨T, v, _, sm, _⟩ := z; exact sm.seq (SqL.of hl)) ?_ ?_⟩
    · rintro i y σ H' hi ⟨T, v, rfl, sm, ht, tb⟩
      obtain ⟨a0, x0, y0, rfl, e1, e2, e3⟩ := pa.item hi
      obtain ⟨g1, g2, g3, g4, g5⟩ := hg _ (List.mem_of_getElem? e2)
      obtain ⟨x, rfl, hx⟩ := toN g1 g2
      obtain ⟨y, rfl, hy⟩ := toN g3 g4
      have hp := sm _ _ e3
      have i1 := ixN_tab tb.len hx hy
      have i2 : ixN ((List.map V.int T).set (x * n + y) (V.int 1)).length ((y : Int) * (n : Int) + (x : Int)) = some (y * n + x) := by
        rw [set_ints]
        exact ixN_tab (by rw [List.length_set]; exact tb.len) hy hx
      have m0 : p1 ≠ a0 := ne_of ht hp (by intro q; cases q)
      -- table[pair[0] * count + pair[1]] = 1
      refine ⟨_, rfl, _, rfl, _, _, _, _, rfl, rfl, SqT.of (by fail "hp"), (by fail "ix"), _, rfl, _, _, rfl, rfl, (by fail "mul"), _, rfl, _, _, _, _, rfl, rfl, SqT.of (by fail "hp"), (by fail "ix"), _, _, rfl, rfl, _, _, _, _, rfl, rfl, (by fail "hp"), (by fail "ixn"), ?_⟩
      -- if both:
      refine ⟨_, rfl, _, rfl, ?_⟩
      refine ifB (fun g3 => ?_) (fun g3 => ?_)
      · -- table[pair[1] * count + pair[0]] = 1
        refine ⟨_, rfl, _, rfl, _, _, _, _, rfl, rfl, SqT.of (by fail "hp"), (by fail "ix"), _, rfl, _, _, rfl, rfl, (by fail "mul"), _, rfl, _, _, _, _, rfl, rfl, SqT.of (by fail "hp"), (by fail "ix"), _, _, rfl, rfl, _, _, _, _, rfl, rfl, (by fail "hp"), (by fail "ixn"), ?_⟩
        cases g3
        rw [set_ints, set_ints, upd_upd]
        refine ⟨_, _, rfl, Same.mut sm nr1, upd_same, ?_⟩
        rw [take_more' e2]
        refine ((tb.on hx hy).on hy hx).congr fun a b ha hb => ?_
        rw [relP_snoc]
        cases relP (ps.take i) true a b <;> by_cases q1 : a = x ∧ b = y <;> by_cases q2 : a = y ∧ b = x <;> simp [q1, q2] <;> omega
      · cases g3
        rw [set_ints]
        refine ⟨_, _, rfl, Same.mut sm nr1, upd_same, ?_⟩
        rw [take_more' e2]
        refine (tb.on hx hy).congr fun a b ha hb => ?_
        rw [relP_snoc]
        simp
    · rintro σ H' ⟨T, v, rfl, sm, ht, tb⟩
      rw [List.length_map, pa.1, List.take_length] at tb
      -- return table
      refine ⟨_, rfl, ?_⟩
      exact k p1 T H' nr1 sm ht tb
abbrev sTies : Stmt := top 29
theorem scTies : FnScope ["count", "table", "ties", "x", "y"] ["count", "table"] (defScope sTies) := ⟨rfl, rfl, rfl, by decide +kernel, rfl, by decide +kernel, by decide +kernel⟩
def spTies : Sp := fun vs H Q _ => ∃ (n : Nat) (t : Addr) (T : List Int) (R : Rel), vs = [.int (n : Int), .ref t] ∧ H t = some (.lst (T.map V.int)) ∧ IsTab n T R ∧ n ≤ 24 ∧
  ∀ (l : Addr) (as : List Addr) (H' : Hp), H l = none → Same H H' → H' l = some (.lst (as.map V.ref)) → PrT H' as (ties n R) → Q (.ref l) H'
theorem ok_Ties (D : Df K mg "_law_ties" sTies ["count", "table"]) (T : Txt K mg) : C8.Cal P w K mg base 1 "_law_ties" spTies [] := by
  obtain ⟨f, fd, F, hm, hb⟩ := D
  refine ⟨f, fd, ["count", "table"], [], F.ok scTies (fun vs H Q E h => ?_) (fun cdv A outer s H vs Q E hr h => ?_), hm, F.kp, hb, .nil⟩
  · obtain ⟨n, t, M, R, rfl, ht, tb, hn, k⟩ := h
    rfl
  · obtain ⟨n, t, M, R, rfl, ht, tb, hn, k⟩ := h
    refine ⟨_, (pss_cons (ps_set (i := 2) scTies.nd rfl (Or.inl rfl) (pe_lst pa_nil))
      (pss_cons (ps_for PassesOwn.never rfl (pi_range1 rfl T.range (pa_cons (pv 0) pa_nil)) (pg_name (i := 3) scTies.nd rfl (Or.inl rfl))
        (pss_one (ps_for PassesOwn.never rfl (pi_range1 rfl T.range (pa_cons (pv 0) pa_nil)) (pg_name (i := 4) scTies.nd rfl (Or.inl rfl))
          (pss_one (ps_if (pt_cmpR op_eq (pe_ix ix_list (pv 1) (pe_op op_add (pe_op op_mul (pv 3) (pv 0)) (pv 4)) (fun _ _ => rfl)) pe_int (nomark _))
            (pss_one (ps_expr (pe_bm PySem.F.plainAttrs_list PySem.F.slot_list_append PySem.F.type_list_append mt_append (pv 2) (pa_cons (pe_tup (pa_cons (pv 3) (pa_cons (pv 4) pa_nil))) pa_nil))))
            pss_nil)))))
      (pss_one (ps_ret (pv 2))))), ?_⟩
    -- ties = []
    refine ⟨(by fail "sz"), fun p1 np1 => ?_⟩
    -- for x in range(count):
    refine ⟨_, rfl, _, rfl, (by fail "om"), (by fail "om"), for_range (lo := 0) (n := ((n : Int)).toNat) (fun i σ H' => ∃ (as : List Addr) (v w : Option V), σ = [some (.int (n : Int)), some (.ref t), some (.ref p1), v, w] ∧ Same H H' ∧ H' p1 = some (.lst (as.map V.ref)) ∧ PrT H' as (tiesTo n R i)) ⟨[], none, none, rfl, Same.new (Same.refl H) np1, upd_same, PrT.nil⟩ ?_ ?_⟩
    · rintro i σ H' hi ⟨as, v, w, rfl, sm, hl, pa⟩
      have hx : i < n := by omega
      -- for y in range(count):
      refine ⟨_, rfl, _, rfl, (by fail "om"), (by fail "om"), for_range (lo := 0) (n := ((n : Int)).toNat) (fun j σ H' => ∃ (as : List Addr) (v : Option V), σ = [some (.int (n : Int)), some (.ref t), some (.ref p1), some (.int (0 + (i : Int))), v] ∧ Same H H' ∧ H' p1 = some (.lst (as.map V.ref)) ∧ PrT H' as (tiesTo n R i ++ rowT R i j)) ⟨as, w, rfl, sm, hl, by show PrT _ as (tiesTo n R i ++ []); rw [List.append_nil]; exact pa⟩ ?_ ?_⟩
      · rintro j σ H2 hj ⟨as, v, rfl, sm, hl, pa⟩
        have hy : j < n := by omega
        have ht2 := sm _ _ ht
        have lb : as.length ≤ 2000 := by
          have q1 := tiesTo_len n R i
          have q2 := rowT_len R i j
          have q3 : i * n ≤ 24 * 24 := Nat.mul_le_mul (by omega) hn
          rw [pa.1, List.length_append]
          omega
        have it : atI (M.map V.int) ((0 + (i : Int)) * (n : Int) + (0 + (j : Int))) = some (V.int (if R i j = true then 1 else 0)) := at_int (tb.get i j hx hy) (by rw [Int.zero_add, Int.zero_add]; push_cast; rfl)
        -- if table[x * count + y] == 1:
        refine ⟨_, rfl, _, rfl, _, rfl, _, _, rfl, rfl, (by fail "mul"), _, rfl, _, _, rfl, rfl, _, _, _, _, rfl, rfl, SqL.of (by fail "hp"), (by fail "ix"), rfl, _, rfl, ?_⟩
        refine ifEqI (fun g2 => ?_) (fun g2 => ?_)
        · -- ties.append((x, y))
          refine ⟨_, rfl, .inl ⟨rfl, _, SqL.of (by fail "hp")⟩, _, rfl, _, rfl, (by fail "sz"), fun p3 np3 => ⟨_, _, _, rfl, rfl, (by fail "hp"), (by fail "szl"), ?_⟩⟩
          have rj : R i j = true := by
            cases q : R i j with
            | true => rfl
            | false => rw [q] at g2; exact absurd g2 (by decide)
          have z : (as.map V.ref) ++ [V.ref p3] = (as ++ [p3]).map V.ref := by rw [List.map_append]; rfl
          rw [z]
          have q : H2 p1 = some (HO.lst (as.map V.ref)) := hl
          refine ⟨as ++ [p3], _, rfl, Same.mut (Same.new sm np3) np1, upd_same, ?_⟩
          rw [rowT_yes rj, ← List.append_assoc]
          refine PrT.snoc ((pa.mono (Tk.new Tk.refl np3)).mono (Tk.lst Tk.refl (upd_new hl np3))) ?_
          rw [upd_ne (ne_of_none hl np3).symm, upd_same, Int.zero_add, Int.zero_add]
        · have rj : R i j = false := by
            cases q : R i j with
            | true => rw [q] at g2; exact absurd rfl g2
            | false => rfl
          refine ⟨as, _, rfl, sm, hl, ?_⟩
          rw [rowT_no rj]
          exact pa
      · rintro σ H2 ⟨as2, v2, rfl, sm2, hl2, pa2⟩
        rw [Int.toNat_natCast] at pa2
        refine ⟨as2, _, _, rfl, sm2, hl2, ?_⟩
        rw [tiesTo_succ]
        exact pa2
    · rintro σ H' ⟨as, v, w, rfl, sm, hl, pa⟩
      rw [Int.toNat_natCast] at pa
      -- return ties
      refine ⟨_, rfl, ?_⟩
      exact k p1 as H' np1 sm hl pa
abbrev sBadPair : Stmt := top 25
theorem scBadPair : FnScope ["box", "count", "kind", "near", "far"] ["box", "count"] (defScope sBadPair) := ⟨rfl, rfl, rfl, by decide +kernel, rfl, by decide +kernel, by decide +kernel⟩
def spBadPair : Sp := fun vs H Q _ => ∃ (b bc : Addr) (n : Nat), vs = [.ref b, .int (n : Int)] ∧ BoxOk H b bc ∧ 1 ≤ n ∧ n ≤ 24 ∧
  ∀ (x y : Int) (t : Addr) (H' : Hp), ¬ Good n (x, y) → Kp b H H' → BoxOk H' b bc → H t = none → t ≠ b → H' t = some (.tup [.int x, .int y]) → Q (.ref t) H'
theorem fresh_box {b bc p : Addr} {H H1 : Hp} (kp : Kp b H H1) (bx : BoxOk H1 b bc) (np : H1 p = none) : H p = none ∧ p ≠ b := by
  refine ⟨Kp.free kp bx np, fun z => ?_⟩
  obtain ⟨u, hu⟩ := bx.there
  rw [z, hu] at np
  cases np
theorem ok_BadPair (D : Df K mg "_law_bad_pair" sBadPair ["box", "count"]) (T : Txt K mg) (GDraw : C8.Cal P w K mg base 1 "_law_draw" spDraw []) (GStranger : C8.Cal P w K mg base 3 "_law_stranger" spStranger []) : C8.Cal P w K mg base 4 "_law_bad_pair" spBadPair [] := by
  obtain ⟨f, fd, F, hm, hb⟩ := D
  refine ⟨f, fd, ["box", "count"], [], F.ok scBadPair (fun vs H Q E h => ?_) (fun cdv A outer s H vs Q E hr h => ?_), hm, F.kp, hb, .nil⟩
  · obtain ⟨b, bc, n, rfl, bx, hn1, hn2, k⟩ := h
    rfl
  · obtain ⟨b, bc, n, rfl, bx, hn1, hn2, k⟩ := h
    refine ⟨_, (pss_cons (ps_set (i := 2) scBadPair.nd rfl (Or.inl rfl) (C8.pe_c GDraw hr (by decide) (by rfl) (pa_cons (pv 0) (pa_cons pe_int pa_nil))))
      (pss_cons (ps_set (i := 3) scBadPair.nd rfl (Or.inl rfl) (C8.pe_c GDraw hr (by decide) (by rfl) (pa_cons (pv 0) (pa_cons (pv 1) pa_nil))))
      (pss_cons (ps_if (pt_cmpR op_eq (pv 2) pe_int (nomark _))
        (pss_one (ps_ret (pe_tup (pa_cons (pv 3) (pa_cons (pv 3) pa_nil)))))
        pss_nil)
      (pss_cons (ps_set (i := 4) scBadPair.nd rfl (Or.inl rfl) (C8.pe_c GStranger hr (by decide) (by rfl) (pa_cons (pv 0) (pa_cons (pv 1) pa_nil))))
      (pss_cons (ps_if (pt_cmpR op_eq (pv 2) pe_int (nomark _))
        (pss_one (ps_ret (pe_tup (pa_cons (pv 3) (pa_cons (pv 4) pa_nil)))))
        pss_nil)
      (pss_cons (ps_if (pt_cmpR op_eq (pv 2) pe_int (nomark _))
        (pss_one (ps_ret (pe_tup (pa_cons (pv 4) (pa_cons (pv 3) pa_nil)))))
        pss_nil)
      (pss_one (ps_ret (pe_tup (pa_cons (pv 4) (pa_cons (C8.pe_c GStranger hr (by decide) (by rfl) (pa_cons (pv 0) (pa_cons (pv 1) pa_nil))) pa_nil))))))))))), ?_⟩
    -- kind = _law_draw(box, 4)
    refine ⟨_, rfl, _, _, _, rfl, (by fail "bx"), (by fail "om"), (by fail "om"), fun d1 H1 da1 db1 kp1 bx1 => ?_⟩
    -- near = _law_draw(box, count)
    refine ⟨_, rfl, _, rfl, _, _, _, rfl, (by fail "bx"), (by fail "om"), (by fail "om"), fun d2 H2 da2 db2 kp2 bx2 => ?_⟩
    -- if kind == 0:
    refine ⟨_, rfl, rfl, _, rfl, ?_⟩
    refine ifEqI (fun g3 => ?_) (fun g3 => ?_)
    · -- return (near, near)
      refine ⟨_, rfl, _, rfl, (by fail "sz"), fun p4 np4 => ?_⟩
      obtain ⟨f1, f2⟩ := fresh_box (Kp.trans kp1 kp2) bx2 np4
      exact k _ _ _ _ (fun z => z.2.2.2.2 rfl) (by fail "kp") (by fail "bx") f1 f2 upd_same
    · -- far = _law_stranger(box, count)
      refine ⟨_, rfl, _, rfl, _, _, _, rfl, (by fail "bx"), (by fail "om"), fun d5 H5 da5 kp5 bx5 => ?_⟩
      -- if kind == 1:
      refine ⟨_, rfl, rfl, _, rfl, ?_⟩
      refine ifEqI (fun g6 => ?_) (fun g6 => ?_)
      · -- return (near, far)
        refine ⟨_, rfl, _, rfl, (by fail "sz"), fun p7 np7 => ?_⟩
        obtain ⟨f1, f2⟩ := fresh_box (Kp.trans (Kp.trans kp1 kp2) kp5) bx5 np7
        exact k _ _ _ _ (fun z => by have := z.2.2.1; have := z.2.2.2.1; dsimp only at *; omega) (by fail "kp") (by fail "bx") f1 f2 upd_same
      · -- if kind == 2:
        refine ⟨_, rfl, rfl, _, rfl, ?_⟩
        refine ifEqI (fun g8 => ?_) (fun g8 => ?_)
        · -- return (far, near)
          refine ⟨_, rfl, _, rfl, (by fail "sz"), fun p9 np9 => ?_⟩
          obtain ⟨f1, f2⟩ := fresh_box (Kp.trans (Kp.trans kp1 kp2) kp5) bx5 np9
          exact k _ _ _ _ (fun z => by have := z.1; have := z.2.1; dsimp only at *; omega) (by fail "kp") (by fail "bx") f1 f2 upd_same
        · -- return (far, _law_stranger(box, count))
          refine ⟨_, rfl, _, rfl, _, rfl, _, _, _, rfl, (by fail "bx"), (by fail "om"), fun d11 H11 da11 kp11 bx11 => ⟨(by fail "sz"), fun p10 np10 => ?_⟩⟩
          obtain ⟨f1, f2⟩ := fresh_box (Kp.trans (Kp.trans (Kp.trans kp1 kp2) kp5) kp11) bx11 np10
          exact k _ _ _ _ (fun z => by have := z.1; have := z.2.1; dsimp only at *; omega) (by fail "kp") (by fail "bx") f1 f2 upd_same
end
end K00

end
section
set_option Elab.async false
set_option linter.all false
set_option maxRecDepth 100000
set_option maxHeartbeats 4000000
namespace K00
open PySem L2 Kit KR
local macro_rules | `(tactic| fail "om") => `(tactic| first | omega | decide | assumption | (simp only [List.length_map, List.length_append, List.length_cons, List.length_nil]; omega) | fail "no om")
local macro_rules | `(tactic| fail "nz") => `(tactic| first | decide | omega | fail "no nz")
local macro_rules | `(tactic| fail "dv") => `(tactic| exact ⟨by first | decide | omega, by first | decide | omega⟩)
local macro_rules | `(tactic| fail "mul") => `(tactic| first | exact .inr ⟨by decide, by decide⟩ | exact .inl ⟨by decide, by decide⟩ | exact mulF (by decide) (by decide) | exact .inl ⟨by omega, by omega⟩ | exact .inr ⟨by omega, by omega⟩ | fail "no mul")
local macro_rules | `(tactic| fail "sz") => `(tactic| first | assumption | exact Nat.zero_le _ | (show 1 ≤ sizeLine; decide) | (show 2 ≤ sizeLine; decide) | (show 3 ≤ sizeLine; decide) | (show 4 ≤ sizeLine; decide) | (show 5 ≤ sizeLine; decide) | exact Evl.sz_of (by omega) | (refine Evl.sz_of ?_; simp only [List.length_append, List.length_map, List.length_cons, List.length_nil]; omega) | fail "no sz")
local macro_rules | `(tactic| fail "szl") => `(tactic| first | exact Evl.sz_lt (by omega) | (refine Evl.sz_lt ?_; simp only [List.length_append, List.length_map, List.length_cons, List.length_nil]; omega) | fail "no szl")
local macro_rules | `(tactic| fail "ix") => `(tactic| first | assumption | exact ix0 | exact ix1 | exact ix2 | exact at_ref (by assumption) (by omega) | exact at_int (by assumption) (by omega) | exact at_drawn (by assumption) (by assumption) | rfl | fail "no ix")
local macro_rules | `(tactic| fail "ixn") => `(tactic| first | rfl | assumption | fail "no ixn")
local macro_rules | `(tactic| fail "nb") => `(tactic| first | assumption | exact nb_tup | exact nb_nil | exact nb_ints | exact nb_refs | exact nb_ins | exact nb_dT | exact nb_frz | fail "no nb")
local macro_rules | `(tactic| fail "ne") => `(tactic| first | assumption | exact Ne.symm (by assumption) | exact ne_of_none (by assumption) (by assumption) | exact (ne_of_none (by assumption) (by assumption)).symm | exact ne_of (by assumption) (by assumption) (by intro q; cases q) | exact ne_of (by assumption) (by assumption) (by simp) | fail "no ne")
local macro_rules | `(tactic| fail "hp") => `(tactic| first | assumption | exact upd_same | (refine' Tk.get (by assumption) ?k1; (case k1 => fail "tk")) | (with_reducible refine' upd_new ?h1 ?n1; (case n1 => assumption); (case h1 => fail "hp")) | (refine' Same.get (by assumption) ?h1; (case h1 => fail "hp")) | (refine' Kp.get (by assumption) (by fail "bx") ?h1 ?d1; (case h1 => fail "hp"); (case d1 => fail "nb")) | (with_reducible refine' upd_oth ?h1 ?n1; (case n1 => fail "ne"); (case h1 => fail "hp")) | (with_reducible refine' upd_oth ?h1 ?n1; (case h1 => fail "hp"); (case n1 => fail "ne")) | fail "no hp")
local macro_rules | `(tactic| fail "bx") => `(tactic| first | assumption | (with_reducible refine' BoxOk.new ?h1 ?n1; (case n1 => assumption); (case h1 => fail "bx")) | (refine' BoxOk.same (by assumption) ?h1; (case h1 => fail "bx")) | (with_reducible refine' BoxOk.mut ?h1 ?h2 ?n1; (case n1 => assumption); (case h2 => assumption); (case h1 => fail "bx")) | fail "no bx")
local macro_rules | `(tactic| fail "kp") => `(tactic| first | assumption | exact Kp.refl | (with_reducible refine' Kp.at ?h1; (case h1 => fail "kp")) | (with_reducible refine' Kp.new ?h1 ?n1; (case n1 => assumption); (case h1 => fail "kp")) | (with_reducible refine' Kp.mut ?h1 ?n1; (case n1 => assumption); (case h1 => fail "kp")) | (refine' Kp.tr (by assumption) ?h1; (case h1 => fail "kp")) | (refine' Kp.tr (Kp.of (by assumption)) ?h1; (case h1 => fail "kp")) | fail "no kp")
local macro_rules | `(tactic| fail "ite") => `(tactic| first | refine iteT ?_ | refine iteF ?_)
local macro_rules | `(tactic| fail "tt") => `(tactic| first | rfl | exact decide_eq_true (by first | rfl | omega | assumption) | exact decide_eq_true (congrArg V.int (by first | rfl | omega)) | fail "no tt")
local macro_rules | `(tactic| fail "cv") => `(tactic| first | exact .ty _ | exact .own _)
local macro_rules | `(tactic| fail "tx") => `(tactic| first | exact .base (.int _) | exact .base (.bl _) | exact .base .non | exact .base (.lst (by fail "hp")) | exact .base (.tup (by fail "hp")) | fail "no tx")
local macro_rules | `(tactic| fail "dead") => `(tactic| (exfalso; first | omega | contradiction | simp_all))
local macro_rules | `(tactic| fail "dp") => `(tactic| first | exact .tup (SqT.of (by fail "hp")) (.cons (.int _) (.cons (.int _) .nil)) | exact .lst (SqL.of (by fail "hp")) (dpPrs (by fail "pr")) | exact .lst (SqL.of (by fail "hp")) (dpInts _) | exact .lst (SqL.of (by fail "hp")) .nil | fail "no dp")
local macro_rules | `(tactic| fail "shp") => `(tactic| first | assumption | exact prD_shaped _ | exact PySem.W.ke_shaped_ints _ | rfl | fail "no shp")
local macro_rules | `(tactic| fail "pr") => `(tactic| first | assumption | exact PrT.mono (by assumption) (by fail "tk") | fail "no pr")
local macro_rules | `(tactic| fail "tk") => `(tactic| first | assumption | exact Tk.refl | (with_reducible refine' Tk.new ?h1 ?n1; (case n1 => assumption); (case h1 => fail "tk")) | (refine' Tk.tr (Kp.tk (by assumption) (by fail "bx")) ?h1; (case h1 => fail "tk")) | (refine' Tk.tr (Same.tk (by assumption)) ?h1; (case h1 => fail "tk")) | (with_reducible refine' Tk.lst ?h1 ?n1; (case n1 => fail "hp"); (case h1 => fail "tk")) | fail "no tk")

section
variable {P : Program} {w : World} {K : PySem.W.Frag} {mg : Str → Option Value} {base : Heap}

abbrev sGoodPairs : Stmt := top 24
theorem scGoodPairs : FnScope ["box", "count", "pairs", "size", "k"] ["box", "count"] (defScope sGoodPairs) := ⟨rfl, rfl, rfl, by decide +kernel, rfl, by decide +kernel, by decide +kernel⟩
def spGoodPairs : Sp := fun vs H Q _ => ∃ (b bc : Addr) (n : Nat), vs = [.ref b, .int (n : Int)] ∧ BoxOk H b bc ∧ 1 ≤ n ∧ n ≤ 24 ∧
  ∀ (l : Addr) (as : List Addr) (ps : List (Int × Int)) (H' : Hp), (∀ p ∈ ps, Good n p) → ps.length ≤ 60 → H l = none → l ≠ b → Kp b H H' → BoxOk H' b bc → H' l = some (.lst (as.map V.ref)) → PrT H' as ps → Q (.ref l) H'
theorem ok_GoodPairs (D : Df K mg "_law_good_pairs" sGoodPairs ["box", "count"]) (T : Txt K mg) (GDraw : C8.Cal P w K mg base 1 "_law_draw" spDraw []) (GPair : C8.Cal P w K mg base 2 "_law_pair" spPair []) : C8.Cal P w K mg base 3 "_law_good_pairs" spGoodPairs [] := by
  obtain ⟨f, fd, F, hm, hb⟩ := D
  refine ⟨f, fd, ["box", "count"], [], F.ok scGoodPairs (fun vs H Q E h => ?_) (fun cdv A outer s H vs Q E hr h => ?_), hm, F.kp, hb, .nil⟩
  · obtain ⟨b, bc, n, rfl, bx, hn1, hn2, k⟩ := h
    rfl
  · obtain ⟨b, bc, n, rfl, bx, hn1, hn2, k⟩ := h
    refine ⟨_, (pss_cons (ps_set (i := 2) scGoodPairs.nd rfl (Or.inl rfl) (pe_lst pa_nil))
      (pss_cons (ps_set (i := 3) scGoodPairs.nd rfl (Or.inl rfl) (C8.pe_c GDraw hr (by decide) (by rfl) (pa_cons (pv 0) (pa_cons pe_int pa_nil))))
      (C8.pss_cut (ps_if (pt_cmpR op_eq (C8.pe_c GDraw hr (by decide) (by rfl) (pa_cons (pv 0) (pa_cons pe_int pa_nil))) pe_int (nomark _))
        (pss_one (ps_set (i := 3) scGoodPairs.nd rfl (Or.inl rfl) (pe_op op_add pe_int (C8.pe_c GDraw hr (by decide) (by rfl) (pa_cons (pv 0) (pa_cons pe_int pa_nil))))))
        pss_nil)
      (C8.pss_cut (ps_if (pt_cmpR op_eq (pv 1) pe_int (nomark _))
        (pss_one (ps_set (i := 3) scGoodPairs.nd rfl (Or.inl rfl) pe_int))
        pss_nil)
      (pss_cons (ps_for PassesOwn.never rfl (pi_range1 rfl T.range (pa_cons (pv 3) pa_nil)) (pg_name (i := 4) scGoodPairs.nd rfl (Or.inl rfl))
        (pss_one (ps_if (PW.pt (pw_and (pt_cmpR (op_neD hr.units) (pv 2) (pe_lst pa_nil) (nomark _)) (pw_and1 (pt_cmpR op_eq (C8.pe_c GDraw hr (by decide) (by rfl) (pa_cons (pv 0) (pa_cons pe_int pa_nil))) pe_int (nomark _)))))
          (pss_one (ps_expr (pe_bm PySem.F.plainAttrs_list PySem.F.slot_list_append PySem.F.type_list_append mt_append (pv 2) (pa_cons (pe_ix ix_list (pv 2) (C8.pe_c GDraw hr (by decide) (by rfl) (pa_cons (pv 0) (pa_cons (pe_callB call_len_seq (by rfl) T.len (by decide +kernel) (pa_cons (pv 2) pa_nil)) pa_nil))) (fun _ _ => rfl)) pa_nil))))
          (pss_one (ps_expr (pe_bm PySem.F.plainAttrs_list PySem.F.slot_list_append PySem.F.type_list_append mt_append (pv 2) (pa_cons (C8.pe_c GPair hr (by decide) (by rfl) (pa_cons (pv 0) (pa_cons (pv 1) pa_nil))) pa_nil)))))))
      (pss_one (ps_ret (pv 2)))))))), ?_⟩
    -- pairs = []
    refine ⟨(by fail "sz"), fun p1 np1 => ?_⟩
    have n1b : p1 ≠ b := by
      obtain ⟨u, hu⟩ := bx.there
      exact (ne_of_none hu np1).symm
    -- size = _law_draw(box, 13)
    refine ⟨_, rfl, _, _, _, rfl, (by fail "bx"), (by fail "om"), (by fail "om"), fun d2 H2 da2 db2 kp2 bx2 => ?_⟩
    refine ⟨fun σ H' => ∃ sz, σ = [some (.ref b), some (.int (n : Int)), some (.ref p1), some (.int sz), none] ∧ 0 ≤ sz ∧ sz ≤ 60 ∧ Kp b H H' ∧ BoxOk H' b bc ∧ H' p1 = some (.lst []), ?_, ?_⟩
    · -- if _law_draw(box, 8) == 7:
      refine ⟨_, rfl, _, _, _, rfl, (by fail "bx"), (by fail "om"), (by fail "om"), fun d3 H3 da3 db3 kp3 bx3 => ⟨rfl, _, rfl, ?_⟩⟩
      refine ifEqI (fun g4 => ?_) (fun g4 => ?_)
      · -- size = 40 + _law_draw(box, 21)
        refine ⟨_, rfl, _, _, _, rfl, (by fail "bx"), (by fail "om"), (by fail "om"), fun d5 H5 da5 db5 kp5 bx5 => ⟨_, _, rfl, rfl, ?_⟩⟩
        exact ⟨_, rfl, by omega, by omega, by fail "kp", by fail "bx", by fail "hp"⟩
      · exact ⟨_, rfl, by omega, by omega, by fail "kp", by fail "bx", by fail "hp"⟩
    · rintro σ H' ⟨sz, rfl, z1, z2, kp, bx', hl⟩
      refine ⟨fun σ H' => ∃ sz, σ = [some (.ref b), some (.int (n : Int)), some (.ref p1), some (.int sz), none] ∧ 0 ≤ sz ∧ sz ≤ 60 ∧ (n = 1 → sz = 0) ∧ Kp b H H' ∧ BoxOk H' b bc ∧ H' p1 = some (.lst []), ?_, ?_⟩
      · -- if count == 1:
        refine ⟨_, rfl, rfl, _, rfl, ?_⟩
        refine ifEqI (fun g6 => ?_) (fun g6 => ?_)
        · -- size = 0
          exact ⟨0, rfl, by omega, by omega, fun _ => rfl, by fail "kp", by fail "bx", by fail "hp"⟩
        · exact ⟨_, rfl, by omega, by omega, fun e => absurd e (by omega), by fail "kp", by fail "bx", by fail "hp"⟩
      · rintro σ H' ⟨sz, rfl, z1, z2, z3, kp, bx', hl⟩
        -- for k in range(size):
        refine ⟨_, rfl, _, rfl, (by fail "om"), (by fail "om"), for_range (lo := 0) (fun i σ H' => ∃ (as : List Addr) (ps : List (Int × Int)) (v : Option V), σ = [some (.ref b), some (.int (n : Int)), some (.ref p1), some (.int sz), v] ∧ Kp b H H' ∧ BoxOk H' b bc ∧ H' p1 = some (.lst (as.map V.ref)) ∧ PrT H' as ps ∧ (∀ p ∈ ps, Good n p) ∧ ps.length = i) ⟨[], [], none, rfl, kp, bx', hl, PrT.nil, fun p hp => absurd hp (by simp), rfl⟩ ?_ ?_⟩
        · rintro i σ H' hi ⟨as, ps, v, rfl, kp, bx', hl, pa, gd, le⟩
          have lb : as.length ≤ 60 := by rw [pa.1]; omega
          have n2 : 2 ≤ n := by
            by_cases e : n = 1
            · have := z3 e
              omega
            · omega
          -- if pairs != [] and _law_draw(box, 5) == 4:
          refine ⟨_, rfl, (by fail "sz"), fun p7 np7 => ⟨_, _, (by fail "dp"), (by fail "dp"), (by fail "shp"), (by fail "shp"), _, rfl, ?_⟩⟩
          refine nifB (fun g8 => ?_) (fun g8 => ?_)
          · refine ⟨_, rfl, _, _, _, rfl, (by fail "bx"), (by fail "om"), (by fail "om"), fun d9 H9 da9 db9 kp9 bx9 => ⟨rfl, _, rfl, ?_⟩⟩
            refine ifEqI (fun g10 => ?_) (fun g10 => ?_)
            · have pos : 0 < as.length := by
                rw [pa.1]
                cases ps with
                | nil => exact absurd g8 (by decide)
                | cons p r => exact Nat.succ_pos _
              -- pairs.append(pairs[_law_draw(box, len(pairs))])
              refine ⟨_, rfl, .inl ⟨rfl, _, SqL.of (by fail "hp")⟩, _, rfl, _, rfl, _, rfl, _, _, rfl, .inl (SqL.of (by fail "hp")), _, _, _, rfl, (by fail "bx"), (by fail "om"), (by fail "om"), fun d11 H11 da11 db11 kp11 bx11 => ⟨_, _, _, _, rfl, rfl, SqL.of (by fail "hp"), (by fail "ix"), _, _, _, rfl, rfl, (by fail "hp"), (by fail "szl"), ?_⟩⟩
              obtain ⟨a0, x0, y0, e1, e2, e3⟩ := pa.at (i := d11.toNat) (by have := pa.1; simp only [List.length_map] at db11; omega)
              rw [getD_at da11 db11] at e1
              cases e1
              rw [show as.map V.ref ++ [V.ref (as.getD d11.toNat 0)] = (as ++ [(as.getD d11.toNat 0)]).map V.ref by rw [List.map_append]; rfl]
              refine ⟨as ++ [(as.getD d11.toNat 0)], ps ++ [(x0, y0)], _, rfl, by fail "kp", by fail "bx", upd_same, ?_, ?_, by rw [List.length_append, le]; rfl⟩
              · exact PrT.snoc (PrT.mono pa (by fail "tk")) (by fail "hp")
              · intro p hp
                rcases List.mem_append.mp hp with hp | hp
                · exact gd p hp
                · rw [List.mem_singleton.mp hp]
                  exact gd _ (List.mem_of_getElem? e2)
            · -- pairs.append(_law_pair(box, count))
              refine ⟨_, rfl, .inl ⟨rfl, _, SqL.of (by fail "hp")⟩, _, rfl, _, rfl, _, _, _, rfl, (by fail "bx"), (by fail "om"), (by fail "om"), fun x12 y12 t12 H12 xa12 xb12 ya12 yb12 ne12 kp12 bx12 nt12 nb12 ht12 => ⟨_, _, _, rfl, rfl, (by fail "hp"), (by fail "szl"), ?_⟩⟩
              rw [show as.map V.ref ++ [V.ref t12] = (as ++ [t12]).map V.ref by rw [List.map_append]; rfl]
              refine ⟨as ++ [t12], ps ++ [(x12, y12)], _, rfl, by fail "kp", by fail "bx", upd_same, ?_, ?_, by rw [List.length_append, le]; rfl⟩
              · exact PrT.snoc (PrT.mono pa (by fail "tk")) (by fail "hp")
              · intro p hp
                rcases List.mem_append.mp hp with hp | hp
                · exact gd p hp
                · rw [List.mem_singleton.mp hp]
                  exact ⟨xa12, xb12, ya12, yb12, ne12⟩
          · fail "ite"
            -- pairs.append(_law_pair(box, count))
            refine ⟨_, rfl, .inl ⟨rfl, _, SqL.of (by fail "hp")⟩, _, rfl, _, rfl, _, _, _, rfl, (by fail "bx"), (by fail "om"), (by fail "om"), fun x13 y13 t13 H13 xa13 xb13 ya13 yb13 ne13 kp13 bx13 nt13 nb13 ht13 => ⟨_, _, _, rfl, rfl, (by fail "hp"), (by fail "szl"), ?_⟩⟩
            rw [show as.map V.ref ++ [V.ref t13] = (as ++ [t13]).map V.ref by rw [List.map_append]; rfl]
            refine ⟨as ++ [t13], ps ++ [(x13, y13)], _, rfl, by fail "kp", by fail "bx", upd_same, ?_, ?_, by rw [List.length_append, le]; rfl⟩
            · exact PrT.snoc (PrT.mono pa (by fail "tk")) (by fail "hp")
            · intro p hp
              rcases List.mem_append.mp hp with hp | hp
              · exact gd p hp
              · rw [List.mem_singleton.mp hp]
                exact ⟨xa13, xb13, ya13, yb13, ne13⟩
        · rintro σ H' ⟨as, ps, v, rfl, kp, bx', hl, pa, gd, le⟩
          -- return pairs
          refine ⟨_, rfl, ?_⟩
          exact k p1 as ps H' gd (by omega) np1 n1b kp bx' hl pa
end
end K00

end
section
set_option Elab.async false
set_option linter.all false
set_option maxRecDepth 100000
set_option maxHeartbeats 800000
namespace K00
open PySem L2 Kit KR
local macro_rules | `(tactic| fail "om") => `(tactic| first | omega | (simp only [List.length_map, List.length_append, List.length_cons, List.length_nil]; omega) | (simp only [List.length_map, List.length_append, List.length_cons, List.length_nil] at *; omega) | assumption | decide | fail "no om")
local macro_rules | `(tactic| fail "nz") => `(tactic| first | decide | omega | fail "no nz")
local macro_rules | `(tactic| fail "dv") => `(tactic| exact ⟨by first | decide | omega, by first | decide | omega⟩)
local macro_rules | `(tactic| fail "mul") => `(tactic| first | exact .inr ⟨by decide, by decide⟩ | exact .inl ⟨by decide, by decide⟩ | exact mulF (by decide) (by decide) | exact .inl ⟨by omega, by omega⟩ | exact .inr ⟨by omega, by omega⟩ | fail "no mul")
local macro_rules | `(tactic| fail "sz") => `(tactic| first | assumption | exact Nat.zero_le _ | (show 1 ≤ sizeLine; decide) | (show 2 ≤ sizeLine; decide) | (show 3 ≤ sizeLine; decide) | (show 4 ≤ sizeLine; decide) | (show 5 ≤ sizeLine; decide) | exact Evl.sz_of (by omega) | (refine Evl.sz_of ?_; simp only [List.length_append, List.length_map, List.length_cons, List.length_nil]; omega) | fail "no sz")
local macro_rules | `(tactic| fail "szl") => `(tactic| first | exact Evl.sz_lt (by omega) | (refine Evl.sz_lt ?_; simp only [List.length_append, List.length_map, List.length_cons, List.length_nil]; omega) | fail "no szl")
local macro_rules | `(tactic| fail "ix") => `(tactic| first | assumption | exact ix0 | exact ix1 | exact ix2 | exact at_ref (by assumption) (by omega) | exact at_int (by assumption) (by omega) | exact at_drawn (by assumption) (by assumption) | rfl | fail "no ix")
local macro_rules | `(tactic| fail "ixn") => `(tactic| first | rfl | assumption | fail "no ixn")
local macro_rules | `(tactic| fail "nb") => `(tactic| first | assumption | exact nb_tup | exact nb_nil | exact nb_ints | exact nb_refs | exact nb_ins | exact nb_dT | exact nb_frz | fail "no nb")
local macro_rules | `(tactic| fail "ne") => `(tactic| first | assumption | exact Ne.symm (by assumption) | exact ne_of_none (by assumption) (by assumption) | exact (ne_of_none (by assumption) (by assumption)).symm | exact ne_of (by assumption) (by assumption) (by intro q; cases q) | exact ne_of (by assumption) (by assumption) (by simp) | fail "no ne")
local macro_rules | `(tactic| fail "hp") => `(tactic| first | assumption | exact upd_same | (refine' Tk.get (by assumption) ?k1; (case k1 => fail "tk")) | (with_reducible refine' upd_new ?h1 ?n1; (case n1 => assumption); (case h1 => fail "hp")) | (refine' Same.get (by assumption) ?h1; (case h1 => fail "hp")) | (refine' Kp.get (by assumption) (by fail "bx") ?h1 ?d1; (case h1 => fail "hp"); (case d1 => fail "nb")) | (with_reducible refine' upd_oth ?h1 ?n1; (case n1 => fail "ne"); (case h1 => fail "hp")) | (with_reducible refine' upd_oth ?h1 ?n1; (case h1 => fail "hp"); (case n1 => fail "ne")) | fail "no hp")
local macro_rules | `(tactic| fail "bx") => `(tactic| first | assumption | (with_reducible refine' BoxOk.new ?h1 ?n1; (case n1 => assumption); (case h1 => fail "bx")) | (refine' BoxOk.same (by assumption) ?h1; (case h1 => fail "bx")) | (with_reducible refine' BoxOk.mut ?h1 ?h2 ?n1; (case n1 => assumption); (case h2 => assumption); (case h1 => fail "bx")) | fail "no bx")
local macro_rules | `(tactic| fail "kp") => `(tactic| first | assumption | exact Kp.refl | (with_reducible refine' Kp.at ?h1; (case h1 => fail "kp")) | (with_reducible refine' Kp.new ?h1 ?n1; (case n1 => assumption); (case h1 => fail "kp")) | (with_reducible refine' Kp.mut ?h1 ?n1; (case n1 => assumption); (case h1 => fail "kp")) | (refine' Kp.tr (by assumption) ?h1; (case h1 => fail "kp")) | (refine' Kp.tr (Kp.of (by assumption)) ?h1; (case h1 => fail "kp")) | fail "no kp")
local macro_rules | `(tactic| fail "ite") => `(tactic| first | refine iteT ?_ | refine iteF ?_)
local macro_rules | `(tactic| fail "tt") => `(tactic| first | rfl | exact decide_eq_true (by first | rfl | omega | assumption) | exact decide_eq_true (congrArg V.int (by first | rfl | omega)) | fail "no tt")
local macro_rules | `(tactic| fail "cv") => `(tactic| first | exact .ty _ | exact .own _)
local macro_rules | `(tactic| fail "tx") => `(tactic| first | exact .base (.int _) | exact .base (.bl _) | exact .base .non | exact .base (.lst (by fail "hp")) | exact .base (.tup (by fail "hp")) | fail "no tx")
local macro_rules | `(tactic| fail "dead") => `(tactic| (exfalso; first | omega | contradiction | simp_all))
local macro_rules | `(tactic| fail "dp") => `(tactic| first | exact .tup (SqT.of (by fail "hp")) (.cons (.int _) (.cons (.int _) .nil)) | exact .lst (SqL.of (by fail "hp")) (dpPrs (by fail "pr")) | exact .lst (SqL.of (by fail "hp")) (dpInts _) | exact .lst (SqL.of (by fail "hp")) .nil | fail "no dp")
local macro_rules | `(tactic| fail "shp") => `(tactic| first | assumption | exact prD_shaped _ | exact PySem.W.ke_shaped_ints _ | rfl | fail "no shp")
local macro_rules | `(tactic| fail "pr") => `(tactic| first | assumption | exact PrT.mono (by assumption) (by fail "tk") | fail "no pr")
local macro_rules | `(tactic| fail "tk") => `(tactic| first | assumption | exact Tk.refl | (with_reducible refine' Tk.new ?h1 ?n1; (case n1 => assumption); (case h1 => fail "tk")) | (refine' Tk.tr (Kp.tk (by assumption) (by fail "bx")) ?h1; (case h1 => fail "tk")) | (refine' Tk.tr (Same.tk (by assumption)) ?h1; (case h1 => fail "tk")) | (with_reducible refine' Tk.lst ?h1 ?n1; (case n1 => fail "hp"); (case h1 => fail "tk")) | fail "no tk")

section
variable {P : Program} {w : World} {K : PySem.W.Frag} {mg : Str → Option Value} {base : Heap}

abbrev sSpoilt : Stmt := top 26
theorem scSpoilt : FnScope ["box", "count", "pairs", "spoilt", "k", "at"] ["box", "count", "pairs"] (defScope sSpoilt) := ⟨rfl, rfl, rfl, by decide +kernel, rfl, by decide +kernel, by decide +kernel⟩
def spSpoilt : Sp := fun vs H Q _ => ∃ (b bc : Addr) (n : Nat) (l : Addr) (as : List Addr) (ps : List (Int × Int)), vs = [.ref b, .int (n : Int), .ref l] ∧ BoxOk H b bc ∧ H l = some (.lst (as.map V.ref)) ∧ PrT H as ps ∧ 1 ≤ n ∧ n ≤ 24 ∧ ps.length ≤ 60 ∧
  ∀ (l' : Addr) (as' : List Addr) (ps' : List (Int × Int)) (H' : Hp), (∃ p ∈ ps', ¬ Good n p) → ps'.length ≤ 62 → H l' = none → l' ≠ b → Kp b H H' → BoxOk H' b bc → H' l' = some (.lst (as'.map V.ref)) → PrT H' as' ps' → Q (.ref l') H'
theorem ok_Spoilt (D : Df K mg "_law_spoilt" sSpoilt ["box", "count", "pairs"]) (T : Txt K mg) (GDraw : C8.Cal P w K mg base 1 "_law_draw" spDraw []) (GBadPair : C8.Cal P w K mg base 4 "_law_bad_pair" spBadPair []) : C8.Cal P w K mg base 5 "_law_spoilt" spSpoilt [] := by
  obtain ⟨f, fd, F, hm, hb⟩ := D
  refine ⟨f, fd, ["box", "count", "pairs"], [], F.ok scSpoilt (fun vs H Q E h => ?_) (fun cdv A outer s H vs Q E hr h => ?_), hm, F.kp, hb, .nil⟩
  · obtain ⟨b, bc, n, l, as, ps, rfl, bx, hl0, pa0, hn1, hn2, hp60, k⟩ := h
    rfl
  · obtain ⟨b, bc, n, l, as, ps, rfl, bx, hl0, pa0, hn1, hn2, hp60, k⟩ := h
    refine ⟨_, (pss_cons (ps_set (i := 3) scSpoilt.nd rfl (Or.inl rfl) (pe_callTy call_list_of (by rfl) T.list (by decide +kernel) (pa_cons (pv 2) pa_nil)))
      (pss_cons (ps_for PassesOwn.never rfl (pi_range1 rfl T.range (pa_cons (pe_op op_add pe_int (C8.pe_c GDraw hr (by decide) (by rfl) (pa_cons (pv 0) (pa_cons pe_int pa_nil)))) pa_nil)) (pg_name (i := 4) scSpoilt.nd rfl (Or.inl rfl))
        (pss_cons (ps_set (i := 5) scSpoilt.nd rfl (Or.inl rfl) (C8.pe_c GDraw hr (by decide) (by rfl) (pa_cons (pv 0) (pa_cons (pe_op op_add (pe_callB call_len_seq (by rfl) T.len (by decide +kernel) (pa_cons (pv 3) pa_nil)) pe_int) pa_nil))))
        (pss_one (ps_expr (pe_bm PySem.F.plainAttrs_list PySem.F.slot_list_insert PySem.F.type_list_insert mt_insert (pv 3) (pa_cons (pv 5) (pa_cons (C8.pe_c GBadPair hr (by decide) (by rfl) (pa_cons (pv 0) (pa_cons (pv 1) pa_nil))) pa_nil)))))))
      (pss_one (ps_ret (pv 3))))), ?_⟩
    -- spoilt = list(pairs)
    refine ⟨_, rfl, _, _, rfl, .inl (SqL.of (by fail "hp")), fun p1 np1 => ?_⟩
    have n1b : p1 ≠ b := by
      obtain ⟨u, hu⟩ := bx.there
      exact (ne_of_none hu np1).symm
    -- for k in range(1 + _law_draw(box, 2)):
    refine ⟨_, rfl, _, _, _, rfl, (by fail "bx"), (by fail "om"), (by fail "om"), fun d2 H2 da2 db2 kp2 bx2 => ⟨_, _, rfl, rfl, _, rfl, (by fail "om"), (by fail "om"), for_range (lo := 0) (fun i σ H' => ∃ (as : List Addr) (ps : List (Int × Int)) (v w : Option V), σ = [some (.ref b), some (.int (n : Int)), some (.ref l), some (.ref p1), v, w] ∧ Kp b H H' ∧ BoxOk H' b bc ∧ H' p1 = some (.lst (as.map V.ref)) ∧ PrT H' as ps ∧ ps.length ≤ 60 + i ∧ (0 < i → ∃ p ∈ ps, ¬ Good n p)) ⟨as, ps, none, none, rfl, by fail "kp", by fail "bx", by fail "hp", by fail "pr", by omega, fun h => absurd h (by omega)⟩ ?_ ?_⟩⟩
    · rintro i σ H' hi ⟨as, ps, v, w, rfl, kp, bx', hl, pa, le, bd⟩
      have lb : as.length ≤ 62 := by rw [pa.1]; omega
      -- at = _law_draw(box, len(spoilt) + 1)
      refine ⟨_, rfl, _, rfl, _, _, rfl, .inl (SqL.of (by fail "hp")), _, _, rfl, rfl, _, _, _, rfl, (by fail "bx"), (by fail "om"), (by fail "om"), fun d3 H3 da3 db3 kp3 bx3 => ?_⟩
      -- spoilt.insert(at, _law_bad_pair(box, count))
      refine ⟨_, rfl, .inl ⟨rfl, _, SqL.of (by fail "hp")⟩, _, rfl, _, rfl, _, rfl, _, _, _, rfl, (by fail "bx"), (by fail "om"), (by fail "om"), fun x4 y4 t4 H4 bad4 kp4 bx4 nt4 nb4 ht4 => ⟨_, _, _, _, rfl, rfl, (by fail "hp"), (by fail "szl"), (by fail "om"), (by fail "om"), ?_⟩⟩
      have ek : (as.map V.ref).take d3.toNat ++ [V.ref t4] ++ (as.map V.ref).drop d3.toNat = (as.take d3.toNat ++ [t4] ++ as.drop d3.toNat).map V.ref := by
        rw [List.map_append, List.map_append, List.map_take, List.map_drop]
        rfl
      rw [ek]
      refine ⟨as.take d3.toNat ++ [t4] ++ as.drop d3.toNat, ps.take d3.toNat ++ [(x4, y4)] ++ ps.drop d3.toNat, _, _, rfl, by fail "kp", by fail "bx", upd_same, ?_, ?_, fun _ => ⟨(x4, y4), by simp, bad4⟩⟩
      · exact PrT.ins (PrT.mono pa (by fail "tk")) (by fail "hp") _
      · rw [List.length_append, List.length_append, List.length_take, List.length_drop]
        show min d3.toNat ps.length + 1 + (ps.length - d3.toNat) ≤ 60 + (i + 1)
        omega
    · rintro σ H' ⟨as, ps, v, w, rfl, kp, bx', hl, pa, le, bd⟩
      -- return spoilt
      refine ⟨_, rfl, ?_⟩
      exact k p1 as ps H' (bd (by omega)) (by omega) np1 n1b kp bx' hl pa
abbrev sWrongCount : Stmt := top 45
theorem scWrongCount : FnScope ["box", "way", "kind", "great"] ["box", "way"] (defScope sWrongCount) := ⟨rfl, rfl, rfl, by decide +kernel, rfl, by decide +kernel, by decide +kernel⟩
def spWrongCount : Sp := fun vs H Q _ => ∃ (b bc : Addr) (way : Int), vs = [.ref b, .int way] ∧ BoxOk H b bc ∧
  ∀ (d : Int) (H' : Hp), (d < 1 ∨ 24 < d) → Kp b H H' → BoxOk H' b bc → Q (.int d) H'
theorem ok_WrongCount (D : Df K mg "_law_wrong_count" sWrongCount ["box", "way"]) (T : Txt K mg) (GDraw : C8.Cal P w K mg base 1 "_law_draw" spDraw []) (GGreat : C8.Cal P w K mg base 2 "_law_great" spGreat []) : C8.Cal P w K mg base 3 "_law_wrong_count" spWrongCount [] := by
  obtain ⟨f, fd, F, hm, hb⟩ := D
  refine ⟨f, fd, ["box", "way"], [], F.ok scWrongCount (fun vs H Q E h => ?_) (fun cdv A outer s H vs Q E hr h => ?_), hm, F.kp, hb, .nil⟩
  · obtain ⟨b, bc, way, rfl, bx, k⟩ := h
    rfl
  · obtain ⟨b, bc, way, rfl, bx, k⟩ := h
    refine ⟨_, (pss_cons (ps_set (i := 2) scWrongCount.nd rfl (Or.inl rfl) (C8.pe_c GDraw hr (by decide) (by rfl) (pa_cons (pv 0) (pa_cons pe_int pa_nil))))
      (pss_cons (ps_if (pt_cmpR op_eq (pv 2) pe_int (nomark _))
        (pss_one (ps_ret pe_int))
        pss_nil)
      (pss_cons (ps_if (pt_cmpR op_eq (pv 2) pe_int (nomark _))
        (pss_one (ps_ret pe_int))
        pss_nil)
      (pss_cons (ps_if (pt_cmpR op_eq (pv 2) pe_int (nomark _))
        (pss_one (ps_ret (pe_op op_sub (pe_un un_neg pe_int) (C8.pe_c GDraw hr (by decide) (by rfl) (pa_cons (pv 0) (pa_cons pe_int pa_nil))))))
        pss_nil)
      (pss_cons (ps_if (PW.pt (pw_or (pt_cmpR op_eq (pv 2) pe_int (nomark _)) (pw_or1 (pt_cmpR op_gt (pv 1) pe_int (nomark _)))))
        (pss_one (ps_ret (pe_op op_add pe_int (C8.pe_c GDraw hr (by decide) (by rfl) (pa_cons (pv 0) (pa_cons pe_int pa_nil))))))
        pss_nil)
      (pss_cons (ps_set (i := 3) scWrongCount.nd rfl (Or.inl rfl) (C8.pe_c GGreat hr (by decide) (by rfl) (pa_cons (pv 0) pa_nil)))
      (pss_cons (ps_if (pt_cmpR op_eq (pv 2) pe_int (nomark _))
        (pss_one (ps_ret (pe_callB (call_max2 rfl) (by rfl) T.max (by decide +kernel) (pa_cons pe_int (pa_cons (pv 3) pa_nil)))))
        pss_nil)
      (pss_one (ps_ret (pe_callB (call_min2 rfl) (by rfl) T.min (by decide +kernel) (pa_cons pe_int (pa_cons (pe_op op_sub pe_int (pv 3)) pa_nil)))))))))))), ?_⟩
    -- kind = _law_draw(box, 6)
    refine ⟨_, rfl, _, _, _, rfl, (by fail "bx"), (by fail "om"), (by fail "om"), fun d1 H1 da1 db1 kp1 bx1 => ?_⟩
    -- if kind == 0:
    refine ⟨_, rfl, rfl, _, rfl, ?_⟩
    refine ifEqI (fun g2 => ?_) (fun g2 => ?_)
    · -- return 0
      exact k _ _ (by omega) (by fail "kp") (by fail "bx")
    · -- if kind == 1:
      refine ⟨_, rfl, rfl, _, rfl, ?_⟩
      refine ifEqI (fun g3 => ?_) (fun g3 => ?_)
      · -- return 25
        exact k _ _ (by omega) (by fail "kp") (by fail "bx")
      · -- if kind == 2:
        refine ⟨_, rfl, rfl, _, rfl, ?_⟩
        refine ifEqI (fun g4 => ?_) (fun g4 => ?_)
        · -- return -1 - _law_draw(box, 30)
          refine ⟨_, rfl, _, rfl, _, _, _, rfl, (by fail "bx"), (by fail "om"), (by fail "om"), fun d5 H5 da5 db5 kp5 bx5 => ⟨_, _, rfl, rfl, ?_⟩⟩
          exact k _ _ (by omega) (by fail "kp") (by fail "bx")
        · -- if kind == 3 or way > 1:
          refine ⟨_, rfl, rfl, _, rfl, ?_⟩
          refine ifEqI (fun g6 => ?_) (fun g6 => ?_)
          · fail "ite"
            -- return 25 + _law_draw(box, 36)
            refine ⟨_, rfl, _, _, _, rfl, (by fail "bx"), (by fail "om"), (by fail "om"), fun d7 H7 da7 db7 kp7 bx7 => ⟨_, _, rfl, rfl, ?_⟩⟩
            exact k _ _ (by omega) (by fail "kp") (by fail "bx")
          · refine ⟨_, rfl, _, _, rfl, rfl, _, rfl, ?_⟩
            refine ifD (fun g8 => ?_) (fun g8 => ?_)
            · -- return 25 + _law_draw(box, 36)
              refine ⟨_, rfl, _, _, _, rfl, (by fail "bx"), (by fail "om"), (by fail "om"), fun d9 H9 da9 db9 kp9 bx9 => ⟨_, _, rfl, rfl, ?_⟩⟩
              exact k _ _ (by omega) (by fail "kp") (by fail "bx")
            · -- great = _law_great(box)
              refine ⟨_, rfl, _, _, rfl, (by fail "bx"), fun d10 H10 da10 kp10 bx10 => ?_⟩
              -- if kind == 4:
              refine ⟨_, rfl, rfl, _, rfl, ?_⟩
              refine ifEqI (fun g11 => ?_) (fun g11 => ?_)
              · -- return max(25, great)
                refine ⟨_, rfl, _, _, rfl, ?_⟩
                exact k _ _ (by split <;> omega) (by fail "kp") (by fail "bx")
              · -- return min(0, 0 - great)
                refine ⟨_, rfl, _, _, rfl, rfl, _, _, rfl, ?_⟩
                exact k _ _ (by split <;> omega) (by fail "kp") (by fail "bx")
abbrev sDeedPair : Stmt := top 41
theorem scDeedPair : FnScope ["box", "count", "table", "ties", "kind", "pair"] ["box", "count", "table"] (defScope sDeedPair) := ⟨rfl, rfl, rfl, by decide +kernel, rfl, by decide +kernel, by decide +kernel⟩
def spDeedPair : Sp := fun vs H Q _ => ∃ (b bc : Addr) (n : Nat) (t : Addr) (M : List Int) (R : Rel), vs = [.ref b, .int (n : Int), .ref t] ∧ BoxOk H b bc ∧ H t = some (.lst (M.map V.int)) ∧ IsTab n M R ∧ 1 ≤ n ∧ n ≤ 24 ∧
  ∀ (x y : Int) (p : Addr) (H' : Hp), Kp b H H' → BoxOk H' b bc → H' p = some (.tup [.int x, .int y]) → Q (.ref p) H'
theorem ok_DeedPair (D : Df K mg "_law_deed_pair" sDeedPair ["box", "count", "table"]) (T : Txt K mg) (GDraw : C8.Cal P w K mg base 1 "_law_draw" spDraw []) (GPair : C8.Cal P w K mg base 2 "_law_pair" spPair []) (GBadPair : C8.Cal P w K mg base 4 "_law_bad_pair" spBadPair []) (GTies : C8.Cal P w K mg base 1 "_law_ties" spTies []) : C8.Cal P w K mg base 5 "_law_deed_pair" spDeedPair [] := by
  obtain ⟨f, fd, F, hm, hb⟩ := D
  refine ⟨f, fd, ["box", "count", "table"], [], F.ok scDeedPair (fun vs H Q E h => ?_) (fun cdv A outer s H vs Q E hr h => ?_), hm, F.kp, hb, .nil⟩
  · obtain ⟨b, bc, n, t, M, R, rfl, bx, ht, tb, hn1, hn2, k⟩ := h
    rfl
  · obtain ⟨b, bc, n, t, M, R, rfl, bx, ht, tb, hn1, hn2, k⟩ := h
    refine ⟨_, (pss_cons (ps_set (i := 3) scDeedPair.nd rfl (Or.inl rfl) (C8.pe_c GTies hr (by decide) (by rfl) (pa_cons (pv 1) (pa_cons (pv 2) pa_nil))))
      (pss_cons (ps_set (i := 4) scDeedPair.nd rfl (Or.inl rfl) (C8.pe_c GDraw hr (by decide) (by rfl) (pa_cons (pv 0) (pa_cons pe_int pa_nil))))
      (pss_cons (ps_if (PW.pt (pw_or (pt_cmpR op_eq (pv 4) pe_int (nomark _)) (pw_or1 (pt_cmpR op_eq (pv 1) pe_int (nomark _)))))
        (pss_one (ps_ret (C8.pe_c GBadPair hr (by decide) (by rfl) (pa_cons (pv 0) (pa_cons (pv 1) pa_nil)))))
        pss_nil)
      (pss_cons (ps_if (PW.pt (pw_or (pt_cmpR op_lt (pv 4) pe_int (nomark _)) (pw_or1 (pt_cmpR (op_eqD hr.units) (pv 3) (pe_lst pa_nil) (nomark _)))))
        (pss_one (ps_ret (C8.pe_c GPair hr (by decide) (by rfl) (pa_cons (pv 0) (pa_cons (pv 1) pa_nil)))))
        pss_nil)
      (pss_cons (ps_set (i := 5) scDeedPair.nd rfl (Or.inl rfl) (pe_ix ix_list (pv 3) (C8.pe_c GDraw hr (by decide) (by rfl) (pa_cons (pv 0) (pa_cons (pe_callB call_len_seq (by rfl) T.len (by decide +kernel) (pa_cons (pv 3) pa_nil)) pa_nil))) (fun _ _ => rfl)))
      (pss_cons (ps_if (pt_cmpR op_eq (pv 4) pe_int (nomark _))
        (pss_one (ps_ret (pe_tup (pa_cons (pe_ix ix_tup (pv 5) pe_int (fun _ _ => rfl)) (pa_cons (pe_ix ix_tup (pv 5) pe_int (fun _ _ => rfl)) pa_nil)))))
        pss_nil)
      (pss_one (ps_ret (pv 5))))))))), ?_⟩
    -- ties = _law_ties(count, table)
    refine ⟨_, rfl, _, rfl, _, _, _, _, rfl, (by fail "hp"), (by assumption), (by fail "om"), fun l1 as1 H1 nl1 sm1 hl1 pl1 => ?_⟩
    -- kind = _law_draw(box, 6)
    refine ⟨_, rfl, _, _, _, rfl, (by fail "bx"), (by fail "om"), (by fail "om"), fun d2 H2 da2 db2 kp2 bx2 => ?_⟩
    -- if kind == 0 or count == 1:
    refine ⟨_, rfl, rfl, _, rfl, ?_⟩
    refine ifEqI (fun g3 => ?_) (fun g3 => ?_)
    · fail "ite"
      -- return _law_bad_pair(box, count)
      refine ⟨_, rfl, _, rfl, _, _, _, rfl, (by fail "bx"), (by fail "om"), (by fail "om"), fun x4 y4 t4 H4 bad4 kp4 bx4 nt4 nb4 ht4 => ?_⟩
      exact k _ _ _ _ (by fail "kp") (by fail "bx") (by fail "hp")
    · refine ⟨_, rfl, rfl, _, rfl, ?_⟩
      refine ifEqI (fun g5 => ?_) (fun g5 => ?_)
      · -- return _law_bad_pair(box, count)
        refine ⟨_, rfl, _, rfl, _, _, _, rfl, (by fail "bx"), (by fail "om"), (by fail "om"), fun x6 y6 t6 H6 bad6 kp6 bx6 nt6 nb6 ht6 => ?_⟩
        exact k _ _ _ _ (by fail "kp") (by fail "bx") (by fail "hp")
      · -- if kind < 3 or ties == []:
        refine ⟨_, rfl, _, _, rfl, rfl, _, rfl, ?_⟩
        refine ifD (fun g7 => ?_) (fun g7 => ?_)
        · fail "ite"
          -- return _law_pair(box, count)
          refine ⟨_, rfl, _, rfl, _, _, _, rfl, (by fail "bx"), (by fail "om"), (by fail "om"), fun x8 y8 t8 H8 xa8 xb8 ya8 yb8 ne8 kp8 bx8 nt8 nb8 ht8 => ?_⟩
          exact k _ _ _ _ (by fail "kp") (by fail "bx") (by fail "hp")
        · refine ⟨_, rfl, (by fail "sz"), fun p9 np9 => ⟨_, _, (by fail "dp"), (by fail "dp"), (by fail "shp"), (by fail "shp"), _, rfl, ?_⟩⟩
          refine ifB (fun g10 => ?_) (fun g10 => ?_)
          · -- return _law_pair(box, count)
            refine ⟨_, rfl, _, rfl, _, _, _, rfl, (by fail "bx"), (by fail "om"), (by fail "om"), fun x11 y11 t11 H11 xa11 xb11 ya11 yb11 ne11 kp11 bx11 nt11 nb11 ht11 => ?_⟩
            exact k _ _ _ _ (by fail "kp") (by fail "bx") (by fail "hp")
          · have pos : 0 < as1.length := by
              rw [pl1.1]
              cases q : ties n R with
              | nil => rw [q] at g10; exact absurd g10 (by decide)
              | cons p r => exact Nat.succ_pos _
            have lb : as1.length ≤ 576 := by rw [pl1.1]; exact ties_len R hn2
            -- pair = ties[_law_draw(box, len(ties))]
            refine ⟨_, rfl, _, rfl, _, rfl, _, _, rfl, .inl (SqL.of (by fail "hp")), _, _, _, rfl, (by fail "bx"), (by fail "om"), (by fail "om"), fun d12 H12 da12 db12 kp12 bx12 => ⟨_, _, _, _, rfl, rfl, SqL.of (by fail "hp"), (by fail "ix"), ?_⟩⟩
            obtain ⟨a0, x0, y0, e1, e2, e3⟩ := pl1.at (i := d12.toNat) (by have := pl1.1; simp only [List.length_map] at db12; omega)
            rw [getD_at da12 db12] at e1
            cases e1
            -- if kind == 5:
            refine ⟨_, rfl, rfl, _, rfl, ?_⟩
            refine ifEqI (fun g13 => ?_) (fun g13 => ?_)
            · -- return (pair[1], pair[0])
              refine ⟨_, rfl, _, _, _, _, rfl, rfl, SqT.of (by fail "hp"), (by fail "ix"), _, rfl, _, _, _, _, rfl, rfl, SqT.of (by fail "hp"), (by fail "ix"), (by fail "sz"), fun p14 np14 => ?_⟩
              exact k _ _ _ _ (by fail "kp") (by fail "bx") (by fail "hp")
            · -- return pair
              refine ⟨_, rfl, ?_⟩
              exact k _ _ _ _ (by fail "kp") (by fail "bx") (by fail "hp")
end
end K00

end
section
set_option Elab.async false
set_option linter.all false
set_option maxRecDepth 100000
set_option maxHeartbeats 800000
namespace K00
open PySem L2 Kit KR KX
local macro_rules | `(tactic| fail "om") => `(tactic| first | omega | (simp only [List.length_map, List.length_append, List.length_cons, List.length_nil]; omega) | (simp only [List.length_map, List.length_append, List.length_cons, List.length_nil] at *; omega) | assumption | decide | fail "no om")
local macro_rules | `(tactic| fail "nz") => `(tactic| first | decide | omega | fail "no nz")
local macro_rules | `(tactic| fail "dv") => `(tactic| exact ⟨by first | decide | omega, by first | decide | omega⟩)
local macro_rules | `(tactic| fail "mul") => `(tactic| first | exact .inr ⟨by decide, by decide⟩ | exact .inl ⟨by decide, by decide⟩ | exact mulF (by decide) (by decide) | exact .inl ⟨by omega, by omega⟩ | exact .inr ⟨by omega, by omega⟩ | fail "no mul")
local macro_rules | `(tactic| fail "sz") => `(tactic| first | assumption | exact Nat.zero_le _ | (show 1 ≤ sizeLine; decide) | (show 2 ≤ sizeLine; decide) | (show 3 ≤ sizeLine; decide) | (show 4 ≤ sizeLine; decide) | (show 5 ≤ sizeLine; decide) | exact Evl.sz_of (by omega) | (refine Evl.sz_of ?_; simp only [List.length_append, List.length_map, List.length_cons, List.length_nil]; omega) | fail "no sz")
local macro_rules | `(tactic| fail "szl") => `(tactic| first | exact Evl.sz_lt (by omega) | (refine Evl.sz_lt ?_; simp only [List.length_append, List.length_map, List.length_cons, List.length_nil]; omega) | fail "no szl")
local macro_rules | `(tactic| fail "ix") => `(tactic| first | assumption | exact ix0 | exact ix1 | exact ix2 | exact at_ref (by assumption) (by omega) | exact at_int (by assumption) (by omega) | exact at_drawn (by assumption) (by assumption) | rfl | fail "no ix")
local macro_rules | `(tactic| fail "ixn") => `(tactic| first | rfl | assumption | fail "no ixn")
local macro_rules | `(tactic| fail "nb") => `(tactic| first | assumption | exact nb_tup | exact nb_nil | exact nb_ints | exact nb_refs | exact nb_ins | exact nb_dT | exact nb_frz | fail "no nb")
local macro_rules | `(tactic| fail "ne") => `(tactic| first | assumption | exact Ne.symm (by assumption) | exact ne_of_none (by assumption) (by assumption) | exact (ne_of_none (by assumption) (by assumption)).symm | exact ne_of (by assumption) (by assumption) (by intro q; cases q) | exact ne_of (by assumption) (by assumption) (by simp) | fail "no ne")
local macro_rules | `(tactic| fail "hp") => `(tactic| first | assumption | exact upd_same | (refine' Tk.get (by assumption) ?k1; (case k1 => fail "tk")) | (with_reducible refine' upd_new ?h1 ?n1; (case n1 => assumption); (case h1 => fail "hp")) | (refine' Same.get (by assumption) ?h1; (case h1 => fail "hp")) | (refine' Kp.get (by assumption) (by fail "bx") ?h1 ?d1; (case h1 => fail "hp"); (case d1 => fail "nb")) | (with_reducible refine' upd_oth ?h1 ?n1; (case n1 => fail "ne"); (case h1 => fail "hp")) | (with_reducible refine' upd_oth ?h1 ?n1; (case h1 => fail "hp"); (case n1 => fail "ne")) | fail "no hp")
local macro_rules | `(tactic| fail "bx") => `(tactic| first | assumption | (with_reducible refine' BoxOk.new ?h1 ?n1; (case n1 => assumption); (case h1 => fail "bx")) | (refine' BoxOk.same (by assumption) ?h1; (case h1 => fail "bx")) | (with_reducible refine' BoxOk.mut ?h1 ?h2 ?n1; (case n1 => assumption); (case h2 => assumption); (case h1 => fail "bx")) | fail "no bx")
local macro_rules | `(tactic| fail "kp") => `(tactic| first | assumption | exact Kp.refl | (with_reducible refine' Kp.at ?h1; (case h1 => fail "kp")) | (with_reducible refine' Kp.new ?h1 ?n1; (case n1 => assumption); (case h1 => fail "kp")) | (with_reducible refine' Kp.mut ?h1 ?n1; (case n1 => assumption); (case h1 => fail "kp")) | (refine' Kp.tr (by assumption) ?h1; (case h1 => fail "kp")) | (refine' Kp.tr (Kp.of (by assumption)) ?h1; (case h1 => fail "kp")) | fail "no kp")
local macro_rules | `(tactic| fail "ite") => `(tactic| first | refine iteT ?_ | refine iteF ?_)
local macro_rules | `(tactic| fail "tt") => `(tactic| first | rfl | exact decide_eq_true (by first | rfl | omega | assumption) | exact decide_eq_true (congrArg V.int (by first | rfl | omega)) | fail "no tt")
local macro_rules | `(tactic| fail "cv") => `(tactic| first | exact .ty _ | exact .own _)
local macro_rules | `(tactic| fail "tx") => `(tactic| first | exact .base (.int _) | exact .base (.bl _) | exact .base .non | exact .base (.lst (by fail "hp")) | exact .base (.tup (by fail "hp")) | fail "no tx")
local macro_rules | `(tactic| fail "dead") => `(tactic| (exfalso; first | omega | contradiction | simp_all))
local macro_rules | `(tactic| fail "dp") => `(tactic| first | exact .tup (SqT.of (by fail "hp")) (.cons (.int _) (.cons (.int _) .nil)) | exact .lst (SqL.of (by fail "hp")) (dpPrs (by fail "pr")) | exact .lst (SqL.of (by fail "hp")) (dpInts _) | exact .lst (SqL.of (by fail "hp")) .nil | fail "no dp")
local macro_rules | `(tactic| fail "shp") => `(tactic| first | assumption | exact prD_shaped _ | exact PySem.W.ke_shaped_ints _ | rfl | fail "no shp")
local macro_rules | `(tactic| fail "pr") => `(tactic| first | assumption | exact PrT.mono (by assumption) (by fail "tk") | fail "no pr")
local macro_rules | `(tactic| fail "tk") => `(tactic| first | assumption | exact Tk.refl | (with_reducible refine' Tk.new ?h1 ?n1; (case n1 => assumption); (case h1 => fail "tk")) | (refine' Tk.tr (Kp.tk (by assumption) (by fail "bx")) ?h1; (case h1 => fail "tk")) | (refine' Tk.tr (Same.tk (by assumption)) ?h1; (case h1 => fail "tk")) | (with_reducible refine' Tk.lst ?h1 ?n1; (case n1 => fail "hp"); (case h1 => fail "tk")) | fail "no tk")
local macro_rules | `(tactic| fail "lk") => `(tactic| first | exact netF_count _ _ | exact netF_links _ _ | exact netF_no _ _ (by decide +kernel) (by decide +kernel) | fail "no lk")
local macro_rules | `(tactic| fail "kt") => `(tactic| first | exact upd_same | assumption | fail "hp")
local macro_rules | `(tactic| fail "na") => `(tactic| first | assumption | (with_reducible refine' NetAt.new ?h1 ?n1; (case n1 => assumption); (case h1 => fail "na")) | (refine' NetAt.same (by assumption) ?h1; (case h1 => fail "na")) | (refine' NetAt.kp (by assumption) (by fail "bx") ?h1; (case h1 => fail "na")) | (with_reducible refine' NetAt.lst ?h1 ?n1; (case n1 => fail "hp"); (case h1 => fail "na")) | fail "no na")
local macro_rules | `(tactic| fail "mono") => `(tactic| first | exact fun _ _ _ _ h q => h _ _ q | exact fun _ _ _ _ h q => (let ⟨v, e, z⟩ := q; ⟨v, e, h _ _ z⟩) | exact fun _ _ _ _ h q => (let ⟨v, e, u, f, z⟩ := q; ⟨v, e, u, f, h _ _ z⟩) | fail "no mono")
local macro_rules | `(tactic| fail "sm") => `(tactic| first | assumption | exact Same.refl _ | (with_reducible refine' Same.new ?h1 ?n1; (case n1 => assumption); (case h1 => fail "sm")) | (refine' Same.tr (by assumption) ?h1; (case h1 => fail "sm")) | fail "no sm")
local macro_rules | `(tactic| fail "fld") => `(tactic| first | (show 0 < 1000; decide) | (show 1 < 1000; decide) | fail "no fld")

section
variable {P : Program} {w : World} {K : PySem.W.Frag} {mg : Str → Option Value} {base : Heap} {CN CI CU CL CS : Addr} {mc mu : Value}

structure NTx (K : PySem.W.Frag) (mg : Str → Option Value) (CN : Addr) (mc mu : Value) : Prop extends Txt K mg where
  cl : Cls K CN
  rd : ClX.CRead K CN mc
  most : ClX.CVal K CN mc "MOST" (.int 24) mu
  n_count : NoAttr K CN "count"
  n__links : NoAttr K CN "_links"
  mgNet : mg "Net" = some (.ref CN)
/-- the __init__ of the three errors -/
abbrev sEI : Stmt := inClass (top 2) 0
abbrev sEU : Stmt := inClass (top 3) 0
abbrev sEL : Stmt := inClass (top 4) 0
theorem scEI : FnScope ["self", "link"] ["self", "link"] (defScope sEI) := ⟨rfl, rfl, rfl, by decide +kernel, rfl, by decide +kernel, by decide +kernel⟩
theorem scEU : FnScope ["self", "replica"] ["self", "replica"] (defScope sEU) := ⟨rfl, rfl, rfl, by decide +kernel, rfl, by decide +kernel, by decide +kernel⟩
theorem scEL : FnScope ["self", "source", "reader"] ["self", "source", "reader"] (defScope sEL) := ⟨rfl, rfl, rfl, by decide +kernel, rfl, by decide +kernel, by decide +kernel⟩
theorem ok_EI {C f : Addr} {fd : FuncData} (F : L2.Fun K "__init__" "InvalidNet.__init__" sEI f fd) (ox : OexC K C) (no : PySem.W.findIn K (.ref C) "link" = some none) : FnOk P w K mg base CX0 1 f fd ["self", "link"] (spErr1 C "link") := by
  refine F.ok scEI (fun vs H Q E h => ?_) (fun cdv A outer s H vs Q E hr h => ?_)
  · obtain ⟨a, v, rfl, _⟩ := h
    rfl
  · obtain ⟨a, v, rfl, ha, k⟩ := h
    refine ⟨_, pss_one (ps_ost (pv 0) (pv 1)), ?_⟩
    exact ⟨_, rfl, _, rfl, a, C, rfl, ox, no, .inl ⟨ha, fun dx n ne => k dx n ne⟩⟩
theorem ok_EU {C f : Addr} {fd : FuncData} (F : L2.Fun K "__init__" "UnknownReplica.__init__" sEU f fd) (ox : OexC K C) (no : PySem.W.findIn K (.ref C) "replica" = some none) : FnOk P w K mg base CX0 1 f fd ["self", "replica"] (spErr1 C "replica") := by
  refine F.ok scEU (fun vs H Q E h => ?_) (fun cdv A outer s H vs Q E hr h => ?_)
  · obtain ⟨a, v, rfl, _⟩ := h
    rfl
  · obtain ⟨a, v, rfl, ha, k⟩ := h
    refine ⟨_, pss_one (ps_ost (pv 0) (pv 1)), ?_⟩
    exact ⟨_, rfl, _, rfl, a, C, rfl, ox, no, .inl ⟨ha, fun dx n ne => k dx n ne⟩⟩
theorem ok_EL {C f : Addr} {fd : FuncData} (F : L2.Fun K "__init__" "NotLinked.__init__" sEL f fd) (ox : OexC K C) (no1 : PySem.W.findIn K (.ref C) "source" = some none) (no2 : PySem.W.findIn K (.ref C) "reader" = some none) : FnOk P w K mg base CX0 1 f fd ["self", "source", "reader"] (spErr2 C "source" "reader") := by
  refine F.ok scEL (fun vs H Q E h => ?_) (fun cdv A outer s H vs Q E hr h => ?_)
  · obtain ⟨a, v, u, rfl, _⟩ := h
    rfl
  · obtain ⟨a, v, u, rfl, ha, k⟩ := h
    refine ⟨_, pss_cons (ps_ost (pv 0) (pv 1)) (pss_one (ps_ost (pv 0) (pv 2))), ?_⟩
    refine ⟨_, rfl, _, rfl, a, C, rfl, ox, no1, .inl ⟨ha, fun dx n ne => ?_⟩⟩
    exact ⟨_, rfl, _, rfl, a, C, rfl, ox, no2, .inr ⟨dx, _, upd_same, by rw [upd_ne ne]; exact upd_same, (by simp), k dx n ne⟩⟩
abbrev sCheckCount : Stmt := top 7
theorem scCheckCount : FnScope ["count"] ["count"] (defScope sCheckCount) := ⟨rfl, rfl, rfl, by decide +kernel, rfl, by decide +kernel, by decide +kernel⟩
/-- an InvalidNet leaves, of this link -/
def RaisesI (CI : Addr) (v : V) (H : Hp) (E : XK) : Prop := ∀ (d : Addr) (H' : Hp), H d = none → Same H H' → H' d = some (.xd [("link", v)]) → E (.ref CI) (some d) H'
def spCheckCount (CI : Addr) : Sp := fun vs H Q E => ∃ (n : Int), vs = [.int n] ∧ ((1 ≤ n ∧ n ≤ 24) → ∀ H', Same H H' → Q .non H') ∧ (¬ (1 ≤ n ∧ n ≤ 24) → RaisesI CI .non H E)
theorem ok_CheckCount (D : Df K mg "check_count" sCheckCount ["count"]) (T : NTx K mg CN mc mu) (MInvalidNet : Mke P w K mg base 1 "InvalidNet" CI (spErr1 CI "link")) : CalX P w K mg base 3 "check_count" (spCheckCount CI) := by
  obtain ⟨f, fd, F, hm, hb⟩ := D
  refine ⟨f, fd, ["count"], F.okX scCheckCount (fun vs H Q E h => ?_) (fun cdv A outer s H vs Q E hr h => ?_), hm, F.kp, hb⟩
  · obtain ⟨n, rfl, kG, kB⟩ := h
    rfl
  · obtain ⟨n, rfl, kG, kB⟩ := h
    refine ⟨_, (pss_one (ps_if (pt_cmpR opNotInRng (pv 0) (pe_callTy cr_range2 (by rfl) T.range (by decide +kernel) (pa_cons pe_int (pa_cons (pe_op op_add (ClX.pe_cval (pe_glob (v := .ref CN) rfl T.mgNet rfl)) pe_int) pa_nil))) (by rfl))
        (pss_one (ps_raise rfl (takes_of rfl rfl rfl rfl) (pmk1 MInvalidNet hr (by decide) (by rfl) (pa_cons pe_non pa_nil) (by fail "mono"))))
        pss_nil)), ?_⟩
    -- if count not in range(1, Net.MOST + 1):
    refine ⟨_, rfl, _, _, _, _, rfl, T.rd, T.most, _, _, rfl, rfl, _, _, rfl, fun p1 np1 => ⟨_, _, _, _, rfl, rfl, upd_same, _, rfl, ?_⟩⟩
    refine nifD (fun g2 => ?_) (fun g2 => ?_)
    · -- raise InvalidNet(None)
      refine ⟨_, rfl, fun d3 nd3 => ?_⟩
      have d2 : d3 ≠ p1 := fun z => by rw [z, upd_same] at nd3; cases nd3
      exact kB (by omega) d3 _ (by rw [upd_ne d2] at nd3; exact nd3) (by fail "sm") upd_same
    · exact kG (by omega) _ (by fail "sm")
abbrev sCheckPair : Stmt := top 8
theorem scCheckPair : FnScope ["count", "link", "source", "reader"] ["count", "link"] (defScope sCheckPair) := ⟨rfl, rfl, rfl, by decide +kernel, rfl, by decide +kernel, by decide +kernel⟩
def spCheckPair (CI : Addr) : Sp := fun vs H Q E => ∃ (n : Nat) (t : Addr) (x y : Int), vs = [.int (n : Int), .ref t] ∧ H t = some (.tup [.int x, .int y]) ∧ (Good n (x, y) → ∀ H', Same H H' → Q .non H') ∧ (¬ Good n (x, y) → RaisesI CI (.ref t) H E)
theorem fresh2 {H : Hp} {p d : Addr} {o : HO} (h : upd H p o d = none) : H d = none ∧ d ≠ p := by
  have e : d ≠ p := fun z => by rw [z, upd_same] at h; cases h
  rw [upd_ne e] at h
  exact ⟨h, e⟩
theorem ok_CheckPair (D : Df K mg "check_pair" sCheckPair ["count", "link"]) (T : NTx K mg CN mc mu) (MInvalidNet : Mke P w K mg base 1 "InvalidNet" CI (spErr1 CI "link")) : CalX P w K mg base 3 "check_pair" (spCheckPair CI) := by
  obtain ⟨f, fd, F, hm, hb⟩ := D
  refine ⟨f, fd, ["count", "link"], F.okX scCheckPair (fun vs H Q E h => ?_) (fun cdv A outer s H vs Q E hr h => ?_), hm, F.kp, hb⟩
  · obtain ⟨n, t, x, y, rfl, ht, kG, kB⟩ := h
    rfl
  · obtain ⟨n, t, x, y, rfl, ht, kG, kB⟩ := h
    refine ⟨_, (pss_cons (ps_asg (pv 1) (pg_tup rfl (pgs_cons (pg_name (i := 2) scCheckPair.nd rfl (Or.inl rfl)) (pgs_cons (pg_name (i := 3) scCheckPair.nd rfl (Or.inl rfl)) pgs_nil))))
      (pss_one (ps_if (PW.pt (pw_or (pt_cmpR op_eq (pv 2) (pv 3) (nomark _)) (pw_or (pt_cmpR opNotInRng (pv 2) (pe_callTy crRange1 (by rfl) T.range (by decide +kernel) (pa_cons (pv 0) pa_nil)) (by rfl)) (pw_or1 (pt_cmpR opNotInRng (pv 3) (pe_callTy crRange1 (by rfl) T.range (by decide +kernel) (pa_cons (pv 0) pa_nil)) (by rfl))))))
        (pss_one (ps_raise rfl (takes_of rfl rfl rfl rfl) (pmk1 MInvalidNet hr (by decide) (by rfl) (pa_cons (pv 1) pa_nil) (by fail "mono"))))
        pss_nil))), ?_⟩
    -- source, reader = link
    refine ⟨_, rfl, _, _, rfl, SqT.of (by fail "hp"), rfl, _, _, rfl, _, _, rfl, rfl, ?_⟩
    -- if source == reader or source not in range(count) or reader not in range(count):
    refine ⟨_, rfl, _, rfl, rfl, _, rfl, ?_⟩
    refine ifEqI (fun g1 => ?_) (fun g1 => ?_)
    · fail "ite"
      -- raise InvalidNet(link)
      refine ⟨_, rfl, _, rfl, fun d2 nd2 => ?_⟩
      exact kB (fun z => z.2.2.2.2 g1) _ _ nd2 (by fail "sm") upd_same
    · refine ⟨_, rfl, _, rfl, _, rfl, fun p3 np3 => ⟨_, _, _, _, rfl, rfl, upd_same, _, rfl, ?_⟩⟩
      refine nifD (fun g4 => ?_) (fun g4 => ?_)
      · fail "ite"
        -- raise InvalidNet(link)
        refine ⟨_, rfl, _, rfl, fun d5 nd5 => ?_⟩
        obtain ⟨f1, f2⟩ := fresh2 nd5
        exact kB (fun z => by obtain ⟨z1, z2, _⟩ := z; dsimp only at *; omega) _ _ f1 (by fail "sm") upd_same
      · refine ⟨_, rfl, _, rfl, _, rfl, fun p6 np6 => ⟨_, _, _, _, rfl, rfl, upd_same, _, rfl, ?_⟩⟩
        refine nifD (fun g7 => ?_) (fun g7 => ?_)
        · -- raise InvalidNet(link)
          refine ⟨_, rfl, _, rfl, fun d8 nd8 => ?_⟩
          obtain ⟨f1, f2⟩ := fresh2 nd8
          obtain ⟨f3, f4⟩ := fresh2 f1
          exact kB (fun z => by obtain ⟨z1, z2, z3, z4, _⟩ := z; dsimp only at *; omega) _ _ f3 (by fail "sm") upd_same
        · exact kG ⟨by dsimp only; omega, by dsimp only; omega, by dsimp only; omega, by dsimp only; omega, g1⟩ _ (by fail "sm")
abbrev sCheckReplica : Stmt := top 9
theorem scCheckReplica : FnScope ["net", "replica"] ["net", "replica"] (defScope sCheckReplica) := ⟨rfl, rfl, rfl, by decide +kernel, rfl, by decide +kernel, by decide +kernel⟩
def RaisesU (CU : Addr) (r : Int) (H : Hp) (E : XK) : Prop := ∀ (d : Addr) (H' : Hp), H d = none → Same H H' → H' d = some (.xd [("replica", .int r)]) → E (.ref CU) (some d) H'
def spCheckReplica (CN CU : Addr) : Sp := fun vs H Q E => ∃ (a : Addr) (n : Nat) (R : Rel) (r : Int), vs = [.ref a, .int r] ∧ NetAt CN H a n R ∧ ((0 ≤ r ∧ r < n) → ∀ H', Same H H' → Q .non H') ∧ (¬ (0 ≤ r ∧ r < n) → RaisesU CU r H E)
theorem ok_CheckReplica (D : Df K mg "check_replica" sCheckReplica ["net", "replica"]) (T : NTx K mg CN mc mu) (MUnknownReplica : Mke P w K mg base 1 "UnknownReplica" CU (spErr1 CU "replica")) : CalX P w K mg base 3 "check_replica" (spCheckReplica CN CU) := by
  obtain ⟨f, fd, F, hm, hb⟩ := D
  refine ⟨f, fd, ["net", "replica"], F.okX scCheckReplica (fun vs H Q E h => ?_) (fun cdv A outer s H vs Q E hr h => ?_), hm, F.kp, hb⟩
  · obtain ⟨a, n, R, r, rfl, na, kG, kB⟩ := h
    rfl
  · obtain ⟨a, n, R, r, rfl, na, kG, kB⟩ := h
    obtain ⟨⟨dx, d, ha, hd⟩, _, _, _⟩ := na
    refine ⟨_, (pss_one (ps_if (pt_cmpR opNotInRng (pv 1) (pe_callTy crRange1 (by rfl) T.range (by decide +kernel) (pa_cons (pe_fld (pv 0) (by rfl)) pa_nil)) (by rfl))
        (pss_one (ps_raise rfl (takes_of rfl rfl rfl rfl) (pmk1 MUnknownReplica hr (by decide) (by rfl) (pa_cons (pv 1) pa_nil) (by fail "mono"))))
        pss_nil)), ?_⟩
    -- if replica not in range(net.count):
    refine ⟨_, rfl, _, rfl, _, _, _, _, _, rfl, (by fail "hp"), T.cl, T.n_count, (by fail "lk"), _, rfl, fun p1 np1 => ⟨_, _, _, _, rfl, rfl, upd_same, _, rfl, ?_⟩⟩
    refine nifD (fun g2 => ?_) (fun g2 => ?_)
    · -- raise UnknownReplica(replica)
      refine ⟨_, rfl, _, rfl, fun d3 nd3 => ?_⟩
      obtain ⟨f1, f2⟩ := fresh2 nd3
      exact kB (by omega) _ _ f1 (by fail "sm") upd_same
    · exact kG (by omega) _ (by fail "sm")
end
end K00

end
section
set_option Elab.async false
set_option linter.all false
set_option maxRecDepth 100000
set_option maxHeartbeats 800000
namespace K00
open PySem L2 Kit KR KX
local macro_rules | `(tactic| fail "om") => `(tactic| first | omega | (simp only [List.length_map, List.length_append, List.length_cons, List.length_nil]; omega) | (simp only [List.length_map, List.length_append, List.length_cons, List.length_nil] at *; omega) | assumption | decide | fail "no om")
local macro_rules | `(tactic| fail "nz") => `(tactic| first | decide | omega | fail "no nz")
local macro_rules | `(tactic| fail "dv") => `(tactic| exact ⟨by first | decide | omega, by first | decide | omega⟩)
local macro_rules | `(tactic| fail "mul") => `(tactic| first | exact .inr ⟨by decide, by decide⟩ | exact .inl ⟨by decide, by decide⟩ | exact mulF (by decide) (by decide) | exact .inl ⟨by omega, by omega⟩ | exact .inr ⟨by omega, by omega⟩ | fail "no mul")
local macro_rules | `(tactic| fail "sz") => `(tactic| first | assumption | exact Nat.zero_le _ | (show 1 ≤ sizeLine; decide) | (show 2 ≤ sizeLine; decide) | (show 3 ≤ sizeLine; decide) | (show 4 ≤ sizeLine; decide) | (show 5 ≤ sizeLine; decide) | exact Evl.sz_of (by omega) | (refine Evl.sz_of ?_; simp only [List.length_append, List.length_map, List.length_cons, List.length_nil]; omega) | fail "no sz")
local macro_rules | `(tactic| fail "szl") => `(tactic| first | exact Evl.sz_lt (by omega) | (refine Evl.sz_lt ?_; simp only [List.length_append, List.length_map, List.length_cons, List.length_nil]; omega) | fail "no szl")
local macro_rules | `(tactic| fail "ix") => `(tactic| first | assumption | exact ix0 | exact ix1 | exact ix2 | exact at_ref (by assumption) (by omega) | exact at_int (by assumption) (by omega) | exact at_drawn (by assumption) (by assumption) | rfl | fail "no ix")
local macro_rules | `(tactic| fail "ixn") => `(tactic| first | rfl | assumption | fail "no ixn")
local macro_rules | `(tactic| fail "nb") => `(tactic| first | assumption | exact nb_tup | exact nb_nil | exact nb_ints | exact nb_refs | exact nb_ins | exact nb_dT | exact nb_frz | fail "no nb")
local macro_rules | `(tactic| fail "ne") => `(tactic| first | assumption | exact Ne.symm (by assumption) | exact ne_of_none (by assumption) (by assumption) | exact (ne_of_none (by assumption) (by assumption)).symm | exact ne_of (by assumption) (by assumption) (by intro q; cases q) | exact ne_of (by assumption) (by assumption) (by simp) | fail "no ne")
local macro_rules | `(tactic| fail "hp") => `(tactic| first | assumption | exact upd_same | (refine' Tk.get (by assumption) ?k1; (case k1 => fail "tk")) | (with_reducible refine' upd_new ?h1 ?n1; (case n1 => assumption); (case h1 => fail "hp")) | (refine' Same.get (by assumption) ?h1; (case h1 => fail "hp")) | (refine' Kp.get (by assumption) (by fail "bx") ?h1 ?d1; (case h1 => fail "hp"); (case d1 => fail "nb")) | (with_reducible refine' upd_oth ?h1 ?n1; (case n1 => fail "ne"); (case h1 => fail "hp")) | (with_reducible refine' upd_oth ?h1 ?n1; (case h1 => fail "hp"); (case n1 => fail "ne")) | fail "no hp")
local macro_rules | `(tactic| fail "bx") => `(tactic| first | assumption | (with_reducible refine' BoxOk.new ?h1 ?n1; (case n1 => assumption); (case h1 => fail "bx")) | (refine' BoxOk.same (by assumption) ?h1; (case h1 => fail "bx")) | (with_reducible refine' BoxOk.mut ?h1 ?h2 ?n1; (case n1 => assumption); (case h2 => assumption); (case h1 => fail "bx")) | fail "no bx")
local macro_rules | `(tactic| fail "kp") => `(tactic| first | assumption | exact Kp.refl | (with_reducible refine' Kp.at ?h1; (case h1 => fail "kp")) | (with_reducible refine' Kp.new ?h1 ?n1; (case n1 => assumption); (case h1 => fail "kp")) | (with_reducible refine' Kp.mut ?h1 ?n1; (case n1 => assumption); (case h1 => fail "kp")) | (refine' Kp.tr (by assumption) ?h1; (case h1 => fail "kp")) | (refine' Kp.tr (Kp.of (by assumption)) ?h1; (case h1 => fail "kp")) | fail "no kp")
local macro_rules | `(tactic| fail "ite") => `(tactic| first | refine iteT ?_ | refine iteF ?_)
local macro_rules | `(tactic| fail "tt") => `(tactic| first | rfl | exact decide_eq_true (by first | rfl | omega | assumption) | exact decide_eq_true (congrArg V.int (by first | rfl | omega)) | fail "no tt")
local macro_rules | `(tactic| fail "cv") => `(tactic| first | exact .ty _ | exact .own _)
local macro_rules | `(tactic| fail "tx") => `(tactic| first | exact .base (.int _) | exact .base (.bl _) | exact .base .non | exact .base (.lst (by fail "hp")) | exact .base (.tup (by fail "hp")) | fail "no tx")
local macro_rules | `(tactic| fail "dead") => `(tactic| (exfalso; first | omega | contradiction | simp_all))
local macro_rules | `(tactic| fail "dp") => `(tactic| first | exact .tup (SqT.of (by fail "hp")) (.cons (.int _) (.cons (.int _) .nil)) | exact .lst (SqL.of (by fail "hp")) (dpPrs (by fail "pr")) | exact .lst (SqL.of (by fail "hp")) (dpInts _) | exact .lst (SqL.of (by fail "hp")) .nil | fail "no dp")
local macro_rules | `(tactic| fail "shp") => `(tactic| first | assumption | exact prD_shaped _ | exact PySem.W.ke_shaped_ints _ | rfl | fail "no shp")
local macro_rules | `(tactic| fail "pr") => `(tactic| first | assumption | exact PrT.mono (by assumption) (by fail "tk") | fail "no pr")
local macro_rules | `(tactic| fail "tk") => `(tactic| first | assumption | exact Tk.refl | (with_reducible refine' Tk.new ?h1 ?n1; (case n1 => assumption); (case h1 => fail "tk")) | (refine' Tk.tr (Kp.tk (by assumption) (by fail "bx")) ?h1; (case h1 => fail "tk")) | (refine' Tk.tr (Same.tk (by assumption)) ?h1; (case h1 => fail "tk")) | (with_reducible refine' Tk.lst ?h1 ?n1; (case n1 => fail "hp"); (case h1 => fail "tk")) | fail "no tk")
local macro_rules | `(tactic| fail "lk") => `(tactic| first | exact netF_count _ _ | exact netF_links _ _ | exact netF_no _ _ (by decide +kernel) (by decide +kernel) | fail "no lk")
local macro_rules | `(tactic| fail "kt") => `(tactic| first | exact upd_same | assumption | fail "hp")
local macro_rules | `(tactic| fail "na") => `(tactic| first | assumption | (with_reducible refine' NetAt.new ?h1 ?n1; (case n1 => assumption); (case h1 => fail "na")) | (refine' NetAt.same (by assumption) ?h1; (case h1 => fail "na")) | (refine' NetAt.kp (by assumption) (by fail "bx") ?h1; (case h1 => fail "na")) | (with_reducible refine' NetAt.lst ?h1 ?n1; (case n1 => fail "hp"); (case h1 => fail "na")) | fail "no na")
local macro_rules | `(tactic| fail "mono") => `(tactic| first | exact fun _ _ _ _ h q => h _ _ q | exact fun _ _ _ _ h q => (let ⟨v, e, z⟩ := q; ⟨v, e, h _ _ z⟩) | exact fun _ _ _ _ h q => (let ⟨v, e, u, f, z⟩ := q; ⟨v, e, u, f, h _ _ z⟩) | fail "no mono")
local macro_rules | `(tactic| fail "sm") => `(tactic| first | assumption | exact Same.refl _ | (with_reducible refine' Same.new ?h1 ?n1; (case n1 => assumption); (case h1 => fail "sm")) | (refine' Same.tr (by assumption) ?h1; (case h1 => fail "sm")) | fail "no sm")
local macro_rules | `(tactic| fail "fld") => `(tactic| first | (show 0 < 1000; decide) | (show 1 < 1000; decide) | fail "no fld")

section
variable {P : Program} {w : World} {K : PySem.W.Frag} {mg : Str → Option Value} {base : Heap} {CN CI CU CL CS : Addr} {mc mu : Value}

theorem hu1 {k : Nat} {A : Around} (r : Room k A) : A.units + 1 < cLine := by
  have := r.units
  omega
theorem pe_fldB {X : Cx} {K : PySem.W.Frag} {e : Expr} {f : Str} {pos : Pos} {ta : TE} (he : PE X e ta) (hb : attributeBase e f X.env (eval e X.env) = eval e X.env) (hK : X.K = K) : PE X (.Attribute e f pos) (tFld K ta f) := by
  subst hK
  exact pe_fld he hb
theorem free_back {H H1 : Hp} {d : Addr} (h : H1 d = none) (s : Same H H1) : H d = none := by
  cases e : H d with
  | none => rfl
  | some o => rw [s d o e] at h; cases h
theorem RaisesI.back {CI : Addr} {v : V} {H H1 : Hp} {E : XK} (k : RaisesI CI v H E) (s : Same H H1) : RaisesI CI v H1 E := fun d H' nd sm xd => k d H' (free_back nd s) (s.trans sm) xd
theorem RaisesU.back {CU : Addr} {r : Int} {H H1 : Hp} {E : XK} (k : RaisesU CU r H E) (s : Same H H1) : RaisesU CU r H1 E := fun d H' nd sm xd => k d H' (free_back nd s) (s.trans sm) xd
def RaisesL (CL : Addr) (s r : Int) (H : Hp) (E : XK) : Prop := ∀ (d : Addr) (H' : Hp), H d = none → Same H H' → H' d = some (.xd [("reader", .int r), ("source", .int s)]) → E (.ref CL) (some d) H'
theorem RaisesL.back {CL : Addr} {x y : Int} {H H1 : Hp} {E : XK} (k : RaisesL CL x y H E) (s : Same H H1) : RaisesL CL x y H1 E := fun d H' nd sm xd => k d H' (free_back nd s) (s.trans sm) xd
theorem has_key (n : Nat) (R : Rel) (s r : Int) : (valV (linkKV n R) [.inl s, .inl r]).isSome = decide ((s, r) ∈ ties n R) := find_key _ _ _
theorem has_nat {n : Nat} {R : Rel} {x y : Nat} (hx : x < n) (hy : y < n) : ((((x : Nat) : Int), ((y : Nat) : Int)) ∈ ties n R) ↔ R x y = true := by
  rw [mem_ties]
  constructor
  · rintro ⟨a, b, _, _, r, e⟩
    have e1 : (x : Int) = (a : Int) := congrArg Prod.fst e
    have e2 : (y : Int) = (b : Int) := congrArg Prod.snd e
    obtain rfl : x = a := by omega
    obtain rfl : y = b := by omega
    exact r
  · intro r
    exact ⟨x, y, hx, hy, r, rfl⟩
theorem has_natB (n : Nat) (R : Rel) {x y : Nat} (hx : x < n) (hy : y < n) : decide ((((x : Nat) : Int), ((y : Nat) : Int)) ∈ ties n R) = R x y := by
  cases e : R x y with
  | true => exact decide_eq_true ((has_nat hx hy).mpr e)
  | false => exact decide_eq_false fun z => by rw [(has_nat hx hy).mp z] at e; cases e
/-- the sources of y below j; the readers of x below j -/
def colI (R : Rel) (y j : Nat) : List Int := ((List.range j).filter fun x => R x y).map fun (x : Nat) => (x : Int)
def rowI (R : Rel) (x j : Nat) : List Int := ((List.range j).filter fun y => R x y).map fun (y : Nat) => (y : Int)
theorem colI_len (R : Rel) (y j : Nat) : (colI R y j).length ≤ j := by
  unfold colI
  rw [List.length_map]
  have h := List.length_filter_le (fun x => R x y) (List.range j)
  rw [List.length_range] at h
  exact h
theorem colI_yes {R : Rel} {y j : Nat} (h : R j y = true) : colI R y (j + 1) = colI R y j ++ [(j : Int)] := by
  unfold colI
  rw [List.range_succ, List.filter_append, List.map_append]
  simp [List.filter, h]
theorem colI_no {R : Rel} {y j : Nat} (h : R j y = false) : colI R y (j + 1) = colI R y j := by
  unfold colI
  rw [List.range_succ, List.filter_append, List.map_append]
  simp [List.filter, h]
theorem rowI_col (R : Rel) (x j : Nat) : rowI R x j = colI (fun a b => R b a) x j := rfl
local macro_rules | `(tactic| fail "bad") => `(tactic| first | exact fun z => RaisesI.back (kB z) (by fail "sm") | exact fun z => RaisesU.back (kB z) (by fail "sm") | exact fun z => RaisesL.back (kB z) (by fail "sm") | exact fun z => RaisesI.back (kC z) (by fail "sm") | fail "no bad")

abbrev sNetHasLink : Stmt := inClass (top 6) 10
theorem scNetHasLink : FnScope ["self", "source", "reader"] ["self", "source", "reader"] (defScope sNetHasLink) := ⟨rfl, rfl, rfl, by decide +kernel, rfl, by decide +kernel, by decide +kernel⟩
def spHas (CN : Addr) : Sp := fun vs H Q _ => ∃ (a : Addr) (n : Nat) (R : Rel) (s r : Int), vs = [.ref a, .int s, .int r] ∧ NetAt CN H a n R ∧ ∀ H', Same H H' → Q (.bl (decide ((s, r) ∈ ties n R))) H'
theorem ok_NetHasLink {f : Addr} {fd : FuncData} (F : L2.Fun K "has_link" "Net.has_link" sNetHasLink f fd) (T : NTx K mg CN mc mu) : FnOk P w K mg base CX0 1 f fd ["self", "source", "reader"] (spHas CN) := by
  refine F.ok scNetHasLink (fun vs H Q E h => ?_) (fun cdv A outer s H vs Q E hr h => ?_)
  · obtain ⟨a, n, R, s, r, rfl, na, kQ⟩ := h
    rfl
  · obtain ⟨a, n, R, s, r, rfl, na, kQ⟩ := h
    have na2 := na
    obtain ⟨⟨dx, d, ha, hd⟩, b1, b2, ir⟩ := na2
    refine ⟨_, (pss_one (ps_ret (pe_cmp (pc_din (hu1 hr) (pe_tup (pa_cons (pv 1) (pa_cons (pv 2) pa_nil))) (pe_fld (pv 0) (by rfl))) rfl))), ?_⟩
    -- return (source, reader) in self._links
    refine ⟨_, rfl, _, rfl, (by fail "sz"), fun p1 np1 => ⟨_, rfl, _, _, _, _, _, rfl, (by fail "hp"), T.cl, T.n__links, (by fail "lk"), _, _, rfl, DGet.t (k := [.inl _, .inl _]) (by fail "hp") (by fail "kt"), ?_⟩⟩
    rw [has_key]
    exact kQ _ (by fail "sm")
abbrev sCheckLink : Stmt := top 10
theorem scCheckLink : FnScope ["net", "source", "reader"] ["net", "source", "reader"] (defScope sCheckLink) := ⟨rfl, rfl, rfl, by decide +kernel, rfl, by decide +kernel, by decide +kernel⟩
def spCheckLink (CN CL : Addr) : Sp := fun vs H Q E => ∃ (a : Addr) (n : Nat) (R : Rel) (s r : Int), vs = [.ref a, .int s, .int r] ∧ NetAt CN H a n R ∧ ((s, r) ∈ ties n R → ∀ H', Same H H' → Q .non H') ∧ (¬ (s, r) ∈ ties n R → RaisesL CL s r H E)
theorem ok_CheckLink (D : Df K mg "check_link" sCheckLink ["net", "source", "reader"]) (T : NTx K mg CN mc mu) (MNotLinked : Mke P w K mg base 1 "NotLinked" CL (spErr2 CL "source" "reader")) (Nhas_link : C8.Met P w K mg base 1 CN "has_link" (spHas CN) []) : CalX P w K mg base 3 "check_link" (spCheckLink CN CL) := by
  obtain ⟨f, fd, F, hm, hb⟩ := D
  refine ⟨f, fd, ["net", "source", "reader"], F.okX scCheckLink (fun vs H Q E h => ?_) (fun cdv A outer s H vs Q E hr h => ?_), hm, F.kp, hb⟩
  · obtain ⟨a, n, R, s, r, rfl, na, kG, kB⟩ := h
    rfl
  · obtain ⟨a, n, R, s, r, rfl, na, kG, kB⟩ := h
    have na2 := na
    obtain ⟨⟨dx, d, ha, hd⟩, b1, b2, ir⟩ := na2
    refine ⟨_, (pss_one (ps_if (pt_not (pt_val (C8.pe_mt Nhas_link hr (by decide) (pv 0) (pa_cons (pv 1) (pa_cons (pv 2) pa_nil)))))
        (pss_one (ps_raise rfl (takes_of rfl rfl rfl rfl) (pmk2 MNotLinked hr (by decide) (by rfl) (pa_cons (pv 1) (pa_cons (pv 2) pa_nil)) (by fail "mono"))))
        pss_nil)), ?_⟩
    -- if not net.has_link(source, reader):
    refine ⟨_, rfl, _, _, _, rfl, (by fail "hp"), (by fail "lk"), _, rfl, _, rfl, _, _, _, _, _, rfl, (by fail "na"), fun H1 sm1 => ⟨_, rfl, ?_⟩⟩
    refine nifB (fun g2 => ?_) (fun g2 => ?_)
    · -- raise NotLinked(source, reader)
      refine ⟨_, rfl, _, rfl, _, _, rfl, fun d3 nd3 => ?_⟩
      exact kB (of_decide_eq_false g2) _ _ (free_back nd3 sm1) (by fail "sm") upd_same
    · exact kG (of_decide_eq_true g2) _ (by fail "sm")
abbrev sNetLinks : Stmt := inClass (top 6) 7
theorem scNetLinks : FnScope ["self"] ["self"] (defScope sNetLinks) := ⟨rfl, rfl, rfl, by decide +kernel, rfl, by decide +kernel, by decide +kernel⟩
def spLinks (CN : Addr) : Sp := fun vs H Q _ => ∃ (a : Addr) (n : Nat) (R : Rel), vs = [.ref a] ∧ NetAt CN H a n R ∧ ∀ (p : Addr) (as : List Addr) (H' : Hp), H p = none → Same H H' → H' p = some (.lst (as.map V.ref)) → PrT H' as (ties n R) → Q (.ref p) H'
theorem ok_NetLinks {f : Addr} {fd : FuncData} (F : L2.Fun K "links" "Net.links" sNetLinks f fd) (T : NTx K mg CN mc mu) : FnOk P w K mg base CX0 1 f fd ["self"] (spLinks CN) := by
  refine F.ok scNetLinks (fun vs H Q E h => ?_) (fun cdv A outer s H vs Q E hr h => ?_)
  · obtain ⟨a, n, R, rfl, na, kQ⟩ := h
    rfl
  · obtain ⟨a, n, R, rfl, na, kQ⟩ := h
    have na2 := na
    obtain ⟨⟨dx, d, ha, hd⟩, b1, b2, ir⟩ := na2
    refine ⟨_, (pss_one (ps_ret (pe_callTy (call_list_dT rfl) (by rfl) T.list (by decide +kernel) (pa_cons (pe_fld (pv 0) (by rfl)) pa_nil)))), ?_⟩
    -- return list(self._links)
    refine ⟨_, rfl, _, _, _, _, _, rfl, (by fail "hp"), T.cl, T.n__links, (by fail "lk"), _, _, rfl, .inl (by fail "hp"), fun p1 ks1 np1 ik1 => ?_⟩
    exact kQ _ ks1 _ np1 (by fail "sm") upd_same (PrT.mono (prT_keys ik1) (by fail "tk"))
abbrev sNetSources : Stmt := inClass (top 6) 8
theorem scNetSources : FnScope ["self", "reader", "source"] ["self", "reader"] (defScope sNetSources) := ⟨rfl, rfl, rfl, by decide +kernel, rfl, by decide +kernel, by decide +kernel⟩
def spSources (CN CU : Addr) : Sp := fun vs H Q E => ∃ (a : Addr) (n : Nat) (R : Rel) (r : Int), vs = [.ref a, .int r] ∧ NetAt CN H a n R ∧ ((0 ≤ r ∧ r < n) → ∀ (p : Addr) (H' : Hp), H p = none → Same H H' → H' p = some (.lst ((colI R r.toNat n).map V.int)) → Q (.ref p) H') ∧ (¬ (0 ≤ r ∧ r < n) → RaisesU CU r H E)
theorem ok_NetSources {f : Addr} {fd : FuncData} (F : L2.Fun K "sources" "Net.sources" sNetSources f fd) (T : NTx K mg CN mc mu) (GCheckReplica : CalX P w K mg base 3 "check_replica" (spCheckReplica CN CU)) : FnOk P w K mg base (L2.CX P w) 5 f fd ["self", "reader"] (spSources CN CU) := by
  refine F.okX scNetSources (fun vs H Q E h => ?_) (fun cdv A outer s H vs Q E hr h => ?_)
  · obtain ⟨a, n, R, r, rfl, na, kG, kB⟩ := h
    rfl
  · obtain ⟨a, n, R, r, rfl, na, kG, kB⟩ := h
    have na2 := na
    obtain ⟨⟨dx, d, ha, hd⟩, b1, b2, ir⟩ := na2
    refine ⟨_, (pss_cons (ps_expr (pe_cX GCheckReplica hr (by decide) (by rfl) (passes_call (takes_of rfl rfl rfl rfl) fun _ _ _ _ h => h) (pa_cons (pv 0) (pa_cons (pv 1) pa_nil))))
      (pss_one (ps_ret (pe_lc (own := [("source", 2)]) (g := gName 2) rfl scNetSources.nd (pi_range1 rfl T.range (pa_cons (pe_fld (pv 0) (by rfl)) pa_nil)) (blkOk_by (N := ["self", "reader", "source"]) (sc := defScope sNetSources) (by decide +kernel)) (fun _ _ _ _ _ => (pg_name (i := 2) scNetSources.nd rfl (Or.inl rfl))) (fun _ _ _ _ _ => (pts_one (pt_cmp (pc_din (hu1 hr) (pe_tup (pa_cons (pv 2) (pa_cons (pv 1) pa_nil))) (pe_fldB (K := K) (pv 0) (by rfl) (by rfl))) rfl))) (fun _ _ _ _ _ => (pv 2)))))), ?_⟩
    -- check_replica(self, reader)
    refine ⟨_, rfl, _, rfl, _, _, _, _, rfl, (by fail "na"), fun gd1 H1 sm1 => ?_, fun z => RaisesU.back (kB z) (by fail "sm")⟩
    obtain ⟨y, rfl, hy⟩ := toN gd1.1 gd1.2
    rw [Int.toNat_natCast] at kG
    -- return [source for source in range(self.count) if (source, reader) in self._links]
    refine ⟨_, rfl, _, _, _, _, _, rfl, (by fail "hp"), T.cl, T.n_count, (by fail "lk"), _, rfl, (by fail "om"), (by fail "om"), fun D1 nD1 => lc_range (lo := 0) (n := ((n : Int)).toNat) (fun i H' => Same H1 H' ∧ H' D1 = some (.lst ((colI R y i).map V.int))) ⟨by fail "sm", upd_same⟩ (fun i H' hi z => by
      obtain ⟨sm, hl⟩ := z
      have hi2 : i < n := by omega
      have hd1 := sm _ _ (sm1 _ _ hd)
      have ha1 := sm _ _ (sm1 _ _ ha)
      have lb : (colI R y i).length ≤ i := colI_len R y i
      refine ⟨rfl, _, rfl, _, rfl, (by fail "sz"), fun p1 np1 => ⟨_, rfl, _, _, _, _, _, rfl, (by fail "hp"), T.cl, T.n__links, (by fail "lk"), _, _, rfl, DGet.t (k := [.inl _, .inl _]) (by fail "hp") (by fail "kt"), _, rfl, ?_⟩⟩
      rw [has_key, Int.zero_add, has_natB n R hi2 hy]
      refine ifB (fun g => ?_) fun g => ?_
      · refine ⟨_, rfl, _, (by fail "hp"), (by fail "szl"), Same.mut (by fail "sm") nD1, ?_⟩
        rw [upd_same, colI_yes g, List.map_append]
        rfl
      · refine ⟨by fail "sm", ?_⟩
        rw [colI_no g]
        fail "hp") fun H' z => by
      obtain ⟨sm, hl⟩ := z
      rw [Int.toNat_natCast] at hl
      exact kG gd1 _ _ (free_back nD1 sm1) (sm1.trans sm) hl⟩
    skip
abbrev sNetReaders : Stmt := inClass (top 6) 9
theorem scNetReaders : FnScope ["self", "source", "reader"] ["self", "source"] (defScope sNetReaders) := ⟨rfl, rfl, rfl, by decide +kernel, rfl, by decide +kernel, by decide +kernel⟩
def spReaders (CN CU : Addr) : Sp := fun vs H Q E => ∃ (a : Addr) (n : Nat) (R : Rel) (r : Int), vs = [.ref a, .int r] ∧ NetAt CN H a n R ∧ ((0 ≤ r ∧ r < n) → ∀ (p : Addr) (H' : Hp), H p = none → Same H H' → H' p = some (.lst ((rowI R r.toNat n).map V.int)) → Q (.ref p) H') ∧ (¬ (0 ≤ r ∧ r < n) → RaisesU CU r H E)
theorem ok_NetReaders {f : Addr} {fd : FuncData} (F : L2.Fun K "readers" "Net.readers" sNetReaders f fd) (T : NTx K mg CN mc mu) (GCheckReplica : CalX P w K mg base 3 "check_replica" (spCheckReplica CN CU)) : FnOk P w K mg base (L2.CX P w) 5 f fd ["self", "source"] (spReaders CN CU) := by
  refine F.okX scNetReaders (fun vs H Q E h => ?_) (fun cdv A outer s H vs Q E hr h => ?_)
  · obtain ⟨a, n, R, r, rfl, na, kG, kB⟩ := h
    rfl
  · obtain ⟨a, n, R, r, rfl, na, kG, kB⟩ := h
    have na2 := na
    obtain ⟨⟨dx, d, ha, hd⟩, b1, b2, ir⟩ := na2
    refine ⟨_, (pss_cons (ps_expr (pe_cX GCheckReplica hr (by decide) (by rfl) (passes_call (takes_of rfl rfl rfl rfl) fun _ _ _ _ h => h) (pa_cons (pv 0) (pa_cons (pv 1) pa_nil))))
      (pss_one (ps_ret (pe_lc (own := [("reader", 2)]) (g := gName 2) rfl scNetReaders.nd (pi_range1 rfl T.range (pa_cons (pe_fld (pv 0) (by rfl)) pa_nil)) (blkOk_by (N := ["self", "source", "reader"]) (sc := defScope sNetReaders) (by decide +kernel)) (fun _ _ _ _ _ => (pg_name (i := 2) scNetReaders.nd rfl (Or.inl rfl))) (fun _ _ _ _ _ => (pts_one (pt_cmp (pc_din (hu1 hr) (pe_tup (pa_cons (pv 1) (pa_cons (pv 2) pa_nil))) (pe_fldB (K := K) (pv 0) (by rfl) (by rfl))) rfl))) (fun _ _ _ _ _ => (pv 2)))))), ?_⟩
    -- check_replica(self, source)
    refine ⟨_, rfl, _, rfl, _, _, _, _, rfl, (by fail "na"), fun gd1 H1 sm1 => ?_, fun z => RaisesU.back (kB z) (by fail "sm")⟩
    obtain ⟨y, rfl, hy⟩ := toN gd1.1 gd1.2
    rw [Int.toNat_natCast] at kG
    -- return [reader for reader in range(self.count) if (source, reader) in self._links]
    refine ⟨_, rfl, _, _, _, _, _, rfl, (by fail "hp"), T.cl, T.n_count, (by fail "lk"), _, rfl, (by fail "om"), (by fail "om"), fun D1 nD1 => lc_range (lo := 0) (n := ((n : Int)).toNat) (fun i H' => Same H1 H' ∧ H' D1 = some (.lst ((rowI R y i).map V.int))) ⟨by fail "sm", upd_same⟩ (fun i H' hi z => by
      obtain ⟨sm, hl⟩ := z
      have hi2 : i < n := by omega
      have hd1 := sm _ _ (sm1 _ _ hd)
      have ha1 := sm _ _ (sm1 _ _ ha)
      have lb : (rowI R y i).length ≤ i := colI_len (fun a b => R b a) y i
      refine ⟨rfl, _, rfl, _, rfl, (by fail "sz"), fun p1 np1 => ⟨_, rfl, _, _, _, _, _, rfl, (by fail "hp"), T.cl, T.n__links, (by fail "lk"), _, _, rfl, DGet.t (k := [.inl _, .inl _]) (by fail "hp") (by fail "kt"), _, rfl, ?_⟩⟩
      rw [has_key, Int.zero_add, has_natB n R hy hi2]
      refine ifB (fun g => ?_) fun g => ?_
      · refine ⟨_, rfl, _, (by fail "hp"), (by fail "szl"), Same.mut (by fail "sm") nD1, ?_⟩
        rw [upd_same, rowI_col, rowI_col, colI_yes (R := fun a b => R b a) g, List.map_append]
        rfl
      · refine ⟨by fail "sm", ?_⟩
        rw [rowI_col, colI_no (R := fun a b => R b a) g, ← rowI_col]
        fail "hp") fun H' z => by
      obtain ⟨sm, hl⟩ := z
      rw [Int.toNat_natCast] at hl
      exact kG gd1 _ _ (free_back nD1 sm1) (sm1.trans sm) hl⟩
    skip
end
end K00

end
section
set_option Elab.async false
set_option linter.all false
set_option maxRecDepth 100000
set_option maxHeartbeats 800000
namespace K00
open PySem L2 Kit KR KX
local macro_rules | `(tactic| fail "om") => `(tactic| first | omega | (simp only [List.length_map, List.length_append, List.length_cons, List.length_nil]; omega) | (simp only [List.length_map, List.length_append, List.length_cons, List.length_nil] at *; omega) | assumption | decide | fail "no om")
local macro_rules | `(tactic| fail "nz") => `(tactic| first | decide | omega | fail "no nz")
local macro_rules | `(tactic| fail "dv") => `(tactic| exact ⟨by first | decide | omega, by first | decide | omega⟩)
local macro_rules | `(tactic| fail "mul") => `(tactic| first | exact .inr ⟨by decide, by decide⟩ | exact .inl ⟨by decide, by decide⟩ | exact mulF (by decide) (by decide) | exact .inl ⟨by omega, by omega⟩ | exact .inr ⟨by omega, by omega⟩ | fail "no mul")
local macro_rules | `(tactic| fail "sz") => `(tactic| first | assumption | exact Nat.zero_le _ | (show 1 ≤ sizeLine; decide) | (show 2 ≤ sizeLine; decide) | (show 3 ≤ sizeLine; decide) | (show 4 ≤ sizeLine; decide) | (show 5 ≤ sizeLine; decide) | exact Evl.sz_of (by omega) | (refine Evl.sz_of ?_; simp only [List.length_append, List.length_map, List.length_cons, List.length_nil]; omega) | fail "no sz")
local macro_rules | `(tactic| fail "szl") => `(tactic| first | exact Evl.sz_lt (by omega) | (refine Evl.sz_lt ?_; simp only [List.length_append, List.length_map, List.length_cons, List.length_nil]; omega) | fail "no szl")
local macro_rules | `(tactic| fail "ix") => `(tactic| first | assumption | exact ix0 | exact ix1 | exact ix2 | exact at_ref (by assumption) (by omega) | exact at_int (by assumption) (by omega) | exact at_drawn (by assumption) (by assumption) | rfl | fail "no ix")
local macro_rules | `(tactic| fail "ixn") => `(tactic| first | rfl | assumption | fail "no ixn")
local macro_rules | `(tactic| fail "nb") => `(tactic| first | assumption | exact nb_tup | exact nb_nil | exact nb_ints | exact nb_refs | exact nb_ins | exact nb_dT | exact nb_frz | fail "no nb")
local macro_rules | `(tactic| fail "ne") => `(tactic| first | assumption | exact Ne.symm (by assumption) | exact ne_of_none (by assumption) (by assumption) | exact (ne_of_none (by assumption) (by assumption)).symm | exact ne_of (by assumption) (by assumption) (by intro q; cases q) | exact ne_of (by assumption) (by assumption) (by simp) | fail "no ne")
local macro_rules | `(tactic| fail "hp") => `(tactic| first | assumption | exact upd_same | (refine' Tk.get (by assumption) ?k1; (case k1 => fail "tk")) | (with_reducible refine' upd_new ?h1 ?n1; (case n1 => assumption); (case h1 => fail "hp")) | (refine' Same.get (by assumption) ?h1; (case h1 => fail "hp")) | (refine' Kp.get (by assumption) (by fail "bx") ?h1 ?d1; (case h1 => fail "hp"); (case d1 => fail "nb")) | (with_reducible refine' upd_oth ?h1 ?n1; (case n1 => fail "ne"); (case h1 => fail "hp")) | (with_reducible refine' upd_oth ?h1 ?n1; (case h1 => fail "hp"); (case n1 => fail "ne")) | fail "no hp")
local macro_rules | `(tactic| fail "bx") => `(tactic| first | assumption | (with_reducible refine' BoxOk.new ?h1 ?n1; (case n1 => assumption); (case h1 => fail "bx")) | (refine' BoxOk.same (by assumption) ?h1; (case h1 => fail "bx")) | (with_reducible refine' BoxOk.mut ?h1 ?h2 ?n1; (case n1 => assumption); (case h2 => assumption); (case h1 => fail "bx")) | fail "no bx")
local macro_rules | `(tactic| fail "kp") => `(tactic| first | assumption | exact Kp.refl | (with_reducible refine' Kp.at ?h1; (case h1 => fail "kp")) | (with_reducible refine' Kp.new ?h1 ?n1; (case n1 => assumption); (case h1 => fail "kp")) | (with_reducible refine' Kp.mut ?h1 ?n1; (case n1 => assumption); (case h1 => fail "kp")) | (refine' Kp.tr (by assumption) ?h1; (case h1 => fail "kp")) | (refine' Kp.tr (Kp.of (by assumption)) ?h1; (case h1 => fail "kp")) | fail "no kp")
local macro_rules | `(tactic| fail "ite") => `(tactic| first | refine iteT ?_ | refine iteF ?_)
local macro_rules | `(tactic| fail "tt") => `(tactic| first | rfl | exact decide_eq_true (by first | rfl | omega | assumption) | exact decide_eq_true (congrArg V.int (by first | rfl | omega)) | fail "no tt")
local macro_rules | `(tactic| fail "cv") => `(tactic| first | exact .ty _ | exact .own _)
local macro_rules | `(tactic| fail "tx") => `(tactic| first | exact .base (.int _) | exact .base (.bl _) | exact .base .non | exact .base (.lst (by fail "hp")) | exact .base (.tup (by fail "hp")) | fail "no tx")
local macro_rules | `(tactic| fail "dead") => `(tactic| (exfalso; first | omega | contradiction | simp_all))
local macro_rules | `(tactic| fail "dp") => `(tactic| first | exact .tup (SqT.of (by fail "hp")) (.cons (.int _) (.cons (.int _) .nil)) | exact .lst (SqL.of (by fail "hp")) (dpPrs (by fail "pr")) | exact .lst (SqL.of (by fail "hp")) (dpInts _) | exact .lst (SqL.of (by fail "hp")) .nil | fail "no dp")
local macro_rules | `(tactic| fail "shp") => `(tactic| first | assumption | exact prD_shaped _ | exact PySem.W.ke_shaped_ints _ | rfl | fail "no shp")
local macro_rules | `(tactic| fail "pr") => `(tactic| first | assumption | exact PrT.mono (by assumption) (by fail "tk") | fail "no pr")
local macro_rules | `(tactic| fail "tk") => `(tactic| first | assumption | exact Tk.refl | (with_reducible refine' Tk.new ?h1 ?n1; (case n1 => assumption); (case h1 => fail "tk")) | (refine' Tk.tr (Kp.tk (by assumption) (by fail "bx")) ?h1; (case h1 => fail "tk")) | (refine' Tk.tr (Same.tk (by assumption)) ?h1; (case h1 => fail "tk")) | (with_reducible refine' Tk.lst ?h1 ?n1; (case n1 => fail "hp"); (case h1 => fail "tk")) | fail "no tk")
local macro_rules | `(tactic| fail "lk") => `(tactic| first | exact netF_count _ _ | exact netF_links _ _ | exact netF_no _ _ (by decide +kernel) (by decide +kernel) | fail "no lk")
local macro_rules | `(tactic| fail "kt") => `(tactic| first | exact upd_same | assumption | fail "hp")
local macro_rules | `(tactic| fail "na") => `(tactic| first | assumption | (with_reducible refine' NetAt.new ?h1 ?n1; (case n1 => assumption); (case h1 => fail "na")) | (refine' NetAt.same (by assumption) ?h1; (case h1 => fail "na")) | (refine' NetAt.kp (by assumption) (by fail "bx") ?h1; (case h1 => fail "na")) | (with_reducible refine' NetAt.lst ?h1 ?n1; (case n1 => fail "hp"); (case h1 => fail "na")) | fail "no na")
local macro_rules | `(tactic| fail "mono") => `(tactic| first | exact fun _ _ _ _ h q => h _ _ q | exact fun _ _ _ _ h q => (let ⟨v, e, z⟩ := q; ⟨v, e, h _ _ z⟩) | exact fun _ _ _ _ h q => (let ⟨v, e, u, f, z⟩ := q; ⟨v, e, u, f, h _ _ z⟩) | fail "no mono")
local macro_rules | `(tactic| fail "sm") => `(tactic| first | assumption | exact Same.refl _ | (with_reducible refine' Same.new ?h1 ?n1; (case n1 => assumption); (case h1 => fail "sm")) | (refine' Same.tr (by assumption) ?h1; (case h1 => fail "sm")) | fail "no sm")
local macro_rules | `(tactic| fail "fld") => `(tactic| first | (show 0 < 1000; decide) | (show 1 < 1000; decide) | fail "no fld")

section
variable {P : Program} {w : World} {K : PySem.W.Frag} {mg : Str → Option Value} {base : Heap} {CN CI CU CL CS : Addr} {mc mu : Value}

/-- of these links, held at these addresses, the first one that is not good for n replicas is refused -/
def BadRow (CI : Addr) (n : Nat) (as : List Addr) (ps : List (Int × Int)) (H : Hp) (E : XK) : Prop := ∀ (j : Nat) (t : Addr) (p : Int × Int), as[j]? = some t → ps[j]? = some p → ¬ Good n p → (∀ i q, i < j → ps[i]? = some q → Good n q) → RaisesI CI (.ref t) H E
theorem BadRow.back {CI : Addr} {n : Nat} {as : List Addr} {ps : List (Int × Int)} {H H1 : Hp} {E : XK} (k : BadRow CI n as ps H E) (s : Same H H1) : BadRow CI n as ps H1 E := fun j t p h1 h2 h3 h4 => (k j t p h1 h2 h3 h4).back s
def In24 (c : Int) : Prop := 1 ≤ c ∧ c ≤ 24
def spInit (CN CI : Addr) : Sp := fun vs H Q E => ∃ (a dx : Addr) (c : Int) (l : Addr) (as : List Addr) (ps : List (Int × Int)), vs = [.ref a, .int c, .ref l] ∧ H a = some (.ins CN dx []) ∧ H l = some (.lst (as.map V.ref)) ∧ PrT H as ps ∧ as.length < 1200 ∧
  (∀ n : Nat, c = n → 1 ≤ n → n ≤ 24 → (∀ p ∈ ps, Good n p) → ∀ H', Kp a H H' → NetAt CN H' a n (relP ps false) → Q .non H') ∧ (¬ (1 ≤ c ∧ c ≤ 24) → RaisesI CI .non H E) ∧ (∀ n : Nat, c = n → 1 ≤ n → n ≤ 24 → BadRow CI n as ps H E)
/-- a net is made of a count and a list -/
def spMk (CN CI : Addr) : Sp := fun vs H Q E => ∃ (c : Int) (l : Addr) (as : List Addr) (ps : List (Int × Int)), vs = [.int c, .ref l] ∧ H l = some (.lst (as.map V.ref)) ∧ PrT H as ps ∧ as.length < 1200 ∧
  (∀ n : Nat, c = n → 1 ≤ n → n ≤ 24 → (∀ p ∈ ps, Good n p) → ∀ a H', H a = none → Same H H' → NetAt CN H' a n (relP ps false) → Q (.ref a) H') ∧ (¬ (1 ≤ c ∧ c ≤ 24) → RaisesI CI .non H E) ∧ (∀ n : Nat, c = n → 1 ≤ n → n ≤ 24 → BadRow CI n as ps H E)
theorem mk_init {CN CI : Addr} {vs : List V} {H : Hp} {Q : VK} {E : XK} (h : spMk CN CI vs H Q E) : ∀ x dx, H x = none → H dx = none → dx ≠ x → spInit CN CI (.ref x :: (vs ++ [])) (upd (upd H dx (.own x)) x (.ins CN dx [])) (fun v H2 => v = .non ∧ Q (.ref x) H2) E := by
  obtain ⟨c, l, as, ps, rfl, hl, pa, few, kG, kB, kC⟩ := h
  intro x dx nx ndx ne
  have s1 : Same H (upd H dx (.own x)) := Same.new (Same.refl H) ndx
  have n1 : upd H dx (.own x) x = none := by rw [upd_ne (Ne.symm ne)]; exact nx
  have s2 : Same H (upd (upd H dx (.own x)) x (.ins CN dx [])) := Same.new s1 n1
  refine ⟨x, dx, c, l, as, ps, rfl, upd_same, s2 _ _ hl, pa.mono (Same.tk s2), few, fun n e b1 b2 g H' k na => ⟨rfl, kG n e b1 b2 g x H' nx (fun b o hb => k b o (ne_of_none hb nx) (s2 _ _ hb)) na⟩, fun z => (kB z).back s2, fun n e b1 b2 => (kC n e b1 b2).back s2⟩
theorem mem_rowT {R : Rel} {x : Nat} : ∀ {j : Nat} {p : Int × Int}, p ∈ rowT R x j → ∃ y : Nat, y < j ∧ p = ((x : Int), (y : Int)) := by
  intro j p h
  unfold rowT at h
  obtain ⟨y, hy, e⟩ := List.mem_map.mp h
  exact ⟨y, List.mem_range.mp (List.mem_filter.mp hy).1, e.symm⟩
theorem nd_snoc {α : Type} {l : List α} {a : α} (h : l.Nodup) (n : a ∉ l) : (l ++ [a]).Nodup := by
  refine List.nodup_append.mpr ⟨h, List.nodup_cons.mpr ⟨List.not_mem_nil, List.nodup_nil⟩, fun x hx y hy e => ?_⟩
  rw [List.mem_singleton] at hy
  rw [e, hy] at hx
  exact n hx
theorem rowT_nd (R : Rel) (x : Nat) : ∀ j, (rowT R x j).Nodup
  | 0 => List.nodup_nil
  | j + 1 => by
    cases e : R x j with
    | false => rw [rowT_no e]; exact rowT_nd R x j
    | true =>
      rw [rowT_yes e]
      refine nd_snoc (rowT_nd R x j) fun h => ?_
      obtain ⟨y, hy, e2⟩ := mem_rowT h
      have e3 : (j : Int) = (y : Int) := congrArg Prod.snd e2
      omega
theorem mem_tiesTo {n : Nat} {R : Rel} {i : Nat} {p : Int × Int} (h : p ∈ tiesTo n R i) : ∃ x : Nat, x < i ∧ p.1 = (x : Int) := by
  unfold tiesTo at h
  obtain ⟨x, hx, h2⟩ := List.mem_flatMap.mp h
  obtain ⟨y, _, e⟩ := mem_rowT h2
  exact ⟨x, List.mem_range.mp hx, by rw [e]⟩
theorem tiesTo_nd (n : Nat) (R : Rel) : ∀ i, (tiesTo n R i).Nodup
  | 0 => List.nodup_nil
  | i + 1 => by
    rw [tiesTo_succ]
    refine List.nodup_append.mpr ⟨tiesTo_nd n R i, rowT_nd R i n, fun a ha b hb e => ?_⟩
    obtain ⟨x, hx, e1⟩ := mem_tiesTo ha
    obtain ⟨y, _, e2⟩ := mem_rowT hb
    have e3 : b.1 = (i : Int) := by rw [e2]
    rw [← e, e1] at e3
    omega
theorem nd_take {α : Type} {l : List α} {i : Nat} {a : α} (h : l.Nodup) (e : l[i]? = some a) : a ∉ l.take i := by
  intro m
  rw [← List.take_append_drop i l] at h
  refine (List.nodup_append.mp h).2.2 a m a ?_ rfl
  refine List.mem_of_getElem? (i := 0) ?_
  rw [List.getElem?_drop]
  exact e
abbrev kvP (p : Int × Int) : List Key × V := ([.inl p.1, .inl p.2], V.bl true)
theorem put_tie {n : Nat} {R : Rel} {i : Nat} {x y : Int} (e : (ties n R)[i]? = some (x, y)) : putK (((ties n R).take i).map kvP) [.inl x, .inl y] (V.bl true) = ((ties n R).take (i + 1)).map kvP := by
  have h : (valV (((ties n R).take i).map kvP) [.inl x, .inl y]).isSome = false := by
    rw [find_key]
    exact decide_eq_false (nd_take (tiesTo_nd n R n) e)
  rw [putK_new _ (Option.not_isSome_iff_eq_none.mp (by rw [h]; exact Bool.false_ne_true)), take_more' e, List.map_append]
  rfl
theorem dc_list {K : PySem.W.Frag} {a : Addr} {xs : List V} {g : TG} {tk tv : TE} {vs : List Nat} {σ : L2.St} {H1 : Hp} {D : Addr} {Qd : Hp → Prop} (Pv : Nat → Hp → Prop) (h0 : Pv 0 (upd H1 D (.dT []))) (hl : ∀ i H, i ≤ xs.length → Pv i H → SqL K H a xs)
    (hs : ∀ i x H, xs[i]? = some x → Pv i H → g x (wipe σ vs) H fun σ2 H2 => wipe σ2 vs = wipe σ vs ∧ tk σ2 H2 fun y H4 => tv σ2 H4 fun z H5 =>
      ∃ (kvs : List (List Key × V)) (k : List Key) (t : Addr), y = .ref t ∧ H5 t = some (.tup (k.map kV)) ∧ H5 D = some (.dT kvs) ∧ kvs.length < sizeLine ∧ Pv (i + 1) (upd H5 D (.dT (putK kvs k z)))) (hd : ∀ H, Pv xs.length H → Qd H) :
    ∃ W : Nat → Nat → Hp → Prop, (∃ m, W 0 m (upd H1 D (.dT []))) ∧ ∀ i m H, W i m H →
      ((Itl K a).stop i H ∧ Qd H) ∨ ((Itl K a).go i H ∧ ∃ Nx : Hp → Prop, (∀ H', Nx H' → ∃ m', m' < m ∧ W (i + 1) m' H') ∧ ∀ x H', (Itl K a).yld i H x H' → g x (wipe σ vs) H' fun σ2 H2 => wipe σ2 vs = wipe σ vs ∧ tk σ2 H2 fun y H4 => tv σ2 H4 fun z H5 =>
        ∃ (kvs : List (List Key × V)) (k : List Key) (t : Addr), y = .ref t ∧ H5 t = some (.tup (k.map kV)) ∧ H5 D = some (.dT kvs) ∧ kvs.length < sizeLine ∧ Nx (upd H5 D (.dT (putK kvs k z)))) := by
  refine ⟨fun i m H => (m = xs.length - i ∧ i ≤ xs.length) ∧ Pv i H, ⟨xs.length, ⟨by omega, Nat.zero_le _⟩, h0⟩, ?_⟩
  intro i m H w
  obtain ⟨⟨e, hi⟩, p⟩ := w
  rcases Nat.lt_or_ge i xs.length with hlt | hge
  · right
    have sq := hl i H hi p
    refine ⟨⟨xs, xs[i], sq, List.getElem?_eq_getElem hlt⟩, Pv (i + 1), fun H' p' => ⟨xs.length - (i + 1), by omega, ⟨rfl, hlt⟩, p'⟩, fun x H' y => ?_⟩
    obtain ⟨rfl, y⟩ := y
    exact hs i x _ (y xs sq) p
  · left
    obtain rfl : i = xs.length := by omega
    exact ⟨⟨xs, hl _ H hi p, Nat.le_refl _⟩, hd H p⟩
abbrev sNetInit : Stmt := inClass (top 6) 1
theorem scNetInit : FnScope ["self", "count", "links", "link"] ["self", "count", "links"] (defScope sNetInit) := ⟨rfl, rfl, rfl, by decide +kernel, rfl, by decide +kernel, by decide +kernel⟩
theorem ok_NetInit {f : Addr} {fd : FuncData} (F : L2.Fun K "__init__" "Net.__init__" sNetInit f fd) (T : NTx K mg CN mc mu) (GCheckCount : CalX P w K mg base 3 "check_count" (spCheckCount CI)) (GCheckPair : CalX P w K mg base 3 "check_pair" (spCheckPair CI)) : FnOk P w K mg base (L2.CX P w) 5 f fd ["self", "count", "links"] (spInit CN CI) := by
  refine F.okX scNetInit (fun vs H Q E h => ?_) (fun cdv A outer s H vs Q E hr h => ?_)
  · obtain ⟨a, dx, c, l, as, ps, rfl, ha, hl, pa, few, kG, kB, kD⟩ := h
    rfl
  · obtain ⟨a, dx, c, l, as, ps, rfl, ha, hl, pa, few, kG, kB, kD⟩ := h
    refine ⟨_, (pss_cons (ps_expr (pe_cX GCheckCount hr (by decide) (by rfl) (passes_call (takes_of rfl rfl rfl rfl) fun _ _ _ _ h => h) (pa_cons (pv 1) pa_nil)))
      (pss_cons (ps_for (passes_of rfl) rfl (pi_list (pv 2)) (pg_name (i := 3) scNetInit.nd rfl (Or.inl rfl))
        (pss_one (ps_expr (pe_cX GCheckPair hr (by decide) (by rfl) (passes_call (takes_of rfl rfl rfl rfl) fun _ _ _ _ h => h) (pa_cons (pv 1) (pa_cons (pv 3) pa_nil))))))
      (pss_cons (ps_fld (pv 0) (pv 1) rfl)
      (pss_one (ps_fld (pv 0) (pe_dcT (own := [("link", 3)]) (g := gName 3) hr.units0 rfl scNetInit.nd (pi_list (pe_sortSet rfl hr.units (by rfl) T.sorted (by rfl) T.set (pv 2))) (blkOk_by (N := ["self", "count", "links", "link"]) (sc := defScope sNetInit) (by decide +kernel)) (fun _ _ _ _ _ => (pg_name (i := 3) scNetInit.nd rfl (Or.inl rfl))) (fun _ _ _ _ _ => (pv 3)) (fun _ _ _ _ _ => pe_bl)) rfl))))), ?_⟩
    -- check_count(count)
    refine ⟨_, rfl, _, rfl, fun gd1 H1 sm1 => ?_, fun z => RaisesI.back (kB z) (by fail "sm")⟩
    obtain ⟨n, rfl, b1, b2⟩ : ∃ n : Nat, c = n ∧ 1 ≤ n ∧ n ≤ 24 := ⟨c.toNat, by omega, by omega, by omega⟩
    -- for link in links:
    refine ⟨_, rfl, _, rfl, ⟨_, SqL.of (by fail "hp")⟩, for_list (K := K) (a := l) (xs := as.map V.ref) (fun i σ H' => Same H H' ∧ (∀ j q, j < i → ps[j]? = some q → Good n q) ∧ ∃ v, σ = [some (.ref a), some (.int (n : Int)), some (.ref l), v]) ⟨sm1, fun j q h => absurd h (by omega), none, rfl⟩ (fun i σ H' _ z => SqL.of (z.1 _ _ hl)) ?_ ?_⟩
    · rintro i y σ H' hi ⟨sm, hg, v, rfl⟩
      obtain ⟨a0, x0, y0, rfl, e1, e2, e3⟩ := pa.item hi
      have e4 := sm _ _ e3
      have kC : ¬ Good n (x0, y0) → RaisesI CI (.ref a0) H E := fun z => kD n rfl b1 b2 i a0 _ e1 e2 z hg
      -- check_pair(count, link)
      refine ⟨_, rfl, _, rfl, _, _, _, _, rfl, (by fail "hp"), fun gd2 H2 sm2 => ?_, fun z => RaisesI.back (kC z) (by fail "sm")⟩
      refine ⟨sm.trans sm2, fun j q hj hq => ?_, _, rfl⟩
      by_cases hji : j = i
      · subst hji
        rw [e2] at hq
        cases hq
        exact gd2
      · exact hg j q (by omega) hq
    · rintro σ H'0 ⟨sm, hg, v, rfl⟩
      have good : ∀ p ∈ ps, Good n p := fun p hp => by
        obtain ⟨j, hj⟩ := List.getElem?_of_mem hp
        refine hg j p ?_ hj
        rw [List.length_map, pa.1]
        exact (List.getElem?_eq_some_iff.mp hj).1
      have ha1 := sm _ _ ha
      have hl1 := sm _ _ hl
      have pa1 := pa.mono (Same.tk sm)
      -- self.count = count
      refine ⟨_, rfl, _, rfl, _, _, _, _, rfl, (by fail "hp"), T.cl, T.n_count, (by fail "fld"), ?_⟩
      have pa2 : PrT (upd H'0 a (.ins CN dx (putF "count" (.int (n : Int)) []))) as ps := pa1.mono (fun t xs h => by rw [upd_ne (ne_of h ha1 (by intro q; cases q))]; exact h)
      have hl2 : upd H'0 a (.ins CN dx (putF "count" (.int (n : Int)) [])) l = some (.lst (as.map V.ref)) := by rw [upd_ne (ne_of hl1 ha1 (by intro q; cases q))]; exact hl1
      -- self._links = {link: True for link in sorted(set(links))}
      refine ⟨_, rfl, _, _, _, _, rfl, (by fail "hp"), (by fail "pr"), few, (by fail "om"), (by assumption), fun p3 bs3 H3 sm3 np3 hp3 pb3 => ⟨_, rfl, ⟨_, SqL.of (by fail "hp")⟩, fun D1 nD1 => dc_list (K := K) (a := p3) (xs := bs3.map V.ref) (fun i H' => Same H3 H' ∧ H' D1 = some (.dT (((ties n (relP ps false)).take i).map kvP))) ⟨Same.new (Same.refl _) nD1, upd_same⟩ (fun i H' _ z => SqL.of (z.1 _ _ hp3)) (fun i x H' hx z => by
      obtain ⟨sm4, hD⟩ := z
      obtain ⟨t, x, y, rfl, e1, e2, e3⟩ := pb3.item hx
      have e4 := sm4 _ _ e3
      have lt := ties_len (relP ps false) b2
      refine ⟨rfl, _, rfl, _, [.inl x, .inl y], _, rfl, e4, hD, ?_, Same.mut sm4 nD1, ?_⟩
      · refine Evl.sz_lt ?_
        rw [List.length_map, List.length_take]
        omega
      · rw [upd_same, put_tie e2]) fun H' z => by
      obtain ⟨sm4, hD⟩ := z
      have hD2 : H' D1 = some (.dT (linkKV n (relP ps false))) := by
        rw [hD, List.length_map, pb3.1, List.take_length]
        rfl
      have ha3 : H' a = some (.ins CN dx (putF "count" (.int (n : Int)) [])) := sm4 _ _ (sm3 _ _ upd_same)
      have ne : D1 ≠ a := ne_of hD2 ha3 (by intro q; cases q)
      refine ⟨_, rfl, _, _, _, _, rfl, ha3, T.cl, T.n__links, (by fail "fld"), ?_⟩
      refine kG n rfl b1 b2 good _ ?_ ⟨⟨dx, D1, upd_same, by rw [upd_ne ne]; exact hD2⟩, b1, b2, fun x y hx hy r => ?_⟩
      · refine Kp.at fun q o hq h => sm4 _ _ (sm3 _ _ ?_)
        rw [upd_ne hq]
        exact sm _ _ h
      · obtain h | h := relP_iff.mp r
        · have g := (good _ h).2.2.2.2
          intro e
          exact g (by rw [e])
        · exact absurd h.1 Bool.false_ne_true⟩⟩
      skip
end
end K00

end
section
set_option Elab.async false
set_option linter.all false
set_option maxRecDepth 100000
set_option maxHeartbeats 800000
namespace K00
open PySem L2 Kit KR KX
local macro_rules | `(tactic| fail "om") => `(tactic| first | omega | (simp only [List.length_map, List.length_append, List.length_cons, List.length_nil]; omega) | (simp only [List.length_map, List.length_append, List.length_cons, List.length_nil] at *; omega) | assumption | decide | fail "no om")
local macro_rules | `(tactic| fail "nz") => `(tactic| first | decide | omega | fail "no nz")
local macro_rules | `(tactic| fail "dv") => `(tactic| exact ⟨by first | decide | omega, by first | decide | omega⟩)
local macro_rules | `(tactic| fail "mul") => `(tactic| first | exact .inr ⟨by decide, by decide⟩ | exact .inl ⟨by decide, by decide⟩ | exact mulF (by decide) (by decide) | exact .inl ⟨by omega, by omega⟩ | exact .inr ⟨by omega, by omega⟩ | fail "no mul")
local macro_rules | `(tactic| fail "sz") => `(tactic| first | assumption | exact Nat.zero_le _ | (show 1 ≤ sizeLine; decide) | (show 2 ≤ sizeLine; decide) | (show 3 ≤ sizeLine; decide) | (show 4 ≤ sizeLine; decide) | (show 5 ≤ sizeLine; decide) | exact Evl.sz_of (by omega) | (refine Evl.sz_of ?_; simp only [List.length_append, List.length_map, List.length_cons, List.length_nil]; omega) | fail "no sz")
local macro_rules | `(tactic| fail "szl") => `(tactic| first | exact Evl.sz_lt (by omega) | (refine Evl.sz_lt ?_; simp only [List.length_append, List.length_map, List.length_cons, List.length_nil]; omega) | fail "no szl")
local macro_rules | `(tactic| fail "ix") => `(tactic| first | assumption | exact ix0 | exact ix1 | exact ix2 | exact at_ref (by assumption) (by omega) | exact at_int (by assumption) (by omega) | exact at_drawn (by assumption) (by assumption) | rfl | fail "no ix")
local macro_rules | `(tactic| fail "ixn") => `(tactic| first | rfl | assumption | fail "no ixn")
local macro_rules | `(tactic| fail "nb") => `(tactic| first | assumption | exact nb_tup | exact nb_nil | exact nb_ints | exact nb_refs | exact nb_ins | exact nb_dT | exact nb_frz | fail "no nb")
local macro_rules | `(tactic| fail "ne") => `(tactic| first | assumption | exact Ne.symm (by assumption) | exact ne_of_none (by assumption) (by assumption) | exact (ne_of_none (by assumption) (by assumption)).symm | exact ne_of (by assumption) (by assumption) (by intro q; cases q) | exact ne_of (by assumption) (by assumption) (by simp) | fail "no ne")
local macro_rules | `(tactic| fail "hp") => `(tactic| first | assumption | exact upd_same | (refine' Tk.get (by assumption) ?k1; (case k1 => fail "tk")) | (with_reducible refine' upd_new ?h1 ?n1; (case n1 => assumption); (case h1 => fail "hp")) | (refine' Same.get (by assumption) ?h1; (case h1 => fail "hp")) | (refine' Kp.get (by assumption) (by fail "bx") ?h1 ?d1; (case h1 => fail "hp"); (case d1 => fail "nb")) | (with_reducible refine' upd_oth ?h1 ?n1; (case n1 => fail "ne"); (case h1 => fail "hp")) | (with_reducible refine' upd_oth ?h1 ?n1; (case h1 => fail "hp"); (case n1 => fail "ne")) | fail "no hp")
local macro_rules | `(tactic| fail "bx") => `(tactic| first | assumption | (with_reducible refine' BoxOk.new ?h1 ?n1; (case n1 => assumption); (case h1 => fail "bx")) | (refine' BoxOk.same (by assumption) ?h1; (case h1 => fail "bx")) | (with_reducible refine' BoxOk.mut ?h1 ?h2 ?n1; (case n1 => assumption); (case h2 => assumption); (case h1 => fail "bx")) | fail "no bx")
local macro_rules | `(tactic| fail "kp") => `(tactic| first | assumption | exact Kp.refl | (with_reducible refine' Kp.at ?h1; (case h1 => fail "kp")) | (with_reducible refine' Kp.new ?h1 ?n1; (case n1 => assumption); (case h1 => fail "kp")) | (with_reducible refine' Kp.mut ?h1 ?n1; (case n1 => assumption); (case h1 => fail "kp")) | (refine' Kp.tr (by assumption) ?h1; (case h1 => fail "kp")) | (refine' Kp.tr (Kp.of (by assumption)) ?h1; (case h1 => fail "kp")) | fail "no kp")
local macro_rules | `(tactic| fail "ite") => `(tactic| first | refine iteT ?_ | refine iteF ?_)
local macro_rules | `(tactic| fail "tt") => `(tactic| first | rfl | exact decide_eq_true (by first | rfl | omega | assumption) | exact decide_eq_true (congrArg V.int (by first | rfl | omega)) | fail "no tt")
local macro_rules | `(tactic| fail "cv") => `(tactic| first | exact .ty _ | exact .own _)
local macro_rules | `(tactic| fail "tx") => `(tactic| first | exact .base (.int _) | exact .base (.bl _) | exact .base .non | exact .base (.lst (by fail "hp")) | exact .base (.tup (by fail "hp")) | fail "no tx")
local macro_rules | `(tactic| fail "dead") => `(tactic| (exfalso; first | omega | contradiction | simp_all))
local macro_rules | `(tactic| fail "dp") => `(tactic| first | exact .tup (SqT.of (by fail "hp")) (.cons (.int _) (.cons (.int _) .nil)) | exact .lst (SqL.of (by fail "hp")) (dpPrs (by fail "pr")) | exact .lst (SqL.of (by fail "hp")) (dpInts _) | exact .lst (SqL.of (by fail "hp")) .nil | fail "no dp")
local macro_rules | `(tactic| fail "shp") => `(tactic| first | assumption | exact prD_shaped _ | exact PySem.W.ke_shaped_ints _ | rfl | fail "no shp")
local macro_rules | `(tactic| fail "pr") => `(tactic| first | assumption | exact PrT.mono (by assumption) (by fail "tk") | fail "no pr")
local macro_rules | `(tactic| fail "tk") => `(tactic| first | assumption | exact Tk.refl | (with_reducible refine' Tk.new ?h1 ?n1; (case n1 => assumption); (case h1 => fail "tk")) | (refine' Tk.tr (Kp.tk (by assumption) (by fail "bx")) ?h1; (case h1 => fail "tk")) | (refine' Tk.tr (Same.tk (by assumption)) ?h1; (case h1 => fail "tk")) | (with_reducible refine' Tk.lst ?h1 ?n1; (case n1 => fail "hp"); (case h1 => fail "tk")) | fail "no tk")
local macro_rules | `(tactic| fail "lk") => `(tactic| first | exact netF_count _ _ | exact netF_links _ _ | exact netF_no _ _ (by decide +kernel) (by decide +kernel) | fail "no lk")
local macro_rules | `(tactic| fail "kt") => `(tactic| first | exact upd_same | assumption | fail "hp")
local macro_rules | `(tactic| fail "na") => `(tactic| first | assumption | (with_reducible refine' NetAt.new ?h1 ?n1; (case n1 => assumption); (case h1 => fail "na")) | (refine' NetAt.same (by assumption) ?h1; (case h1 => fail "na")) | (refine' NetAt.kp (by assumption) (by fail "bx") ?h1; (case h1 => fail "na")) | (with_reducible refine' NetAt.lst ?h1 ?n1; (case n1 => fail "hp"); (case h1 => fail "na")) | fail "no na")
local macro_rules | `(tactic| fail "mono") => `(tactic| first | exact fun _ _ _ _ h q => h _ _ q | exact fun _ _ _ _ h q => (let ⟨v, e, z⟩ := q; ⟨v, e, h _ _ z⟩) | exact fun _ _ _ _ h q => (let ⟨v, e, u, f, z⟩ := q; ⟨v, e, u, f, h _ _ z⟩) | fail "no mono")
local macro_rules | `(tactic| fail "sm") => `(tactic| first | assumption | exact Same.refl _ | (with_reducible refine' Same.new ?h1 ?n1; (case n1 => assumption); (case h1 => fail "sm")) | (refine' Same.tr (by assumption) ?h1; (case h1 => fail "sm")) | fail "no sm")
local macro_rules | `(tactic| fail "fld") => `(tactic| first | (show 0 < 1000; decide) | (show 1 < 1000; decide) | fail "no fld")

section
variable {P : Program} {w : World} {K : PySem.W.Frag} {mg : Str → Option Value} {base : Heap} {CN CI CU CL CS : Addr} {mc mu : Value}

def RaisesP (CI : Addr) (p : Int × Int) (H : Hp) (E : XK) : Prop := ∀ (d t : Addr) (H' : Hp), H d = none → Same H H' → H' t = some (.tup [.int p.1, .int p.2]) → H' d = some (.xd [("link", .ref t)]) → E (.ref CI) (some d) H'
theorem RaisesP.back {CI : Addr} {p : Int × Int} {H H1 : Hp} {E : XK} (k : RaisesP CI p H E) (s : Same H H1) : RaisesP CI p H1 E := fun d t H' nd sm h xd => k d t H' (free_back nd s) (s.trans sm) h xd
theorem RaisesP.at {CI t : Addr} {x y : Int} {H H1 : Hp} {E : XK} (k : RaisesP CI (x, y) H E) (s : Same H H1) (h : H1 t = some (.tup [.int x, .int y])) : RaisesI CI (.ref t) H1 E := fun d H' nd sm xd => k d t H' (free_back nd s) (s.trans sm) (sm _ _ h) xd
/-- the first of these that is not good is refused -/
def BadP (CI : Addr) (n : Nat) (ps : List (Int × Int)) (H : Hp) (E : XK) : Prop := ∀ (j : Nat) (p : Int × Int), ps[j]? = some p → ¬ Good n p → (∀ i q, i < j → ps[i]? = some q → Good n q) → RaisesP CI p H E
theorem BadP.row {CI : Addr} {n : Nat} {as : List Addr} {ps : List (Int × Int)} {H H1 : Hp} {E : XK} (k : BadP CI n ps H E) (s : Same H H1) (pa : PrT H1 as ps) : BadRow CI n as ps H1 E := fun j t p h1 h2 h3 h4 => RaisesP.at (x := p.1) (y := p.2) (k j p h2 h3 h4) s (pa.2 j t p h1 h2)
theorem BadRow.none {CI : Addr} {n : Nat} {as : List Addr} {ps : List (Int × Int)} {H : Hp} {E : XK} (g : ∀ p ∈ ps, Good n p) : BadRow CI n as ps H E := fun _ _ p _ h2 h3 _ => absurd (g p (List.mem_of_getElem? h2)) h3
theorem BadP.none {CI : Addr} {n : Nat} {ps : List (Int × Int)} {H : Hp} {E : XK} (g : ∀ p ∈ ps, Good n p) : BadP CI n ps H E := fun _ p h2 h3 _ => absurd (g p (List.mem_of_getElem? h2)) h3
theorem NetAt.congr {C : Addr} {H : Hp} {a : Addr} {n : Nat} {R R' : Rel} (h : NetAt C H a n R) (e : ∀ x y, x < n → y < n → R x y = R' x y) : NetAt C H a n R' := by
  obtain ⟨⟨dx, d, h1, h2⟩, b1, b2, ir⟩ := h
  refine ⟨⟨dx, d, h1, ?_⟩, b1, b2, fun x y hx hy r => ir x y hx hy (by rw [e x y hx hy]; exact r)⟩
  rw [h2]
  unfold linkKV
  rw [ties_congr e]
/-- both ways -/
def dbl (ps : List (Int × Int)) : List (Int × Int) := ps.flatMap fun p => [(p.1, p.2), (p.2, p.1)]
theorem dbl_snoc (ps : List (Int × Int)) (x y : Int) : dbl (ps ++ [(x, y)]) = dbl ps ++ [(x, y)] ++ [(y, x)] := by
  unfold dbl
  rw [List.flatMap_append, List.append_assoc]
  rfl
theorem dbl_len (ps : List (Int × Int)) : (dbl ps).length = 2 * ps.length := by
  induction ps with
  | nil => rfl
  | cons p t ih =>
    show (dbl t).length + 1 + 1 = 2 * (t.length + 1)
    omega
theorem dbl_at : ∀ (ps : List (Int × Int)) (i : Nat), (dbl ps)[2 * i]? = ps[i]? ∧ (dbl ps)[2 * i + 1]? = (ps[i]?).map fun p => (p.2, p.1)
  | [], i => ⟨by simp [dbl], by simp [dbl]⟩
  | p :: t, 0 => ⟨rfl, rfl⟩
  | p :: t, i + 1 => by
    have h := dbl_at t i
    refine ⟨?_, ?_⟩
    · have e : 2 * (i + 1) = 2 * i + 1 + 1 := by omega
      rw [e]
      exact h.1
    · have e : 2 * (i + 1) + 1 = 2 * i + 1 + 1 + 1 := by omega
      rw [e]
      exact h.2
theorem good_swap {n : Nat} {x y : Int} (g : Good n (x, y)) : Good n (y, x) := ⟨g.2.2.1, g.2.2.2.1, g.1, g.2.1, fun e => g.2.2.2.2 e.symm⟩
theorem mem_dbl {ps : List (Int × Int)} {x y : Int} : (x, y) ∈ dbl ps ↔ (x, y) ∈ ps ∨ (y, x) ∈ ps := by
  unfold dbl
  rw [List.mem_flatMap]
  constructor
  · rintro ⟨⟨a, b⟩, h, m⟩
    rcases List.mem_cons.mp m with e | m
    · cases e
      exact .inl h
    · cases List.mem_singleton.mp m
      exact .inr h
  · rintro (h | h)
    · exact ⟨_, h, List.mem_cons_self⟩
    · exact ⟨_, h, List.mem_cons_of_mem _ List.mem_cons_self⟩
theorem dbl_good {n : Nat} {ps : List (Int × Int)} (g : ∀ p ∈ dbl ps, Good n p) : ∀ p ∈ ps, Good n p := fun p h => g p (mem_dbl.mpr (.inl h))
theorem good_dbl {n : Nat} {ps : List (Int × Int)} (g : ∀ p ∈ ps, Good n p) : ∀ p ∈ dbl ps, Good n p := fun p h => by
  obtain ⟨x, y⟩ := p
  rcases mem_dbl.mp h with h | h
  · exact g _ h
  · exact good_swap (g _ h)
theorem dbl_rel (ps : List (Int × Int)) : relP (dbl ps) false = relP ps true := by
  funext x y
  rw [Bool.eq_iff_iff, relP_iff, relP_iff, mem_dbl]
  simp
theorem dbl_bad {CI : Addr} {n : Nat} {bs : List Addr} {ps : List (Int × Int)} {H H1 : Hp} {E : XK} (k : BadP CI n ps H E) (s : Same H H1) (pa : PrT H1 bs (dbl ps)) : BadRow CI n bs (dbl ps) H1 E := by
  intro j t p h1 h2 h3 h4
  have ht := pa.2 j t p h1 h2
  obtain ⟨i, e | e⟩ : ∃ i, j = 2 * i ∨ j = 2 * i + 1 := ⟨j / 2, by omega⟩
  · subst e
    rw [(dbl_at ps i).1] at h2
    exact RaisesP.at (x := p.1) (y := p.2) (k i p h2 h3 fun i' q hi hq => h4 (2 * i') q (by omega) (by rw [(dbl_at ps i').1]; exact hq)) s ht
  · subst e
    rw [(dbl_at ps i).2] at h2
    cases q : ps[i]? with
    | none => rw [q] at h2; cases h2
    | some z =>
      rw [q] at h2
      cases h2
      exact absurd (good_swap (h4 (2 * i) z (by omega) (by rw [(dbl_at ps i).1]; exact q))) h3
def spBoth (CN CI : Addr) : Sp := fun vs H Q E => ∃ (c : Int) (l : Addr) (as : List Addr) (ps : List (Int × Int)), vs = [.ref CN, .int c, .ref l] ∧ H l = some (.lst (as.map V.ref)) ∧ PrT H as ps ∧ as.length ≤ 500 ∧
  (∀ n : Nat, c = n → 1 ≤ n → n ≤ 24 → (∀ p ∈ ps, Good n p) → ∀ a H', H a = none → Same H H' → NetAt CN H' a n (relP ps true) → Q (.ref a) H') ∧ (¬ (1 ≤ c ∧ c ≤ 24) → RaisesI CI .non H E) ∧ (∀ n : Nat, c = n → 1 ≤ n → n ≤ 24 → BadP CI n ps H E)
abbrev sNetBothWays : Stmt := inClass (top 6) 2
theorem scNetBothWays : FnScope ["cls", "count", "pairs", "links", "x", "y"] ["cls", "count", "pairs"] (defScope sNetBothWays) := ⟨rfl, rfl, rfl, by decide +kernel, rfl, by decide +kernel, by decide +kernel⟩
theorem ok_NetBothWays {f : Addr} {fd : FuncData} (F : L2.Fun K "both_ways" "Net.both_ways" sNetBothWays f fd) (T : NTx K mg CN mc mu) (KNet : MakX P w K mg base 5 "Net" CN (spInit CN CI)) : FnOk P w K mg base (L2.CX P w) 7 f fd ["cls", "count", "pairs"] (spBoth CN CI) := by
  refine F.okX scNetBothWays (fun vs H Q E h => ?_) (fun cdv A outer s H vs Q E hr h => ?_)
  · obtain ⟨c, l, as, ps, rfl, hl, pa, la, kG, kB, kC⟩ := h
    rfl
  · obtain ⟨c, l, as, ps, rfl, hl, pa, la, kG, kB, kC⟩ := h
    refine ⟨_, (pss_cons (ps_set (i := 3) scNetBothWays.nd rfl (Or.inl rfl) (pe_lst pa_nil))
      (pss_cons (ps_for (passes_of rfl) rfl (pi_list (pv 2)) (pg_tup rfl (pgs_cons (pg_name (i := 4) scNetBothWays.nd rfl (Or.inl rfl)) (pgs_cons (pg_name (i := 5) scNetBothWays.nd rfl (Or.inl rfl)) pgs_nil)))
        (pss_cons (ps_expr (pe_bm PySem.F.plainAttrs_list PySem.F.slot_list_append PySem.F.type_list_append mt_append (pv 3) (pa_cons (pe_tup (pa_cons (pv 4) (pa_cons (pv 5) pa_nil))) pa_nil)))
        (pss_one (ps_expr (pe_bm PySem.F.plainAttrs_list PySem.F.slot_list_append PySem.F.type_list_append mt_append (pv 3) (pa_cons (pe_tup (pa_cons (pv 5) (pa_cons (pv 4) pa_nil))) pa_nil))))))
      (pss_one (ps_ret (pe_mkL (i := 0) KNet hr (by decide) (passes_call (takes_of rfl rfl rfl rfl) fun _ _ _ _ h => h) rfl (Or.inl rfl) (pa_cons (pv 1) (pa_cons (pv 3) pa_nil))))))), ?_⟩
    -- links = []
    refine ⟨(by fail "sz"), fun p1 np1 => ?_⟩
    -- for x, y in pairs:
    refine ⟨_, rfl, _, rfl, ⟨_, SqL.of (by fail "hp")⟩, for_list (K := K) (a := l) (xs := as.map V.ref) (fun i σ H' => ∃ (bs : List Addr) (v w : Option V), σ = [some (.ref CN), some (.int c), some (.ref l), some (.ref p1), v, w] ∧ Same H H' ∧ H' p1 = some (.lst (bs.map V.ref)) ∧ PrT H' bs (dbl (ps.take i))) ⟨[], none, none, rfl, Same.new (Same.refl H) np1, upd_same, PrT.nil⟩ (fun i σ H' _ z => by obtain ⟨bs, v, w, _, sm, _⟩ := z; exact SqL.of (sm _ _ hl)) ?_ ?_⟩
    · rintro i y σ H' hi ⟨bs, v, w, rfl, sm, hp, pb⟩
      obtain ⟨a0, x0, y0, rfl, e1, e2, e3⟩ := pa.item hi
      have e4 := sm _ _ e3
      have lb : bs.length ≤ 2000 := by
        rw [pb.1, dbl_len, List.length_take, ← pa.1]
        omega
      refine ⟨_, _, rfl, SqT.of e4, rfl, _, _, rfl, _, _, rfl, rfl, ?_⟩
      -- links.append((x, y))
      refine ⟨_, rfl, .inl ⟨rfl, _, SqL.of (by fail "hp")⟩, _, rfl, _, rfl, (by fail "sz"), fun p2 np2 => ⟨_, _, _, rfl, rfl, (by fail "hp"), (by fail "szl"), ?_⟩⟩
      -- links.append((y, x))
      refine ⟨_, rfl, .inl ⟨rfl, _, SqL.of (by fail "hp")⟩, _, rfl, _, rfl, (by fail "sz"), fun p3 np3 => ⟨_, _, _, rfl, rfl, (by fail "hp"), (by fail "szl"), ?_⟩⟩
      refine ⟨bs ++ [p2] ++ [p3], _, _, rfl, Same.mut (Same.new (Same.mut (Same.new sm np2) np1) np3) np1, ?_, ?_⟩
      · rw [upd_same, List.map_append, List.map_append]
        rfl
      · rw [take_more' e2, dbl_snoc]
        refine PrT.snoc (PrT.snoc (pb.mono (by fail "tk")) ?_) ?_
        · fail "hp"
        · have q31 : p3 ≠ p1 := fun z => by
            rw [z, upd_same] at np3
            cases np3
          rw [upd_ne q31, upd_same]
    · rintro σ H' ⟨bs, v, w, rfl, sm, hp, pb⟩
      rw [List.length_map, pa.1, List.take_length] at pb
      -- return cls(count, links)
      refine ⟨rfl, _, rfl, _, rfl, mk_init ⟨_, _, _, _, rfl, (by fail "hp"), (by fail "pr"), (by rw [pb.1, dbl_len, ← pa.1]; omega), fun n4 e4 c4 d4 g4 a4 H4 na4 sm4 nt4 => ?_, fun z => RaisesI.back (kB z) (by fail "sm"), fun n e b1 b2 => dbl_bad (kC n e b1 b2) (by fail "sm") pb⟩⟩
      rw [dbl_rel] at nt4
      exact kG n4 e4 c4 d4 (dbl_good g4) a4 H4 (free_back na4 sm) (sm.trans sm4) nt4
theorem ne_of_none' {H : Hp} {p q : Addr} {o : HO} (n : H p = none) (h : H q = some o) : p ≠ q := fun z => by
  rw [z, h] at n
  cases n
/-- a net of one count, always the same -/
def spNamed (CN CI : Addr) (S : Nat → Rel) : Sp := fun vs H Q E => ∃ (c : Int), vs = [.ref CN, .int c] ∧ (∀ n : Nat, c = n → 1 ≤ n → n ≤ 24 → ∀ a H', H a = none → Same H H' → NetAt CN H' a n (S n) → Q (.ref a) H') ∧ (¬ (1 ≤ c ∧ c ≤ 24) → RaisesI CI .non H E)
def lineR (_ : Nat) : Rel := fun x y => decide (y = x + 1 ∨ x = y + 1)
def starR (_ : Nat) : Rel := fun x y => decide (x ≠ y ∧ (x = 0 ∨ y = 0))
def wholeR (_ : Nat) : Rel := fun x y => decide (x ≠ y)
def ringR (n : Nat) : Rel := fun x y => decide (x ≠ y ∧ y = (x + 1) % n)
theorem rel_map {n : Nat} {R : Rel} {both : Bool} {k : Nat} {f : Nat → Int × Int} (h : ∀ x y, x < n → y < n → (R x y = true ↔ ((∃ i, i < k ∧ f i = ((x : Int), (y : Int))) ∨ (both = true ∧ ∃ i, i < k ∧ f i = ((y : Int), (x : Int)))))) : ∀ x y, x < n → y < n → relP ((List.range k).map f) both x y = R x y := by
  intro x y hx hy
  rw [Bool.eq_iff_iff, relP_iff, h x y hx hy]
  simp only [List.mem_map, List.mem_range]
theorem good_map {n k : Nat} {f : Nat → Int × Int} (h : ∀ i, i < k → Good n (f i)) : ∀ p ∈ (List.range k).map f, Good n p := by
  intro p hp
  obtain ⟨i, hi, rfl⟩ := List.mem_map.mp hp
  exact h i (List.mem_range.mp hi)
abbrev sNetLine : Stmt := inClass (top 6) 3
theorem scNetLine : FnScope ["cls", "count", "x"] ["cls", "count"] (defScope sNetLine) := ⟨rfl, rfl, rfl, by decide +kernel, rfl, by decide +kernel, by decide +kernel⟩
theorem ok_NetLine {f : Addr} {fd : FuncData} (F : L2.Fun K "line" "Net.line" sNetLine f fd) (T : NTx K mg CN mc mu) (GCheckCount : CalX P w K mg base 3 "check_count" (spCheckCount CI)) (Nboth_ways : ClmX P w K mg base 7 CN "both_ways" (spBoth CN CI)) : FnOk P w K mg base (L2.CX P w) 9 f fd ["cls", "count"] (spNamed CN CI lineR) := by
  refine F.okX scNetLine (fun vs H Q E h => ?_) (fun cdv A outer s H vs Q E hr h => ?_)
  · obtain ⟨c, rfl, kG, kB⟩ := h
    rfl
  · obtain ⟨c, rfl, kG, kB⟩ := h
    refine ⟨_, (pss_cons (ps_expr (pe_cX GCheckCount hr (by decide) (by rfl) (passes_call (takes_of rfl rfl rfl rfl) fun _ _ _ _ h => h) (pa_cons (pv 1) pa_nil)))
      (pss_one (ps_ret (pe_clm Nboth_ways hr (by decide) (passes_call (takes_of rfl rfl rfl rfl) fun _ _ _ _ h => h) (pv 0) (pa_cons (pv 1) (pa_cons (pe_lc (own := [("x", 2)]) (g := gName 2) (tt := tYes) rfl scNetLine.nd (pi_range1 rfl T.range (pa_cons (pe_op op_sub (pv 1) pe_int) pa_nil)) (blkOk_by (N := ["cls", "count", "x"]) (sc := defScope sNetLine) (by decide +kernel)) (fun _ _ _ _ _ => (pg_name (i := 2) scNetLine.nd rfl (Or.inl rfl))) (fun _ _ _ _ _ => pts_nil) (fun _ _ _ _ _ => (pe_tup (pa_cons (pv 2) (pa_cons (pe_op op_add (pv 2) pe_int) pa_nil))))) pa_nil)))))), ?_⟩
    -- check_count(count)
    refine ⟨_, rfl, _, rfl, fun gd1 H1 sm1 => ?_, fun z => RaisesI.back (kB z) (by fail "sm")⟩
    obtain ⟨n, rfl, b1, b2⟩ : ∃ n : Nat, c = n ∧ 1 ≤ n ∧ n ≤ 24 := ⟨c.toNat, by omega, by omega, by omega⟩
    -- return cls.both_ways(count, [(x, x + 1) for x in range(count - 1)])
    refine ⟨_, rfl, rfl, _, rfl, _, rfl, _, _, rfl, rfl, _, rfl, (by fail "om"), (by fail "om"), fun D1 nD1 => lc_range (lo := 0) (n := ((n : Int) - 1).toNat) (fun i H' => ∃ as : List Addr, Same H1 H' ∧ H' D1 = some (.lst (as.map V.ref)) ∧ PrT H' as ((List.range i).map (fun (i : Nat) => (((0 : Int) + (i : Int), (0 : Int) + (i : Int) + 1) : Int × Int)))) ⟨[], Same.new (Same.refl _) nD1, upd_same, PrT.nil⟩ (fun i H' hi z => by
      obtain ⟨as, sm, hD, pa⟩ := z
      have lb : as.length = i := by rw [pa.1, List.length_map, List.length_range]
      have hn : i < n - 1 := by omega
      refine ⟨rfl, ?_⟩
      unfold tYes
      refine iteT ?_
      refine ⟨_, rfl, _, rfl, _, _, rfl, rfl, (by fail "sz"), fun p np => ⟨_, (by fail "hp"), (by fail "szl"), as ++ [p], Same.mut (by fail "sm") nD1, ?_, ?_⟩⟩
      · rw [upd_same, List.map_append]
        rfl
      · rw [List.range_succ, List.map_append]
        refine PrT.snoc (PrT.mono pa (by fail "tk")) ?_
        have q : p ≠ D1 := ne_of_none' np hD
        rw [upd_ne q, upd_same]) fun H' z => by
      obtain ⟨as, sm, hD, pa⟩ := z
      rw [show ((n : Int) - 1).toNat = n - 1 by omega] at pa
      have la : as.length ≤ 24 := by rw [pa.1, List.length_map, List.length_range]; omega
      refine ⟨_, _, _, _, rfl, (by fail "hp"), (by fail "pr"), (by fail "om"), fun n2 e2 c2 d2 g2 a2 H2 na2 sm2 nt2 => ?_, fun z => absurd gd1 z, fun m e _ _ => BadP.none (good_map fun i hi => ⟨by dsimp only; omega, by dsimp only; omega, by dsimp only; omega, by dsimp only; omega, by dsimp only; omega⟩)⟩
      obtain rfl : n = n2 := by omega
      refine kG n rfl b1 b2 a2 H2 (free_back na2 (sm1.trans sm)) ((sm1.trans sm).trans sm2) (NetAt.congr nt2 (rel_map fun x y hx hy => ?_))
      unfold lineR
      rw [decide_eq_true_eq]
      constructor
      · rintro (e | e)
        · exact .inl ⟨x, by omega, Prod.ext (by show (0 : Int) + (x : Int) = x; omega) (by show (0 : Int) + (x : Int) + 1 = y; omega)⟩
        · exact .inr ⟨rfl, y, by omega, Prod.ext (by show (0 : Int) + (y : Int) = y; omega) (by show (0 : Int) + (y : Int) + 1 = x; omega)⟩
      · rintro (⟨i, hi, e⟩ | ⟨_, i, hi, e⟩)
        · have e1 : (0 : Int) + (i : Int) = x := congrArg Prod.fst e
          have e2 : (0 : Int) + (i : Int) + 1 = y := congrArg Prod.snd e
          exact .inl (by omega)
        · have e1 : (0 : Int) + (i : Int) = y := congrArg Prod.fst e
          have e2 : (0 : Int) + (i : Int) + 1 = x := congrArg Prod.snd e
          exact .inr (by omega)⟩
    skip
abbrev sNetStar : Stmt := inClass (top 6) 4
theorem scNetStar : FnScope ["cls", "count", "x"] ["cls", "count"] (defScope sNetStar) := ⟨rfl, rfl, rfl, by decide +kernel, rfl, by decide +kernel, by decide +kernel⟩
theorem ok_NetStar {f : Addr} {fd : FuncData} (F : L2.Fun K "star" "Net.star" sNetStar f fd) (T : NTx K mg CN mc mu) (GCheckCount : CalX P w K mg base 3 "check_count" (spCheckCount CI)) (Nboth_ways : ClmX P w K mg base 7 CN "both_ways" (spBoth CN CI)) : FnOk P w K mg base (L2.CX P w) 9 f fd ["cls", "count"] (spNamed CN CI starR) := by
  refine F.okX scNetStar (fun vs H Q E h => ?_) (fun cdv A outer s H vs Q E hr h => ?_)
  · obtain ⟨c, rfl, kG, kB⟩ := h
    rfl
  · obtain ⟨c, rfl, kG, kB⟩ := h
    refine ⟨_, (pss_cons (ps_expr (pe_cX GCheckCount hr (by decide) (by rfl) (passes_call (takes_of rfl rfl rfl rfl) fun _ _ _ _ h => h) (pa_cons (pv 1) pa_nil)))
      (pss_one (ps_ret (pe_clm Nboth_ways hr (by decide) (passes_call (takes_of rfl rfl rfl rfl) fun _ _ _ _ h => h) (pv 0) (pa_cons (pv 1) (pa_cons (pe_lc (own := [("x", 2)]) (g := gName 2) (tt := tYes) rfl scNetStar.nd (pi_range2 rfl T.range (pa_cons pe_int (pa_cons (pv 1) pa_nil))) (blkOk_by (N := ["cls", "count", "x"]) (sc := defScope sNetStar) (by decide +kernel)) (fun _ _ _ _ _ => (pg_name (i := 2) scNetStar.nd rfl (Or.inl rfl))) (fun _ _ _ _ _ => pts_nil) (fun _ _ _ _ _ => (pe_tup (pa_cons pe_int (pa_cons (pv 2) pa_nil))))) pa_nil)))))), ?_⟩
    -- check_count(count)
    refine ⟨_, rfl, _, rfl, fun gd1 H1 sm1 => ?_, fun z => RaisesI.back (kB z) (by fail "sm")⟩
    obtain ⟨n, rfl, b1, b2⟩ : ∃ n : Nat, c = n ∧ 1 ≤ n ∧ n ≤ 24 := ⟨c.toNat, by omega, by omega, by omega⟩
    -- return cls.both_ways(count, [(0, x) for x in range(1, count)])
    refine ⟨_, rfl, rfl, _, rfl, _, rfl, _, _, rfl, ⟨by fail "om", by fail "om", by fail "om", by fail "om"⟩, fun D1 nD1 => lc_range (lo := 1) (n := ((n : Int) - 1).toNat) (fun i H' => ∃ as : List Addr, Same H1 H' ∧ H' D1 = some (.lst (as.map V.ref)) ∧ PrT H' as ((List.range i).map (fun (i : Nat) => (((0 : Int), (1 : Int) + (i : Int)) : Int × Int)))) ⟨[], Same.new (Same.refl _) nD1, upd_same, PrT.nil⟩ (fun i H' hi z => by
      obtain ⟨as, sm, hD, pa⟩ := z
      have lb : as.length = i := by rw [pa.1, List.length_map, List.length_range]
      have hn : i < n - 1 := by omega
      refine ⟨rfl, ?_⟩
      unfold tYes
      refine iteT ?_
      refine ⟨_, rfl, (by fail "sz"), fun p np => ⟨_, (by fail "hp"), (by fail "szl"), as ++ [p], Same.mut (by fail "sm") nD1, ?_, ?_⟩⟩
      · rw [upd_same, List.map_append]
        rfl
      · rw [List.range_succ, List.map_append]
        refine PrT.snoc (PrT.mono pa (by fail "tk")) ?_
        have q : p ≠ D1 := ne_of_none' np hD
        rw [upd_ne q, upd_same]) fun H' z => by
      obtain ⟨as, sm, hD, pa⟩ := z
      rw [show ((n : Int) - 1).toNat = n - 1 by omega] at pa
      have la : as.length ≤ 24 := by rw [pa.1, List.length_map, List.length_range]; omega
      refine ⟨_, _, _, _, rfl, (by fail "hp"), (by fail "pr"), (by fail "om"), fun n2 e2 c2 d2 g2 a2 H2 na2 sm2 nt2 => ?_, fun z => absurd gd1 z, fun m e _ _ => BadP.none (good_map fun i hi => ⟨by dsimp only; omega, by dsimp only; omega, by dsimp only; omega, by dsimp only; omega, by dsimp only; omega⟩)⟩
      obtain rfl : n = n2 := by omega
      refine kG n rfl b1 b2 a2 H2 (free_back na2 (sm1.trans sm)) ((sm1.trans sm).trans sm2) (NetAt.congr nt2 (rel_map fun x y hx hy => ?_))
      unfold starR
      rw [decide_eq_true_eq]
      constructor
      · rintro ⟨e, h | h⟩
        · exact .inl ⟨y - 1, by omega, Prod.ext (by show (0 : Int) = x; omega) (by show (1 : Int) + ((y - 1 : Nat) : Int) = y; omega)⟩
        · exact .inr ⟨rfl, x - 1, by omega, Prod.ext (by show (0 : Int) = y; omega) (by show (1 : Int) + ((x - 1 : Nat) : Int) = x; omega)⟩
      · rintro (⟨i, hi, e⟩ | ⟨_, i, hi, e⟩)
        · have e1 : (0 : Int) = x := congrArg Prod.fst e
          have e2 : (1 : Int) + (i : Int) = y := congrArg Prod.snd e
          exact ⟨by omega, .inl (by omega)⟩
        · have e1 : (0 : Int) = y := congrArg Prod.fst e
          have e2 : (1 : Int) + (i : Int) = x := congrArg Prod.snd e
          exact ⟨by omega, .inr (by omega)⟩⟩
    skip
theorem ring_step {n i : Nat} (h2 : 2 ≤ n) (hi : i < n) : (i + 1) % n < n ∧ (i + 1) % n ≠ i := by
  refine ⟨Nat.mod_lt _ (by omega), ?_⟩
  by_cases h : i + 1 < n
  · rw [Nat.mod_eq_of_lt h]
    omega
  · have e : i + 1 = n := by omega
    rw [e, Nat.mod_self]
    omega
theorem ring_int (n i : Nat) : ((0 : Int) + (i : Int) + 1).fmod (n : Int) = (((i + 1) % n : Nat) : Int) := by
  rw [Int.fmod_eq_emod_of_nonneg _ (by omega), show (0 : Int) + (i : Int) + 1 = ((i + 1 : Nat) : Int) by omega]
  rfl
theorem relP_nil (both : Bool) (x y : Nat) : relP [] both x y = false := rfl
abbrev sNetRing : Stmt := inClass (top 6) 6
theorem scNetRing : FnScope ["cls", "count", "x"] ["cls", "count"] (defScope sNetRing) := ⟨rfl, rfl, rfl, by decide +kernel, rfl, by decide +kernel, by decide +kernel⟩
theorem ok_NetRing {f : Addr} {fd : FuncData} (F : L2.Fun K "ring" "Net.ring" sNetRing f fd) (T : NTx K mg CN mc mu) (GCheckCount : CalX P w K mg base 3 "check_count" (spCheckCount CI)) (KNet : MakX P w K mg base 5 "Net" CN (spInit CN CI)) : FnOk P w K mg base (L2.CX P w) 7 f fd ["cls", "count"] (spNamed CN CI ringR) := by
  refine F.okX scNetRing (fun vs H Q E h => ?_) (fun cdv A outer s H vs Q E hr h => ?_)
  · obtain ⟨c, rfl, kG, kB⟩ := h
    rfl
  · obtain ⟨c, rfl, kG, kB⟩ := h
    refine ⟨_, (pss_cons (ps_expr (pe_cX GCheckCount hr (by decide) (by rfl) (passes_call (takes_of rfl rfl rfl rfl) fun _ _ _ _ h => h) (pa_cons (pv 1) pa_nil)))
      (pss_cons (ps_if (pt_cmpR op_eq (pv 1) pe_int (nomark _))
        (pss_one (ps_ret (pe_mkL (i := 0) KNet hr (by decide) (passes_call (takes_of rfl rfl rfl rfl) fun _ _ _ _ h => h) rfl (Or.inl rfl) (pa_cons (pv 1) (pa_cons (pe_lst pa_nil) pa_nil)))))
        pss_nil)
      (pss_one (ps_ret (pe_mkL (i := 0) KNet hr (by decide) (passes_call (takes_of rfl rfl rfl rfl) fun _ _ _ _ h => h) rfl (Or.inl rfl) (pa_cons (pv 1) (pa_cons (pe_lc (own := [("x", 2)]) (g := gName 2) (tt := tYes) rfl scNetRing.nd (pi_range1 rfl T.range (pa_cons (pv 1) pa_nil)) (blkOk_by (N := ["cls", "count", "x"]) (sc := defScope sNetRing) (by decide +kernel)) (fun _ _ _ _ _ => (pg_name (i := 2) scNetRing.nd rfl (Or.inl rfl))) (fun _ _ _ _ _ => pts_nil) (fun _ _ _ _ _ => (pe_tup (pa_cons (pv 2) (pa_cons (pe_op op_modN (pe_op op_add (pv 2) pe_int) (pv 1)) pa_nil))))) pa_nil))))))), ?_⟩
    -- check_count(count)
    refine ⟨_, rfl, _, rfl, fun gd1 H1 sm1 => ?_, fun z => RaisesI.back (kB z) (by fail "sm")⟩
    obtain ⟨n, rfl, b1, b2⟩ : ∃ n : Nat, c = n ∧ 1 ≤ n ∧ n ≤ 24 := ⟨c.toNat, by omega, by omega, by omega⟩
    -- if count == 1:
    refine ⟨_, rfl, rfl, _, rfl, ?_⟩
    refine ifEqI (fun g2 => ?_) (fun g2 => ?_)
    · -- return cls(count, [])
      refine ⟨rfl, _, rfl, (by fail "sz"), fun p4 np4 => mk_init ⟨_, _, [], [], rfl, upd_same, PrT.nil, (by decide), fun n3 e3 c3 d3 g3 a3 H3 na3 sm3 nt3 => ?_, fun z => absurd gd1 z, fun _ _ _ _ => BadRow.none (fun p hp => absurd hp List.not_mem_nil)⟩⟩
      obtain rfl : n = n3 := by omega
      refine kG n rfl b1 b2 a3 H3 (free_back na3 (Same.new sm1 np4)) (Same.trans (Same.new sm1 np4) sm3) (NetAt.congr nt3 fun x y hx hy => ?_)
      rw [relP_nil]
      unfold ringR
      exact (decide_eq_false (by omega)).symm
    · -- return cls(count, [(x, (x + 1) % count) for x in range(count)])
      refine ⟨rfl, _, rfl, _, rfl, _, rfl, (by fail "om"), (by fail "om"), fun D1 nD1 => lc_range (lo := 0) (n := ((n : Int)).toNat) (fun i H' => ∃ as : List Addr, Same H1 H' ∧ H' D1 = some (.lst (as.map V.ref)) ∧ PrT H' as ((List.range i).map (fun (i : Nat) => (((0 : Int) + (i : Int), ((0 : Int) + (i : Int) + 1).fmod (n : Int)) : Int × Int)))) ⟨[], Same.new (Same.refl _) nD1, upd_same, PrT.nil⟩ (fun i H' hi z => by
      obtain ⟨as, sm, hD, pa⟩ := z
      have lb : as.length = i := by rw [pa.1, List.length_map, List.length_range]
      have hn : i < n := by omega
      refine ⟨rfl, ?_⟩
      unfold tYes
      refine iteT ?_
      refine ⟨_, rfl, _, rfl, _, _, rfl, rfl, _, rfl, _, _, rfl, rfl, (by fail "nz"), (by fail "sz"), fun p np => ⟨_, (by fail "hp"), (by fail "szl"), as ++ [p], Same.mut (by fail "sm") nD1, ?_, ?_⟩⟩
      · rw [upd_same, List.map_append]
        rfl
      · rw [List.range_succ, List.map_append]
        refine PrT.snoc (PrT.mono pa (by fail "tk")) ?_
        have q : p ≠ D1 := ne_of_none' np hD
        rw [upd_ne q, upd_same]) fun H' z => by
      obtain ⟨as, sm, hD, pa⟩ := z
      rw [show ((n : Int)).toNat = n by omega] at pa
      have la : as.length ≤ 24 := by rw [pa.1, List.length_map, List.length_range]; omega
      refine mk_init ⟨_, _, _, _, rfl, (by fail "hp"), (by fail "pr"), (by omega), fun n5 e5 c5 d5 g5 a5 H5 na5 sm5 nt5 => ?_, fun z => absurd gd1 z, fun m e _ _ => BadRow.none (good_map fun i hi => by obtain rfl : n = m := (by omega); obtain ⟨q1, q2⟩ := ring_step (by omega) hi; refine ⟨by dsimp only; omega, by dsimp only; omega, by dsimp only; rw [ring_int]; omega, by dsimp only; rw [ring_int]; omega, by dsimp only; rw [ring_int]; omega⟩)⟩
      obtain rfl : n = n5 := by omega
      refine kG n rfl b1 b2 a5 H5 (free_back na5 (sm1.trans sm)) ((sm1.trans sm).trans sm5) (NetAt.congr nt5 (rel_map fun x y hx hy => ?_))
      have h2 : 2 ≤ n := by omega
      unfold ringR
      rw [decide_eq_true_eq]
      constructor
      · rintro ⟨e, h⟩
        exact .inl ⟨x, hx, Prod.ext (by show (0 : Int) + (x : Int) = x; omega) (by show ((0 : Int) + (x : Int) + 1).fmod (n : Int) = y; rw [ring_int, h])⟩
      · rintro (⟨i, hi, e⟩ | ⟨h, _⟩)
        · have e1 : (0 : Int) + (i : Int) = x := congrArg Prod.fst e
          have e2 : ((0 : Int) + (i : Int) + 1).fmod (n : Int) = y := congrArg Prod.snd e
          rw [ring_int] at e2
          obtain rfl : i = x := by omega
          obtain ⟨q1, q2⟩ := ring_step h2 hi
          exact ⟨by omega, by omega⟩
        · exact absurd h Bool.false_ne_true⟩
      skip
end
end K00

end
section
set_option Elab.async false
set_option linter.all false
set_option maxRecDepth 100000
set_option maxHeartbeats 800000
namespace K00
open PySem L2 Kit KR KX
local macro_rules | `(tactic| fail "om") => `(tactic| first | omega | (simp only [List.length_map, List.length_append, List.length_cons, List.length_nil]; omega) | (simp only [List.length_map, List.length_append, List.length_cons, List.length_nil] at *; omega) | assumption | decide | fail "no om")
local macro_rules | `(tactic| fail "nz") => `(tactic| first | decide | omega | fail "no nz")
local macro_rules | `(tactic| fail "dv") => `(tactic| exact ⟨by first | decide | omega, by first | decide | omega⟩)
local macro_rules | `(tactic| fail "mul") => `(tactic| first | exact .inr ⟨by decide, by decide⟩ | exact .inl ⟨by decide, by decide⟩ | exact mulF (by decide) (by decide) | exact .inl ⟨by omega, by omega⟩ | exact .inr ⟨by omega, by omega⟩ | fail "no mul")
local macro_rules | `(tactic| fail "sz") => `(tactic| first | assumption | exact Nat.zero_le _ | (show 1 ≤ sizeLine; decide) | (show 2 ≤ sizeLine; decide) | (show 3 ≤ sizeLine; decide) | (show 4 ≤ sizeLine; decide) | (show 5 ≤ sizeLine; decide) | exact Evl.sz_of (by omega) | (refine Evl.sz_of ?_; simp only [List.length_append, List.length_map, List.length_cons, List.length_nil]; omega) | fail "no sz")
local macro_rules | `(tactic| fail "szl") => `(tactic| first | exact Evl.sz_lt (by omega) | (refine Evl.sz_lt ?_; simp only [List.length_append, List.length_map, List.length_cons, List.length_nil]; omega) | fail "no szl")
local macro_rules | `(tactic| fail "ix") => `(tactic| first | assumption | exact ix0 | exact ix1 | exact ix2 | exact at_ref (by assumption) (by omega) | exact at_int (by assumption) (by omega) | exact at_drawn (by assumption) (by assumption) | rfl | fail "no ix")
local macro_rules | `(tactic| fail "ixn") => `(tactic| first | rfl | assumption | fail "no ixn")
local macro_rules | `(tactic| fail "nb") => `(tactic| first | assumption | exact nb_tup | exact nb_nil | exact nb_ints | exact nb_refs | exact nb_ins | exact nb_dT | exact nb_frz | fail "no nb")
local macro_rules | `(tactic| fail "ne") => `(tactic| first | assumption | exact Ne.symm (by assumption) | exact ne_of_none (by assumption) (by assumption) | exact (ne_of_none (by assumption) (by assumption)).symm | exact ne_of (by assumption) (by assumption) (by intro q; cases q) | exact ne_of (by assumption) (by assumption) (by simp) | fail "no ne")
local macro_rules | `(tactic| fail "hp") => `(tactic| first | assumption | exact upd_same | (refine' Tk.get (by assumption) ?k1; (case k1 => fail "tk")) | (with_reducible refine' upd_new ?h1 ?n1; (case n1 => assumption); (case h1 => fail "hp")) | (refine' Same.get (by assumption) ?h1; (case h1 => fail "hp")) | (refine' Kp.get (by assumption) (by fail "bx") ?h1 ?d1; (case h1 => fail "hp"); (case d1 => fail "nb")) | (with_reducible refine' upd_oth ?h1 ?n1; (case n1 => fail "ne"); (case h1 => fail "hp")) | (with_reducible refine' upd_oth ?h1 ?n1; (case h1 => fail "hp"); (case n1 => fail "ne")) | fail "no hp")
local macro_rules | `(tactic| fail "bx") => `(tactic| first | assumption | (with_reducible refine' BoxOk.new ?h1 ?n1; (case n1 => assumption); (case h1 => fail "bx")) | (refine' BoxOk.same (by assumption) ?h1; (case h1 => fail "bx")) | (with_reducible refine' BoxOk.mut ?h1 ?h2 ?n1; (case n1 => assumption); (case h2 => assumption); (case h1 => fail "bx")) | fail "no bx")
local macro_rules | `(tactic| fail "kp") => `(tactic| first | assumption | exact Kp.refl | (with_reducible refine' Kp.at ?h1; (case h1 => fail "kp")) | (with_reducible refine' Kp.new ?h1 ?n1; (case n1 => assumption); (case h1 => fail "kp")) | (with_reducible refine' Kp.mut ?h1 ?n1; (case n1 => assumption); (case h1 => fail "kp")) | (refine' Kp.tr (by assumption) ?h1; (case h1 => fail "kp")) | (refine' Kp.tr (Kp.of (by assumption)) ?h1; (case h1 => fail "kp")) | fail "no kp")
local macro_rules | `(tactic| fail "ite") => `(tactic| first | refine iteT ?_ | refine iteF ?_)
local macro_rules | `(tactic| fail "tt") => `(tactic| first | rfl | exact decide_eq_true (by first | rfl | omega | assumption) | exact decide_eq_true (congrArg V.int (by first | rfl | omega)) | fail "no tt")
local macro_rules | `(tactic| fail "cv") => `(tactic| first | exact .ty _ | exact .own _)
local macro_rules | `(tactic| fail "tx") => `(tactic| first | exact .base (.int _) | exact .base (.bl _) | exact .base .non | exact .base (.lst (by fail "hp")) | exact .base (.tup (by fail "hp")) | fail "no tx")
local macro_rules | `(tactic| fail "dead") => `(tactic| (exfalso; first | omega | contradiction | simp_all))
local macro_rules | `(tactic| fail "dp") => `(tactic| first | exact .tup (SqT.of (by fail "hp")) (.cons (.int _) (.cons (.int _) .nil)) | exact .lst (SqL.of (by fail "hp")) (dpPrs (by fail "pr")) | exact .lst (SqL.of (by fail "hp")) (dpInts _) | exact .lst (SqL.of (by fail "hp")) .nil | fail "no dp")
local macro_rules | `(tactic| fail "shp") => `(tactic| first | assumption | exact prD_shaped _ | exact PySem.W.ke_shaped_ints _ | rfl | fail "no shp")
local macro_rules | `(tactic| fail "pr") => `(tactic| first | assumption | exact PrT.mono (by assumption) (by fail "tk") | fail "no pr")
local macro_rules | `(tactic| fail "tk") => `(tactic| first | assumption | exact Tk.refl | (with_reducible refine' Tk.new ?h1 ?n1; (case n1 => assumption); (case h1 => fail "tk")) | (refine' Tk.tr (Kp.tk (by assumption) (by fail "bx")) ?h1; (case h1 => fail "tk")) | (refine' Tk.tr (Same.tk (by assumption)) ?h1; (case h1 => fail "tk")) | (with_reducible refine' Tk.lst ?h1 ?n1; (case n1 => fail "hp"); (case h1 => fail "tk")) | fail "no tk")
local macro_rules | `(tactic| fail "lk") => `(tactic| first | exact netF_count _ _ | exact netF_links _ _ | exact netF_no _ _ (by decide +kernel) (by decide +kernel) | fail "no lk")
local macro_rules | `(tactic| fail "kt") => `(tactic| first | exact upd_same | assumption | fail "hp")
local macro_rules | `(tactic| fail "na") => `(tactic| first | assumption | (with_reducible refine' NetAt.new ?h1 ?n1; (case n1 => assumption); (case h1 => fail "na")) | (refine' NetAt.same (by assumption) ?h1; (case h1 => fail "na")) | (refine' NetAt.kp (by assumption) (by fail "bx") ?h1; (case h1 => fail "na")) | (with_reducible refine' NetAt.lst ?h1 ?n1; (case n1 => fail "hp"); (case h1 => fail "na")) | fail "no na")
local macro_rules | `(tactic| fail "mono") => `(tactic| first | exact fun _ _ _ _ h q => h _ _ q | exact fun _ _ _ _ h q => (let ⟨v, e, z⟩ := q; ⟨v, e, h _ _ z⟩) | exact fun _ _ _ _ h q => (let ⟨v, e, u, f, z⟩ := q; ⟨v, e, u, f, h _ _ z⟩) | fail "no mono")
local macro_rules | `(tactic| fail "sm") => `(tactic| first | assumption | exact Same.refl _ | (with_reducible refine' Same.new ?h1 ?n1; (case n1 => assumption); (case h1 => fail "sm")) | (refine' Same.tr (by assumption) ?h1; (case h1 => fail "sm")) | fail "no sm")
local macro_rules | `(tactic| fail "fld") => `(tactic| first | (show 0 < 1000; decide) | (show 1 < 1000; decide) | fail "no fld")

section
variable {P : Program} {w : World} {K : PySem.W.Frag} {mg : Str → Option Value} {base : Heap} {CN CI CU CL CS : Addr} {mc mu : Value}

theorem rel_ties {n : Nat} (R : Rel) : ∀ x y, x < n → y < n → relP (ties n R) false x y = R x y := by
  intro x y hx hy
  rw [Bool.eq_iff_iff, relP_iff, has_nat hx hy]
  simp
theorem good_ties {n : Nat} {R : Rel} (ir : ∀ x y, x < n → y < n → R x y = true → x ≠ y) : ∀ p ∈ ties n R, Good n p := by
  intro p hp
  obtain ⟨x, y, hx, hy, r, rfl⟩ := mem_ties.mp hp
  have := ir x y hx hy r
  exact ⟨by dsimp only; omega, by dsimp only; omega, by dsimp only; omega, by dsimp only; omega, by dsimp only; omega⟩
abbrev sNetComplete : Stmt := inClass (top 6) 5
theorem scNetComplete : FnScope ["cls", "count", "x", "y"] ["cls", "count"] (defScope sNetComplete) := ⟨rfl, rfl, rfl, by decide +kernel, rfl, by decide +kernel, by decide +kernel⟩
theorem ok_NetComplete {f : Addr} {fd : FuncData} (F : L2.Fun K "complete" "Net.complete" sNetComplete f fd) (T : NTx K mg CN mc mu) (GCheckCount : CalX P w K mg base 3 "check_count" (spCheckCount CI)) (KNet : MakX P w K mg base 5 "Net" CN (spInit CN CI)) : FnOk P w K mg base (L2.CX P w) 7 f fd ["cls", "count"] (spNamed CN CI wholeR) := by
  refine F.okX scNetComplete (fun vs H Q E h => ?_) (fun cdv A outer s H vs Q E hr h => ?_)
  · obtain ⟨c, rfl, kG, kB⟩ := h
    rfl
  · obtain ⟨c, rfl, kG, kB⟩ := h
    refine ⟨_, (pss_cons (ps_expr (pe_cX GCheckCount hr (by decide) (by rfl) (passes_call (takes_of rfl rfl rfl rfl) fun _ _ _ _ h => h) (pa_cons (pv 1) pa_nil)))
      (pss_one (ps_ret (pe_mkL (i := 0) KNet hr (by decide) (passes_call (takes_of rfl rfl rfl rfl) fun _ _ _ _ h => h) rfl (Or.inl rfl) (pa_cons (pv 1) (pa_cons (pe_lc2 (own := [("x", 2), ("y", 3)]) (vs1 := [3]) (g := gName 2) (g1 := gName 3) (tt := tYes) rfl scNetComplete.nd (pi_range1 rfl T.range (pa_cons (pv 1) pa_nil)) (blkOk_by (N := ["cls", "count", "x", "y"]) (sc := defScope sNetComplete) (by decide +kernel)) (by decide) (fun _ _ _ _ _ => (pg_name (i := 2) scNetComplete.nd rfl (Or.inl rfl))) (fun _ _ _ _ _ => pts_nil) (fun _ _ _ _ _ => (pi_range1 rfl T.range (pa_cons (pv 1) pa_nil))) (fun _ _ _ _ _ => (pg_name (i := 3) scNetComplete.nd rfl (Or.inl rfl))) (fun _ _ _ _ _ => (pts_one (pt_cmpR op_ne (pv 2) (pv 3) (nomark _)))) (fun _ _ _ _ _ => (pe_tup (pa_cons (pv 2) (pa_cons (pv 3) pa_nil))))) pa_nil)))))), ?_⟩
    -- check_count(count)
    refine ⟨_, rfl, _, rfl, fun gd1 H1 sm1 => ?_, fun z => RaisesI.back (kB z) (by fail "sm")⟩
    obtain ⟨n, rfl, b1, b2⟩ : ∃ n : Nat, c = n ∧ 1 ≤ n ∧ n ≤ 24 := ⟨c.toNat, by omega, by omega, by omega⟩
    -- return cls(count, [(x, y) for x in range(count) for y in range(count) if x != y])
    refine ⟨rfl, _, rfl, _, rfl, _, rfl, (by fail "om"), (by fail "om"), fun D1 nD1 => ⟨fun i m H' => (m = n - i ∧ i ≤ n) ∧ ∃ as : List Addr, Same H1 H' ∧ H' D1 = some (.lst (as.map V.ref)) ∧ PrT H' as (tiesTo n (wholeR n) i), ⟨n, ⟨by omega, Nat.zero_le _⟩, [], Same.new (Same.refl _) nD1, upd_same, PrT.nil⟩, fun i m H' z => by
      obtain ⟨⟨rfl, hi⟩, as, sm, hD, pa⟩ := z
      by_cases hlt : i < n
      · right
        refine ⟨by show i < ((n : Int)).toNat; omega, fun H' => ∃ as : List Addr, Same H1 H' ∧ H' D1 = some (.lst (as.map V.ref)) ∧ PrT H' as (tiesTo n (wholeR n) (i + 1)), fun H' z => ⟨n - (i + 1), by omega, ⟨rfl, hlt⟩, z⟩, fun x H2 y => ?_⟩
        obtain ⟨ex, ey⟩ := y
        subst ex
        subst ey
        refine ⟨rfl, ?_⟩
        unfold tYes
        refine iteT ?_
        refine ⟨_, rfl, _, rfl, (by fail "om"), (by fail "om"), ?_⟩
        refine ⟨fun j k H' => (k = n - j ∧ j ≤ n) ∧ ∃ as : List Addr, Same H1 H' ∧ H' D1 = some (.lst (as.map V.ref)) ∧ PrT H' as (tiesTo n (wholeR n) i ++ rowT (wholeR n) i j), ⟨n, ⟨by omega, Nat.zero_le _⟩, as, sm, hD, by show PrT _ as (_ ++ []); rw [List.append_nil]; exact pa⟩, fun j k H3 z => ?_⟩
        obtain ⟨⟨rfl, hj⟩, as, sm, hD, pa⟩ := z
        by_cases hjl : j < n
        · right
          have lb : as.length ≤ 1200 := by
            have q1 := tiesTo_len n (wholeR n) i
            have q2 := rowT_len (wholeR n) i j
            have q3 : i * n ≤ 24 * 24 := Nat.mul_le_mul (by omega) b2
            rw [pa.1, List.length_append]
            omega
          refine ⟨by show j < ((n : Int)).toNat; omega, fun H' => ∃ as : List Addr, Same H1 H' ∧ H' D1 = some (.lst (as.map V.ref)) ∧ PrT H' as (tiesTo n (wholeR n) i ++ rowT (wholeR n) i (j + 1)), fun H' z => ⟨n - (j + 1), by omega, ⟨rfl, hjl⟩, z⟩, fun x H4 y => ?_⟩
          obtain ⟨ex, ey⟩ := y
          subst ex
          subst ey
          refine ⟨rfl, _, rfl, _, rfl, rfl, _, rfl, ?_⟩
          refine ifNeI (fun g => ?_) fun g => ?_
          · refine ⟨_, rfl, _, rfl, (by fail "sz"), fun p np => ⟨_, (by fail "hp"), (by fail "szl"), as ++ [p], Same.mut (by fail "sm") nD1, ?_, ?_⟩⟩
            · rw [upd_same, List.map_append]
              rfl
            · rw [rowT_yes (decide_eq_true (by omega)), ← List.append_assoc]
              refine PrT.snoc (PrT.mono pa (by fail "tk")) ?_
              rw [upd_ne (ne_of_none' np hD), upd_same, Int.zero_add, Int.zero_add]
          · refine ⟨as, sm, hD, ?_⟩
            rw [rowT_no (decide_eq_false (by omega))]
            exact pa
        · left
          have e : j = n := by omega
          subst e
          refine ⟨by show ((j : Int)).toNat ≤ j; omega, as, sm, hD, ?_⟩
          rw [tiesTo_succ]
          exact pa
      · left
        have e : i = n := by omega
        subst e
        refine ⟨by show ((i : Int)).toNat ≤ i; omega, ?_⟩
        have la : as.length ≤ 600 := by
          have := tiesTo_len i (wholeR i) i
          have h2 : i * i ≤ 24 * 24 := Nat.mul_le_mul b2 b2
          rw [pa.1]
          omega
        refine mk_init ⟨_, _, _, _, rfl, (by fail "hp"), (by fail "pr"), (by omega), fun n2 e2 c2 d2 g2 a2 H2 na2 sm2 nt2 => ?_, fun z => absurd gd1 z, fun m e _ _ => BadRow.none (fun p hp => (show i = m by omega) ▸ good_ties (R := wholeR i) (fun x y _ _ r => of_decide_eq_true r) p hp)⟩
        obtain rfl : i = n2 := by omega
        exact kG i rfl b1 b2 a2 H2 (free_back na2 (sm1.trans sm)) ((sm1.trans sm).trans sm2) (NetAt.congr nt2 (rel_ties _))⟩⟩
    skip
theorem op_neDB {X : Cx} {K : PySem.W.Frag} (hu : X.A.units + 64 < cLine) (hK : X.K = K) : OpR X (compareOp .NotEq) (rNeD K) := by
  subst hK
  exact op_neD hu
theorem op_eqDB {X : Cx} {K : PySem.W.Frag} (hu : X.A.units + 64 < cLine) (hK : X.K = K) : OpR X (compareOp .Eq) (rEqD K) := by
  subst hK
  exact op_eqD hu
theorem eqv_two (x y s r : Int) : PyData.eqv (.tuple [.int x, .int y]) (.tuple [.int s, .int r]) = decide ((x, y) = (s, r)) := by
  show (x == s && (y == r && true)) = _
  rw [Bool.eq_iff_iff]
  simp
/-- a net is made with one link more; with one less -/
def moreR (R : Rel) (p : Int × Int) : Rel := fun x y => R x y || hitP p x y
def lessR (R : Rel) (p : Int × Int) : Rel := fun x y => R x y && !hitP p x y
theorem hit_iff {p : Int × Int} {x y : Nat} : hitP p x y = true ↔ ((x : Int), (y : Int)) = p := by
  obtain ⟨a, b⟩ := p
  unfold hitP
  rw [decide_eq_true_eq]
  constructor
  · rintro ⟨h1, h2⟩
    exact Prod.ext h1.symm h2.symm
  · intro h
    exact ⟨(congrArg Prod.fst h).symm, (congrArg Prod.snd h).symm⟩
theorem rel_more {n : Nat} (R : Rel) (p : Int × Int) : ∀ x y, x < n → y < n → relP (ties n R ++ [p]) false x y = moreR R p x y := by
  intro x y hx hy
  unfold moreR
  rw [Bool.eq_iff_iff, relP_iff, Bool.or_eq_true, hit_iff, List.mem_append, has_nat hx hy, List.mem_singleton]
  simp
theorem rel_less {n : Nat} (R : Rel) (p : Int × Int) : ∀ x y, x < n → y < n → relP ((ties n R).filter fun q => !decide (q = p)) false x y = lessR R p x y := by
  intro x y hx hy
  unfold lessR
  rw [Bool.eq_iff_iff, relP_iff, Bool.and_eq_true, List.mem_filter, has_nat hx hy, Bool.not_eq_true', Bool.not_eq_true', ← Bool.not_eq_true, ← Bool.not_eq_true, hit_iff, decide_eq_true_eq]
  simp
theorem more_bad {CI : Addr} {n : Nat} {R : Rel} {p : Int × Int} {H : Hp} {E : XK} (g : ∀ q ∈ ties n R, Good n q) (k : ¬ Good n p → RaisesP CI p H E) : BadP CI n (ties n R ++ [p]) H E := by
  intro j q h2 h3 _
  rcases List.mem_append.mp (List.mem_of_getElem? h2) with h | h
  · exact absurd (g q h) h3
  · rw [List.mem_singleton] at h
    subst h
    exact k h3
def spWith (CN CI : Addr) : Sp := fun vs H Q E => ∃ (a : Addr) (n : Nat) (R : Rel) (s r : Int), vs = [.ref a, .int s, .int r] ∧ NetAt CN H a n R ∧ (Good n (s, r) → ∀ a2 H', H a2 = none → Same H H' → NetAt CN H' a2 n (moreR R (s, r)) → Q (.ref a2) H') ∧ (¬ Good n (s, r) → RaisesP CI (s, r) H E)
def spWithout (CN CL : Addr) : Sp := fun vs H Q E => ∃ (a : Addr) (n : Nat) (R : Rel) (s r : Int), vs = [.ref a, .int s, .int r] ∧ NetAt CN H a n R ∧ ((s, r) ∈ ties n R → ∀ a2 H', H a2 = none → Same H H' → NetAt CN H' a2 n (lessR R (s, r)) → Q (.ref a2) H') ∧ (¬ (s, r) ∈ ties n R → RaisesL CL s r H E)
theorem snocR {as : List Addr} {p : Addr} : as.map V.ref ++ [V.ref p] = (as ++ [p]).map V.ref := by
  rw [List.map_append]
  rfl
abbrev sNetWithLink : Stmt := inClass (top 6) 11
theorem scNetWithLink : FnScope ["self", "source", "reader"] ["self", "source", "reader"] (defScope sNetWithLink) := ⟨rfl, rfl, rfl, by decide +kernel, rfl, by decide +kernel, by decide +kernel⟩
theorem ok_NetWithLink {f : Addr} {fd : FuncData} (F : L2.Fun K "with_link" "Net.with_link" sNetWithLink f fd) (T : NTx K mg CN mc mu) (KNet : MakX P w K mg base 5 "Net" CN (spInit CN CI)) (PLinks : PropC P w K mg base 1 CN "links" (spLinks CN)) : FnOk P w K mg base (L2.CX P w) 7 f fd ["self", "source", "reader"] (spWith CN CI) := by
  refine F.okX scNetWithLink (fun vs H Q E h => ?_) (fun cdv A outer s H vs Q E hr h => ?_)
  · obtain ⟨a, n, R, s0, r, rfl, na, kG, kB⟩ := h
    rfl
  · obtain ⟨a, n, R, s0, r, rfl, na, kG, kB⟩ := h
    have na2 := na
    obtain ⟨⟨dx, d, ha, hd⟩, b1, b2, ir⟩ := na2
    refine ⟨_, (pss_one (ps_ret (pe_mkX KNet hr (by decide) (by rfl) (passes_call (takes_of rfl rfl rfl rfl) fun _ _ _ _ h => h) (pa_cons (pe_fld (pv 0) (by rfl)) (pa_cons (pe_op op_cat (pe_pr PLinks hr (by decide) (pv 0)) (pe_lst (pa_cons (pe_tup (pa_cons (pv 1) (pa_cons (pv 2) pa_nil))) pa_nil))) pa_nil))))), ?_⟩
    -- return Net(self.count, self.links + [(source, reader)])
    refine ⟨_, rfl, _, _, _, _, _, rfl, (by fail "hp"), T.cl, T.n_count, (by fail "lk"), _, rfl, _, _, _, rfl, (by fail "hp"), _, _, _, rfl, (by fail "na"), fun l5 as5 H5 nl5 sm5 hl5 pl5 => ⟨_, rfl, _, rfl, (by fail "sz"), fun p4 np4 => ⟨(by fail "sz"), fun p3 np3 => ⟨_, _, _, _, rfl, rfl, (by fail "hp"), (by fail "hp"), Evl.sz_of (by have := pl5.1; have := ties_len R b2; simp only [List.length_map, List.length_cons, List.length_nil]; omega), fun p2 np2 => mk_init ⟨_, _, as5 ++ [p4], ties n R ++ [(s0, r)], rfl, by rw [upd_same, snocR], PrT.snoc (PrT.mono pl5 (by fail "tk")) (by fail "hp"), (by have := pl5.1; have := ties_len R b2; simp only [List.length_append, List.length_cons, List.length_nil]; omega), fun n1 e1 c1 d1 g1 a1 H1 na1 sm1 nt1 => ?_, fun z => absurd (show (1 : Int) ≤ (n : Int) ∧ (n : Int) ≤ 24 by omega) z, fun m e _ _ => by obtain rfl : n = m := (by omega); exact BadP.row (more_bad (good_ties ir) kB) (by fail "sm") (PrT.snoc (t := p4) (PrT.mono pl5 (by fail "tk")) (by fail "hp"))⟩⟩⟩⟩⟩
    obtain rfl : n = n1 := by omega
    have smX : Same H (upd (upd (upd H5 p4 (.tup [.int s0, .int r])) p3 (.lst [.ref p4])) p2 (.lst (as5.map V.ref ++ [.ref p4]))) := by fail "sm"
    exact kG (g1 _ (List.mem_append_right _ List.mem_cons_self)) a1 H1 (free_back na1 smX) (smX.trans sm1) (NetAt.congr nt1 (rel_more R _))
abbrev sNetWithoutLink : Stmt := inClass (top 6) 12
theorem scNetWithoutLink : FnScope ["self", "source", "reader", "link"] ["self", "source", "reader"] (defScope sNetWithoutLink) := ⟨rfl, rfl, rfl, by decide +kernel, rfl, by decide +kernel, by decide +kernel⟩
theorem ok_NetWithoutLink {f : Addr} {fd : FuncData} (F : L2.Fun K "without_link" "Net.without_link" sNetWithoutLink f fd) (T : NTx K mg CN mc mu) (KNet : MakX P w K mg base 5 "Net" CN (spInit CN CI)) (PLinks : PropC P w K mg base 1 CN "links" (spLinks CN)) (GCheckLink : CalX P w K mg base 3 "check_link" (spCheckLink CN CL)) : FnOk P w K mg base (L2.CX P w) 7 f fd ["self", "source", "reader"] (spWithout CN CL) := by
  refine F.okX scNetWithoutLink (fun vs H Q E h => ?_) (fun cdv A outer s H vs Q E hr h => ?_)
  · obtain ⟨a, n, R, s0, r, rfl, na, kG, kB⟩ := h
    rfl
  · obtain ⟨a, n, R, s0, r, rfl, na, kG, kB⟩ := h
    have na2 := na
    obtain ⟨⟨dx, d, ha, hd⟩, b1, b2, ir⟩ := na2
    refine ⟨_, (pss_cons (ps_expr (pe_cX GCheckLink hr (by decide) (by rfl) (passes_call (takes_of rfl rfl rfl rfl) fun _ _ _ _ h => h) (pa_cons (pv 0) (pa_cons (pv 1) (pa_cons (pv 2) pa_nil)))))
      (pss_one (ps_ret (pe_mkX KNet hr (by decide) (by rfl) (passes_call (takes_of rfl rfl rfl rfl) fun _ _ _ _ h => h) (pa_cons (pe_fld (pv 0) (by rfl)) (pa_cons (pe_lc (own := [("link", 3)]) (g := gName 3) rfl scNetWithoutLink.nd (pi_list (pe_pr PLinks hr (by decide) (pv 0))) (blkOk_by (N := ["self", "source", "reader", "link"]) (sc := defScope sNetWithoutLink) (by decide +kernel)) (fun _ _ _ _ _ => (pg_name (i := 3) scNetWithoutLink.nd rfl (Or.inl rfl))) (fun _ _ _ _ _ => (pts_one (pt_cmpR (op_neDB (K := K) hr.units (by rfl)) (pv 3) (pe_tup (pa_cons (pv 1) (pa_cons (pv 2) pa_nil))) (nomark _)))) (fun _ _ _ _ _ => (pv 3))) pa_nil)))))), ?_⟩
    -- check_link(self, source, reader)
    refine ⟨_, rfl, _, rfl, _, rfl, _, _, _, _, _, rfl, (by fail "na"), fun gd1 H1 sm1 => ?_, fun z => RaisesL.back (kB z) (by fail "sm")⟩
    -- return Net(self.count, [link for link in self.links if link != (source, reader)])
    refine ⟨_, rfl, _, _, _, _, _, rfl, (by fail "hp"), T.cl, T.n_count, (by fail "lk"), _, rfl, _, _, _, rfl, (by fail "hp"), _, _, _, rfl, (by fail "na"), fun l3 as3 H3 nl3 sm3 hl3 pl3 => ⟨_, rfl, ⟨_, SqL.of (by fail "hp")⟩, fun D1 nD1 => lc_list (K := K) (a := l3) (xs := as3.map V.ref) (fun i H' => ∃ bs : List Addr, Same H3 H' ∧ H' D1 = some (.lst (bs.map V.ref)) ∧ PrT H' bs (((ties n R).take i).filter fun q => !decide (q = (s0, r)))) ⟨[], Same.new (Same.refl _) nD1, upd_same, PrT.nil⟩ (fun i H' _ z => by obtain ⟨bs, sm, _⟩ := z; exact SqL.of (sm _ _ hl3)) (fun i x H' hx z => by
      obtain ⟨bs, sm, hD, pb⟩ := z
      obtain ⟨t, x, y, rfl, e1, e2, e3⟩ := pl3.item hx
      have e4 := sm _ _ e3
      have lt := ties_len R b2
      have lb : bs.length ≤ 600 := by
        have q := List.length_filter_le (fun q => !decide (q = (s0, r))) ((ties n R).take i)
        rw [List.length_take] at q
        rw [pb.1]
        omega
      refine ⟨rfl, _, rfl, _, rfl, _, rfl, (by fail "sz"), fun p np => ⟨_, _, (by fail "dp"), (by fail "dp"), (by fail "shp"), (by fail "shp"), _, rfl, ?_⟩⟩
      rw [eqv_two]
      refine ifB (fun g => ?_) fun g => ?_
      · refine ⟨_, rfl, _, (by fail "hp"), (by fail "szl"), bs ++ [t], Same.mut (by fail "sm") nD1, ?_, ?_⟩
        · rw [upd_same, snocR]
        · rw [take_more' e2, List.filter_append]
          show PrT _ _ (_ ++ List.filter _ [(x, y)])
          rw [List.filter_cons_of_pos (p := fun q => !decide (q = (s0, r))) g, List.filter_nil]
          exact PrT.snoc (PrT.mono pb (by fail "tk")) (by fail "hp")
      · refine ⟨bs, by fail "sm", by fail "hp", ?_⟩
        rw [take_more' e2, List.filter_append, List.filter_cons_of_neg (p := fun q => !decide (q = (s0, r))) (by rw [g]; exact Bool.false_ne_true), List.filter_nil, List.append_nil]
        exact PrT.mono pb (by fail "tk")) fun H' z => by
      obtain ⟨bs, sm, hD, pb⟩ := z
      rw [List.length_map, pl3.1, List.take_length] at pb
      have smX : Same H H' := sm1.trans (sm3.trans sm)
      have gg : ∀ p ∈ (ties n R).filter (fun q => !decide (q = (s0, r))), Good n p := fun p hp => good_ties ir p (List.mem_filter.mp hp).1
      refine mk_init ⟨_, _, _, _, rfl, (by fail "hp"), (by fail "pr"), (by have := ties_len R b2; have := List.length_filter_le (fun q => !decide (q = (s0, r))) (ties n R); rw [pb.1]; omega), fun n2 e2 c2 d2 g2 a2 H2 na2 sm2 nt2 => ?_, fun z => absurd (show (1 : Int) ≤ (n : Int) ∧ (n : Int) ≤ 24 by omega) z, fun m e _ _ => by obtain rfl : n = m := (by omega); exact BadRow.none gg⟩
      obtain rfl : n = n2 := by omega
      exact kG gd1 a2 H2 (free_back na2 smX) (smX.trans sm2) (NetAt.congr nt2 (rel_less R _))⟩⟩
    skip
end
end K00

end
section
set_option Elab.async false
set_option linter.all false
set_option maxRecDepth 100000
set_option maxHeartbeats 800000
namespace K00
open PySem L2 Kit KR KX L2H
local macro_rules | `(tactic| fail "om") => `(tactic| first | omega | (simp only [List.length_map, List.length_append, List.length_cons, List.length_nil]; omega) | (simp only [List.length_map, List.length_append, List.length_cons, List.length_nil] at *; omega) | assumption | decide | fail "no om")
local macro_rules | `(tactic| fail "nz") => `(tactic| first | decide | omega | fail "no nz")
local macro_rules | `(tactic| fail "dv") => `(tactic| exact ⟨by first | decide | omega, by first | decide | omega⟩)
local macro_rules | `(tactic| fail "mul") => `(tactic| first | exact .inr ⟨by decide, by decide⟩ | exact .inl ⟨by decide, by decide⟩ | exact mulF (by decide) (by decide) | exact .inl ⟨by omega, by omega⟩ | exact .inr ⟨by omega, by omega⟩ | fail "no mul")
local macro_rules | `(tactic| fail "sz") => `(tactic| first | assumption | exact Nat.zero_le _ | (show 1 ≤ sizeLine; decide) | (show 2 ≤ sizeLine; decide) | (show 3 ≤ sizeLine; decide) | (show 4 ≤ sizeLine; decide) | (show 5 ≤ sizeLine; decide) | exact Evl.sz_of (by omega) | (refine Evl.sz_of ?_; simp only [List.length_append, List.length_map, List.length_cons, List.length_nil]; omega) | fail "no sz")
local macro_rules | `(tactic| fail "szl") => `(tactic| first | exact Evl.sz_lt (by omega) | (refine Evl.sz_lt ?_; simp only [List.length_append, List.length_map, List.length_cons, List.length_nil]; omega) | fail "no szl")
local macro_rules | `(tactic| fail "ix") => `(tactic| first | assumption | exact ix0 | exact ix1 | exact ix2 | exact at_ref (by assumption) (by omega) | exact at_int (by assumption) (by omega) | exact at_drawn (by assumption) (by assumption) | rfl | fail "no ix")
local macro_rules | `(tactic| fail "ixn") => `(tactic| first | rfl | assumption | fail "no ixn")
local macro_rules | `(tactic| fail "nb") => `(tactic| first | assumption | exact nb_tup | exact nb_nil | exact nb_ints | exact nb_refs | exact nb_ins | exact nb_dT | exact nb_frz | fail "no nb")
local macro_rules | `(tactic| fail "ne") => `(tactic| first | assumption | exact Ne.symm (by assumption) | exact ne_of_none (by assumption) (by assumption) | exact (ne_of_none (by assumption) (by assumption)).symm | exact ne_of (by assumption) (by assumption) (by intro q; cases q) | exact ne_of (by assumption) (by assumption) (by simp) | fail "no ne")
local macro_rules | `(tactic| fail "hp") => `(tactic| first | assumption | exact upd_same | (refine' Tk.get (by assumption) ?k1; (case k1 => fail "tk")) | (with_reducible refine' upd_new ?h1 ?n1; (case n1 => assumption); (case h1 => fail "hp")) | (refine' Same.get (by assumption) ?h1; (case h1 => fail "hp")) | (refine' Kp.get (by assumption) (by fail "bx") ?h1 ?d1; (case h1 => fail "hp"); (case d1 => fail "nb")) | (with_reducible refine' upd_oth ?h1 ?n1; (case n1 => fail "ne"); (case h1 => fail "hp")) | (with_reducible refine' upd_oth ?h1 ?n1; (case h1 => fail "hp"); (case n1 => fail "ne")) | fail "no hp")
local macro_rules | `(tactic| fail "bx") => `(tactic| first | assumption | (with_reducible refine' BoxOk.new ?h1 ?n1; (case n1 => assumption); (case h1 => fail "bx")) | (refine' BoxOk.same (by assumption) ?h1; (case h1 => fail "bx")) | (with_reducible refine' BoxOk.mut ?h1 ?h2 ?n1; (case n1 => assumption); (case h2 => assumption); (case h1 => fail "bx")) | fail "no bx")
local macro_rules | `(tactic| fail "kp") => `(tactic| first | assumption | exact Kp.refl | (with_reducible refine' Kp.at ?h1; (case h1 => fail "kp")) | (with_reducible refine' Kp.new ?h1 ?n1; (case n1 => assumption); (case h1 => fail "kp")) | (with_reducible refine' Kp.mut ?h1 ?n1; (case n1 => assumption); (case h1 => fail "kp")) | (refine' Kp.tr (by assumption) ?h1; (case h1 => fail "kp")) | (refine' Kp.tr (Kp.of (by assumption)) ?h1; (case h1 => fail "kp")) | fail "no kp")
local macro_rules | `(tactic| fail "ite") => `(tactic| first | refine iteT ?_ | refine iteF ?_)
local macro_rules | `(tactic| fail "tt") => `(tactic| first | rfl | exact decide_eq_true (by first | rfl | omega | assumption) | exact decide_eq_true (congrArg V.int (by first | rfl | omega)) | fail "no tt")
local macro_rules | `(tactic| fail "cv") => `(tactic| first | exact .ty _ | exact .own _)
local macro_rules | `(tactic| fail "tx") => `(tactic| first | exact .base (.int _) | exact .base (.bl _) | exact .base .non | exact .base (.lst (by fail "hp")) | exact .base (.tup (by fail "hp")) | fail "no tx")
local macro_rules | `(tactic| fail "dead") => `(tactic| (exfalso; first | omega | contradiction | simp_all))
local macro_rules | `(tactic| fail "dp") => `(tactic| first | exact .tup (SqT.of (by fail "hp")) (.cons (.int _) (.cons (.int _) .nil)) | exact .lst (SqL.of (by fail "hp")) (dpPrs (by fail "pr")) | exact .lst (SqL.of (by fail "hp")) (dpInts _) | exact .lst (SqL.of (by fail "hp")) .nil | fail "no dp")
local macro_rules | `(tactic| fail "shp") => `(tactic| first | assumption | exact prD_shaped _ | exact PySem.W.ke_shaped_ints _ | rfl | fail "no shp")
local macro_rules | `(tactic| fail "pr") => `(tactic| first | assumption | exact PrT.mono (by assumption) (by fail "tk") | fail "no pr")
local macro_rules | `(tactic| fail "tk") => `(tactic| first | assumption | exact Tk.refl | (with_reducible refine' Tk.new ?h1 ?n1; (case n1 => assumption); (case h1 => fail "tk")) | (refine' Tk.tr (Kp.tk (by assumption) (by fail "bx")) ?h1; (case h1 => fail "tk")) | (refine' Tk.tr (Same.tk (by assumption)) ?h1; (case h1 => fail "tk")) | (with_reducible refine' Tk.lst ?h1 ?n1; (case n1 => fail "hp"); (case h1 => fail "tk")) | fail "no tk")
local macro_rules | `(tactic| fail "lk") => `(tactic| first | exact netF_count _ _ | exact netF_links _ _ | exact netF_no _ _ (by decide +kernel) (by decide +kernel) | fail "no lk")
local macro_rules | `(tactic| fail "kt") => `(tactic| first | exact upd_same | assumption | fail "hp")
local macro_rules | `(tactic| fail "na") => `(tactic| first | assumption | (with_reducible refine' NetAt.new ?h1 ?n1; (case n1 => assumption); (case h1 => fail "na")) | (refine' NetAt.same (by assumption) ?h1; (case h1 => fail "na")) | (refine' NetAt.kp (by assumption) (by fail "bx") ?h1; (case h1 => fail "na")) | (with_reducible refine' NetAt.lst ?h1 ?n1; (case n1 => fail "hp"); (case h1 => fail "na")) | fail "no na")
local macro_rules | `(tactic| fail "mono") => `(tactic| first | exact fun _ _ _ _ h q => h _ _ q | exact fun _ _ _ _ h q => (let ⟨v, e, z⟩ := q; ⟨v, e, h _ _ z⟩) | exact fun _ _ _ _ h q => (let ⟨v, e, u, f, z⟩ := q; ⟨v, e, u, f, h _ _ z⟩) | fail "no mono")
local macro_rules | `(tactic| fail "sm") => `(tactic| first | assumption | exact Same.refl _ | (with_reducible refine' Same.new ?h1 ?n1; (case n1 => assumption); (case h1 => fail "sm")) | (refine' Same.tr (by assumption) ?h1; (case h1 => fail "sm")) | fail "no sm")
local macro_rules | `(tactic| fail "fld") => `(tactic| first | (show 0 < 1000; decide) | (show 1 < 1000; decide) | fail "no fld")

section
variable {P : Program} {w : World} {K : PySem.W.Frag} {mg : Str → Option Value} {base : Heap} {CN CI CU CL CS : Addr} {mc mu : Value}

structure LTx (K : PySem.W.Frag) (mg : Str → Option Value) (CN CI CU CL CS : Addr) (mc mu : Value) : Prop extends NTx K mg CN mc mu where
  mgInvalidNet : mg "InvalidNet" = some (.ref CI)
  mgUnknownReplica : mg "UnknownReplica" = some (.ref CU)
  mgNotLinked : mg "NotLinked" = some (.ref CL)
  mgStoreError : mg "StoreError" = some (.ref CS)
  mgV : mg "ValueError" = none
  isI : IsX K CI
  isU : IsX K CU
  isL : IsX K CL
  xI : PySem.W.exmOne K (.ref CI) (.ref CS) = some true
  xU : PySem.W.exmOne K (.ref CU) (.ref CS) = some true
  xL : PySem.W.exmOne K (.ref CL) (.ref CS) = some true
  kII : PySem.W.kitOne K (.ref CI) (.ref CI) = some true
  kIL : PySem.W.kitOne K (.ref CI) (.ref CL) = some false
  kIU : PySem.W.kitOne K (.ref CI) (.ref CU) = some false
  kIV : PySem.W.kitOne K (.ref CI) (.type "ValueError") = some true
  kUI : PySem.W.kitOne K (.ref CU) (.ref CI) = some false
  kUL : PySem.W.kitOne K (.ref CU) (.ref CL) = some false
  kUU : PySem.W.kitOne K (.ref CU) (.ref CU) = some true
  kUV : PySem.W.kitOne K (.ref CU) (.type "ValueError") = some true
  kLI : PySem.W.kitOne K (.ref CL) (.ref CI) = some false
  kLL : PySem.W.kitOne K (.ref CL) (.ref CL) = some true
  kLU : PySem.W.kitOne K (.ref CL) (.ref CU) = some false
  kLV : PySem.W.kitOne K (.ref CL) (.type "ValueError") = some true
  noI : PySem.W.findIn K (.ref CI) "link" = some none
  noU : PySem.W.findIn K (.ref CU) "replica" = some none
  noL1 : PySem.W.findIn K (.ref CL) "source" = some none
  noL2 : PySem.W.findIn K (.ref CL) "reader" = some none
section
variable {X : Cx} {k j : Nat} {x : Str} {sp : Sp} {E : L2.St → XK} {p pos : Pos} {e : Expr} {es : List Expr} {t : TA}
/-- a def that may raise, in a try's body -/
theorem pe_cS (c : CalX X.prog X.w X.K X.mg X.base k x sp) (hr : Room j X.A) (hk : k ≤ j) (hg : Gl X x) (hx : ∀ σ, PassesAt (L2.CX X.prog X.w) X σ (E σ)) (ha : PA X (e :: es) t)
    (hdb : (x == ("__debug__" : Str)) = false := by decide) (he : starEach (e :: es) X.env = (false, eval e X.env) :: starEach es X.env := by rfl) (hpl : (backTo pos (starEach es X.env)).any (·.1) = false := by rfl) :
    PE X (.Call (.Name x p) (e :: es) [] pos) (tCallS sp E t) := by
  obtain ⟨f, fd, ps, F, hm, kp, b⟩ := c.ex
  exact pe_callS F (hr.mono hk) hg hm kp b hx ha hdb he hpl
end
theorem roomHS {k j : Nat} {B : Around} {v : Option Value} (r : Room j B) (h : k ≤ j) : RoomH k (B.mark v) := ⟨(r.mono h).dp, (r.mono h).un⟩
section
variable {P : Program} {w : World} {K : PySem.W.Frag} {mg : Str → Option Value} {base : Heap}
theorem ok_IsIntQ (D : Df K mg "_law_is_int" sIsInt ["actual"]) (T : Txt K mg) : CalQ P w K mg base 1 "_law_is_int" spIsInt := by
  obtain ⟨f, fd, F, hm, hb⟩ := D
  refine ⟨f, fd, ["actual"], fn_ofQ F scIsInt (fun vs H Q E h => ?_) (fun cdv A outer s H vs Q E hr h => ?_), hm, F.kp, hb⟩
  · obtain ⟨i, rfl, k⟩ := h
    rfl
  · obtain ⟨i, rfl, k⟩ := h
    refine ⟨_, (pss_one (ps_ret (pe_and (pe_callB call_isi (by rfl) T.isinstance (by decide +kernel) (pa_cons (pv 0) (pa_cons (pe_bltn (v := .ty "int") (u := .type "int") (by rfl) T.int (by decide +kernel) rfl) pa_nil))) (pe_one (pe_not (pe_callB call_isi (by rfl) T.isinstance (by decide +kernel) (pa_cons (pv 0) (pa_cons (pe_bltn (v := .ty "bool") (u := .type "bool") (by rfl) T.bool (by decide +kernel) rfl) pa_nil)))))))), ?_⟩
    refine ⟨_, rfl, _, _, _, _, true, rfl, (by fail "cv"), (by fail "tx"), kit_ty (by decide +kernel), _, rfl, iteK (by fail "tt") ⟨_, rfl, _, _, _, _, false, rfl, (by fail "cv"), (by fail "tx"), kit_ty (by decide +kernel), _, rfl, ?_⟩⟩
    exact k
end
/-- the row of a replica: its sources (way 0) or its readers -/
def rowW (R : Rel) (way : Int) (y n : Nat) : List Int := if way = 0 then colI R y n else rowI R y n
theorem rowW_len (R : Rel) (way : Int) (y n : Nat) : (rowW R way y n).length ≤ n := by
  unfold rowW
  split
  · exact colI_len R y n
  · exact colI_len (fun a b => R b a) y n
abbrev sRow : Stmt := top 35
theorem scRow : FnScope ["net", "way", "replica"] ["net", "way", "replica"] (defScope sRow) := ⟨rfl, rfl, rfl, by decide +kernel, rfl, by decide +kernel, by decide +kernel⟩
def spRow (CN CU : Addr) : Sp := fun vs H Q E => ∃ (a : Addr) (way : Int) (n : Nat) (R : Rel) (r : Int), vs = [.ref a, .int way, .int r] ∧ NetAt CN H a n R ∧ ((0 ≤ r ∧ r < n) → ∀ (p : Addr) (H' : Hp), H p = none → Same H H' → H' p = some (.lst ((rowW R way r.toNat n).map V.int)) → Q (.ref p) H') ∧ (¬ (0 ≤ r ∧ r < n) → RaisesU CU r H E)
theorem ok_Row (D : Df K mg "_law_row" sRow ["net", "way", "replica"]) (T : LTx K mg CN CI CU CL CS mc mu) (Nsources : MetX P w K mg base 5 CN "sources" (spSources CN CU)) (Nreaders : MetX P w K mg base 5 CN "readers" (spReaders CN CU)) : CalX P w K mg base 6 "_law_row" (spRow CN CU) := by
  obtain ⟨f, fd, F, hm, hb⟩ := D
  refine ⟨f, fd, ["net", "way", "replica"], F.okX scRow (fun vs H Q E h => ?_) (fun cdv A outer s H vs Q E hr h => ?_), hm, F.kp, hb⟩
  · obtain ⟨a, way, n, R, r, rfl, na, kG, kB⟩ := h
    rfl
  · obtain ⟨a, way, n, R, r, rfl, na, kG, kB⟩ := h
    have na2 := na
    obtain ⟨⟨dx, d, ha, hd⟩, b1, b2, ir⟩ := na2
    refine ⟨_, (pss_cons (ps_if (pt_cmpR op_eq (pv 1) pe_int (nomark _))
        (pss_one (ps_ret (pe_mx Nsources hr (by decide) (passes_call (takes_of rfl rfl rfl rfl) fun _ _ _ _ h => h) (pv 0) (pa_cons (pv 2) pa_nil))))
        pss_nil)
      (pss_one (ps_ret (pe_mx Nreaders hr (by decide) (passes_call (takes_of rfl rfl rfl rfl) fun _ _ _ _ h => h) (pv 0) (pa_cons (pv 2) pa_nil))))), ?_⟩
    -- if way == 0:
    refine ⟨_, rfl, rfl, _, rfl, ?_⟩
    refine ifEqI (fun g1 => ?_) (fun g1 => ?_)
    · -- return net.sources(replica)
      refine ⟨_, rfl, _, _, _, rfl, (by fail "hp"), (by fail "lk"), _, rfl, _, _, _, _, rfl, (by fail "na"), fun gd2 p2 H2 np2 sm2 hp2 => ?_, fun z => kB z⟩
      exact kG gd2 _ _ np2 sm2 (by rw [hp2, rowW, if_pos g1])
    · -- return net.readers(replica)
      refine ⟨_, rfl, _, _, _, rfl, (by fail "hp"), (by fail "lk"), _, rfl, _, _, _, _, rfl, (by fail "na"), fun gd3 p3 H3 np3 sm3 hp3 => ?_, fun z => kB z⟩
      exact kG gd3 _ _ np3 sm3 (by rw [hp3, rowW, if_neg g1])
abbrev sRowIs : Stmt := top 36
theorem scRowIs : FnScope ["net", "way", "replica", "due", "told"] ["net", "way", "replica", "due"] (defScope sRowIs) := ⟨rfl, rfl, rfl, by decide +kernel, rfl, by decide +kernel, by decide +kernel⟩
def spRowIs (CN : Addr) : Sp := fun vs H Q _ => ∃ (a : Addr) (way : Int) (n : Nat) (R : Rel) (r : Int) (l : Addr), vs = [.ref a, .int way, .int r, .ref l] ∧ NetAt CN H a n R ∧ (0 ≤ r ∧ r < n) ∧ H l = some (.lst ((rowW R way r.toNat n).map V.int)) ∧ ∀ H', Same H H' → Q (.bl true) H'
theorem ok_RowIs (D : Df K mg "_law_row_is" sRowIs ["net", "way", "replica", "due"]) (T : LTx K mg CN CI CU CL CS mc mu) (GRow : CalX P w K mg base 6 "_law_row" (spRow CN CU)) (GIntsAre : C8.Cal P w K mg base 2 "_law_ints_are" spIntsAre []) : C8.Cal P w K mg base 7 "_law_row_is" (spRowIs CN) [] := by
  obtain ⟨f, fd, F, hm, hb⟩ := D
  refine ⟨f, fd, ["net", "way", "replica", "due"], [], F.ok scRowIs (fun vs H Q E h => ?_) (fun cdv A outer s H vs Q E hr h => ?_), hm, F.kp, hb, .nil⟩
  · obtain ⟨a, way, n, R, r, l, rfl, na, gd, hl, kQ⟩ := h
    rfl
  · obtain ⟨a, way, n, R, r, l, rfl, na, gd, hl, kQ⟩ := h
    have lw := rowW_len R way r.toNat n
    have b2 := na.b2
    refine ⟨_, (pss_cons (ps_set (i := 4) scRowIs.nd rfl (Or.inl rfl) (pe_cX GRow hr (by decide) (by rfl) passL (pa_cons (pv 0) (pa_cons (pv 1) (pa_cons (pv 2) pa_nil)))))
      (pss_cons (ps_if (pt_not (pt_val (C8.pe_c GIntsAre hr (by decide) (by rfl) (pa_cons (pv 4) (pa_cons (pv 3) pa_nil)))))
        (pss_one (ps_ret pe_bl))
        pss_nil)
      (pss_cons (ps_expr (pe_bm0 PySem.F.plainAttrs_list PySem.F.slot_list_reverse PySem.F.type_list_reverse mt_reverse (pv 4)))
      (pss_cons (ps_expr (pe_bm PySem.F.plainAttrs_list PySem.F.slot_list_append PySem.F.type_list_append mt_append (pv 4) (pa_cons (pv 2) pa_nil)))
      (pss_one (ps_ret (C8.pe_c GIntsAre hr (by decide) (by rfl) (pa_cons (pe_cX GRow hr (by decide) (by rfl) passL (pa_cons (pv 0) (pa_cons (pv 1) (pa_cons (pv 2) pa_nil)))) (pa_cons (pv 3) pa_nil))))))))), ?_⟩
    -- told = _law_row(net, way, replica)
    refine ⟨_, rfl, _, rfl, _, rfl, _, _, _, _, _, rfl, (by fail "na"), fun gd1 p1 H1 np1 sm1 hp1 => ?_, fun z => absurd gd z⟩
    -- if not _law_ints_are(told, due):
    refine ⟨_, rfl, _, rfl, _, _, _, rfl, (by fail "hp"), (by fail "hp"), (by fail "om"), ⟨_, rfl, ?_⟩⟩
    fail "ite"
    -- told.reverse()
    refine ⟨_, rfl, .inl ⟨rfl, _, SqL.of (by fail "hp")⟩, _, _, rfl, rfl, (by fail "hp"), ?_⟩
    -- told.append(replica)
    refine ⟨_, rfl, .inl ⟨rfl, _, SqL.of (by fail "hp")⟩, _, rfl, _, _, _, rfl, rfl, (by fail "hp"), Evl.sz_lt (by rw [List.length_reverse, List.length_map]; omega), ?_⟩
    -- return _law_ints_are(_law_row(net, way, replica), due)
    refine ⟨_, rfl, _, rfl, _, rfl, _, _, _, _, _, rfl, (by fail "na"), fun gd4 p4 H4 np4 sm4 hp4 => ⟨_, rfl, _, _, _, rfl, (by fail "hp"), (by fail "hp"), (by fail "om"), ?_⟩, fun z => absurd gd z⟩
    exact kQ _ (Same.trans (Same.mut (Same.mut sm1 np1) np1) sm4)
abbrev sUnknown : Stmt := top 37
theorem scUnknown : FnScope ["net", "way", "replica", "e", "kinds"] ["net", "way", "replica"] (defScope sUnknown) := ⟨rfl, rfl, rfl, by decide +kernel, rfl, by decide +kernel, by decide +kernel⟩
def spUnknown (CN : Addr) : Sp := fun vs H Q _ => ∃ (a : Addr) (way : Int) (n : Nat) (R : Rel) (r : Int), vs = [.ref a, .int way, .int r] ∧ NetAt CN H a n R ∧ (¬ (0 ≤ r ∧ r < n)) ∧ ∀ H', Same H H' → Q (.bl true) H'
theorem ok_Unknown (D : Df K mg "_law_unknown" sUnknown ["net", "way", "replica"]) (T : LTx K mg CN CI CU CL CS mc mu) (GRow : CalX P w K mg base 6 "_law_row" (spRow CN CU)) (QIsInt : CalQ P w K mg base 1 "_law_is_int" spIsInt) : C8.Cal P w K mg base 7 "_law_unknown" (spUnknown CN) [] := by
  obtain ⟨f, fd, F, hm, hb⟩ := D
  refine ⟨f, fd, ["net", "way", "replica"], [], F.ok scUnknown (fun vs H Q E h => ?_) (fun cdv A outer s H vs Q E hr h => ?_), hm, F.kp, hb, .nil⟩
  · obtain ⟨a, way, n, R, r, rfl, na, gd, kQ⟩ := h
    rfl
  · obtain ⟨a, way, n, R, r, rfl, na, gd, kQ⟩ := h
    refine ⟨_, (pss_cons (ps_try_as (i := 3) (Wout := fun _ _ _ _ => False) rfl rfl scUnknown.nd rfl rfl ⟨rfl, by decide, Or.inl T.mgStoreError⟩ takes0
        (fun W pn xe tk _ => (pss_one (ps_expr (pe_cS GRow hr (by decide) (by rfl) (fun σ => passAt tk σ) (pa_cons (pv 0) (pa_cons (pv 1) (pa_cons (pv 2) pa_nil)))))))
        (fun a oe cls d pn hz hf => (pss_cons (ps_set (i := 4) scUnknown.nd rfl (Or.inl rfl) (pe_lst (pa_cons (pe_callB (call_isX hz hf) (by rfl) T.isinstance (by decide +kernel) (pa_cons (pv 3) (pa_cons (pe_glob (v := .ref CI) rfl T.mgInvalidNet rfl) pa_nil))) (pa_cons (pe_callB (call_isX hz hf) (by rfl) T.isinstance (by decide +kernel) (pa_cons (pv 3) (pa_cons (pe_glob (v := .ref CL) rfl T.mgNotLinked rfl) pa_nil))) (pa_cons (pe_callB (call_isX hz hf) (by rfl) T.isinstance (by decide +kernel) (pa_cons (pv 3) (pa_cons (pe_glob (v := .ref CU) rfl T.mgUnknownReplica rfl) pa_nil))) pa_nil)))))
        (pss_cons (ps_if (PW.pt (pw_or (pt_cmpR (op_neDB (K := K) hr.units (by rfl)) (pv 4) (pe_lst (pa_cons pe_bl (pa_cons pe_bl (pa_cons pe_bl pa_nil)))) (nomark _)) (pw_or1 (pt_not (pt_val (pe_callB (call_isX hz hf) (by rfl) T.isinstance (by decide +kernel) (pa_cons (pv 3) (pa_cons (pe_bltn (v := .ty "ValueError") (u := .type "ValueError") (by rfl) T.mgV (by decide +kernel) rfl) pa_nil))))))))
          (pss_one (ps_ret pe_bl))
          pss_nil)
        (pss_one (ps_ret (pe_and (pe_cQ QIsInt (roomHS hr (by decide)) (by rfl) (pa_cons (pe_xf T.isU.xf T.noU hz hf (pv 3)) pa_nil)) (pe_one (pe_cmpR op_eq (pe_xf T.isU.xf T.noU hz hf (pv 3)) (pv 2) (nomark _))))))))))
      (pss_one (ps_ret pe_bl))), ?_⟩
    refine ⟨_, rfl, _, rfl, _, rfl, _, _, _, _, _, rfl, (by fail "na"), fun z => absurd z gd, fun _ d H1 nd sm1 hx => ?_⟩
    refine ⟨true, T.xU, fun _ a0 na0 => ?_, fun q => Bool.noConfusion q⟩
    refine ⟨_, rfl, _, _, _, _, _, _, rfl, T.isU, rfl, (fun _ z => z), rfl, hx, T.kUI, ?_⟩
    refine ⟨_, rfl, _, _, _, _, _, _, rfl, T.isU, rfl, (fun _ z => z), rfl, hx, T.kUL, ?_⟩
    refine ⟨_, rfl, _, _, _, _, _, _, rfl, T.isU, rfl, (fun _ z => z), rfl, hx, T.kUU, ?_⟩
    refine ⟨(by fail "sz"), fun p1 np1 => ?_⟩
    refine ⟨_, rfl, (by fail "sz"), fun p2 np2 => ⟨_, _, .lst (SqL.of (by fail "hp")) (.cons (.bl _) (.cons (.bl _) (.cons (.bl _) .nil))), .lst (SqL.of (by fail "hp")) (.cons (.bl _) (.cons (.bl _) (.cons (.bl _) .nil))), rfl, rfl, _, rfl, ?_⟩⟩
    refine iteKF rfl ?_
    refine ⟨_, rfl, _, _, _, _, _, _, rfl, T.isU, rfl, (fun _ z => z), rfl, (by fail "hp"), T.kUV, _, rfl, ?_⟩
    refine iteKF rfl ?_
    refine ⟨_, rfl, rfl, rfl, _, _, _, rfl, (by fail "hp"), (by rfl), _, rfl, _, rfl, iteK rfl ⟨_, rfl, rfl, rfl, _, _, _, rfl, (by fail "hp"), (by rfl), _, rfl, rfl, ?_⟩⟩
    rw [decide_eq_true rfl]
    exact kQ _ (by fail "sm")
end
end K00

end
section
set_option Elab.async false
set_option linter.all false
set_option maxRecDepth 100000
set_option maxHeartbeats 800000
namespace K00
open PySem L2 Kit KR KX L2H
local macro_rules | `(tactic| fail "om") => `(tactic| first | omega | (simp only [List.length_map, List.length_append, List.length_cons, List.length_nil]; omega) | (simp only [List.length_map, List.length_append, List.length_cons, List.length_nil] at *; omega) | assumption | decide | fail "no om")
local macro_rules | `(tactic| fail "nz") => `(tactic| first | decide | omega | fail "no nz")
local macro_rules | `(tactic| fail "dv") => `(tactic| exact ⟨by first | decide | omega, by first | decide | omega⟩)
local macro_rules | `(tactic| fail "mul") => `(tactic| first | exact .inr ⟨by decide, by decide⟩ | exact .inl ⟨by decide, by decide⟩ | exact mulF (by decide) (by decide) | exact .inl ⟨by omega, by omega⟩ | exact .inr ⟨by omega, by omega⟩ | fail "no mul")
local macro_rules | `(tactic| fail "sz") => `(tactic| first | assumption | exact Nat.zero_le _ | (show 1 ≤ sizeLine; decide) | (show 2 ≤ sizeLine; decide) | (show 3 ≤ sizeLine; decide) | (show 4 ≤ sizeLine; decide) | (show 5 ≤ sizeLine; decide) | exact Evl.sz_of (by omega) | (refine Evl.sz_of ?_; simp only [List.length_append, List.length_map, List.length_cons, List.length_nil]; omega) | fail "no sz")
local macro_rules | `(tactic| fail "szl") => `(tactic| first | exact Evl.sz_lt (by omega) | (refine Evl.sz_lt ?_; simp only [List.length_append, List.length_map, List.length_cons, List.length_nil]; omega) | fail "no szl")
local macro_rules | `(tactic| fail "ix") => `(tactic| first | assumption | exact ix0 | exact ix1 | exact ix2 | exact at_ref (by assumption) (by omega) | exact at_int (by assumption) (by omega) | exact at_drawn (by assumption) (by assumption) | rfl | fail "no ix")
local macro_rules | `(tactic| fail "ixn") => `(tactic| first | rfl | assumption | fail "no ixn")
local macro_rules | `(tactic| fail "nb") => `(tactic| first | assumption | exact nb_tup | exact nb_nil | exact nb_ints | exact nb_refs | exact nb_ins | exact nb_dT | exact nb_frz | fail "no nb")
local macro_rules | `(tactic| fail "ne") => `(tactic| first | assumption | exact Ne.symm (by assumption) | exact ne_of_none (by assumption) (by assumption) | exact (ne_of_none (by assumption) (by assumption)).symm | exact ne_of (by assumption) (by assumption) (by intro q; cases q) | exact ne_of (by assumption) (by assumption) (by simp) | fail "no ne")
local macro_rules | `(tactic| fail "hp") => `(tactic| first | assumption | exact upd_same | (refine' Tk.get (by assumption) ?k1; (case k1 => fail "tk")) | (with_reducible refine' upd_new ?h1 ?n1; (case n1 => assumption); (case h1 => fail "hp")) | (refine' Same.get (by assumption) ?h1; (case h1 => fail "hp")) | (refine' Kp.get (by assumption) (by fail "bx") ?h1 ?d1; (case h1 => fail "hp"); (case d1 => fail "nb")) | (with_reducible refine' upd_oth ?h1 ?n1; (case n1 => fail "ne"); (case h1 => fail "hp")) | (with_reducible refine' upd_oth ?h1 ?n1; (case h1 => fail "hp"); (case n1 => fail "ne")) | fail "no hp")
local macro_rules | `(tactic| fail "bx") => `(tactic| first | assumption | (with_reducible refine' BoxOk.new ?h1 ?n1; (case n1 => assumption); (case h1 => fail "bx")) | (refine' BoxOk.same (by assumption) ?h1; (case h1 => fail "bx")) | (with_reducible refine' BoxOk.mut ?h1 ?h2 ?n1; (case n1 => assumption); (case h2 => assumption); (case h1 => fail "bx")) | fail "no bx")
local macro_rules | `(tactic| fail "kp") => `(tactic| first | assumption | exact Kp.refl | (with_reducible refine' Kp.at ?h1; (case h1 => fail "kp")) | (with_reducible refine' Kp.new ?h1 ?n1; (case n1 => assumption); (case h1 => fail "kp")) | (with_reducible refine' Kp.mut ?h1 ?n1; (case n1 => assumption); (case h1 => fail "kp")) | (refine' Kp.tr (by assumption) ?h1; (case h1 => fail "kp")) | (refine' Kp.tr (Kp.of (by assumption)) ?h1; (case h1 => fail "kp")) | fail "no kp")
local macro_rules | `(tactic| fail "ite") => `(tactic| first | refine iteT ?_ | refine iteF ?_)
local macro_rules | `(tactic| fail "tt") => `(tactic| first | rfl | exact decide_eq_true (by first | rfl | omega | assumption) | exact decide_eq_true (congrArg V.int (by first | rfl | omega)) | fail "no tt")
local macro_rules | `(tactic| fail "cv") => `(tactic| first | exact .ty _ | exact .own _)
local macro_rules | `(tactic| fail "tx") => `(tactic| first | exact .base (.int _) | exact .base (.bl _) | exact .base .non | exact .base (.lst (by fail "hp")) | exact .base (.tup (by fail "hp")) | fail "no tx")
local macro_rules | `(tactic| fail "dead") => `(tactic| (exfalso; first | omega | contradiction | simp_all))
local macro_rules | `(tactic| fail "dp") => `(tactic| first | exact .tup (SqT.of (by fail "hp")) (.cons (.int _) (.cons (.int _) .nil)) | exact .lst (SqL.of (by fail "hp")) (dpPrs (by fail "pr")) | exact .lst (SqL.of (by fail "hp")) (dpInts _) | exact .lst (SqL.of (by fail "hp")) .nil | fail "no dp")
local macro_rules | `(tactic| fail "shp") => `(tactic| first | assumption | exact prD_shaped _ | exact PySem.W.ke_shaped_ints _ | rfl | fail "no shp")
local macro_rules | `(tactic| fail "pr") => `(tactic| first | assumption | exact PrT.mono (by assumption) (by fail "tk") | fail "no pr")
local macro_rules | `(tactic| fail "tk") => `(tactic| first | assumption | exact Tk.refl | (with_reducible refine' Tk.new ?h1 ?n1; (case n1 => assumption); (case h1 => fail "tk")) | (refine' Tk.tr (Kp.tk (by assumption) (by fail "bx")) ?h1; (case h1 => fail "tk")) | (refine' Tk.tr (Same.tk (by assumption)) ?h1; (case h1 => fail "tk")) | (with_reducible refine' Tk.lst ?h1 ?n1; (case n1 => fail "hp"); (case h1 => fail "tk")) | fail "no tk")
local macro_rules | `(tactic| fail "lk") => `(tactic| first | exact netF_count _ _ | exact netF_links _ _ | exact netF_no _ _ (by decide +kernel) (by decide +kernel) | fail "no lk")
local macro_rules | `(tactic| fail "kt") => `(tactic| first | exact upd_same | assumption | fail "hp")
local macro_rules | `(tactic| fail "na") => `(tactic| first | assumption | (with_reducible refine' NetAt.new ?h1 ?n1; (case n1 => assumption); (case h1 => fail "na")) | (refine' NetAt.same (by assumption) ?h1; (case h1 => fail "na")) | (refine' NetAt.kp (by assumption) (by fail "bx") ?h1; (case h1 => fail "na")) | (with_reducible refine' NetAt.lst ?h1 ?n1; (case n1 => fail "hp"); (case h1 => fail "na")) | fail "no na")
local macro_rules | `(tactic| fail "mono") => `(tactic| first | exact fun _ _ _ _ h q => h _ _ q | exact fun _ _ _ _ h q => (let ⟨v, e, z⟩ := q; ⟨v, e, h _ _ z⟩) | exact fun _ _ _ _ h q => (let ⟨v, e, u, f, z⟩ := q; ⟨v, e, u, f, h _ _ z⟩) | fail "no mono")
local macro_rules | `(tactic| fail "sm") => `(tactic| first | assumption | exact Same.refl _ | (with_reducible refine' Same.new ?h1 ?n1; (case n1 => assumption); (case h1 => fail "sm")) | (refine' Same.tr (by assumption) ?h1; (case h1 => fail "sm")) | fail "no sm")
local macro_rules | `(tactic| fail "fld") => `(tactic| first | (show 0 < 1000; decide) | (show 1 < 1000; decide) | fail "no fld")

section
variable {P : Program} {w : World} {K : PySem.W.Frag} {mg : Str → Option Value} {base : Heap} {CN CI CU CL CS : Addr} {mc mu : Value}

/-- the links of a net that is made in this way -/
def callR (way : Int) (n : Nat) (ps : List (Int × Int)) : Rel := if way = 0 then relP ps false else if way = 1 then relP ps true else if way = 2 then lineR n else if way = 3 then starR n else if way = 4 then wholeR n else ringR n
def spCall (CN CI : Addr) : Sp := fun vs H Q E => ∃ (way c : Int) (l : Addr) (as : List Addr) (ps : List (Int × Int)), vs = [.int way, .int c, .ref l] ∧ 0 ≤ way ∧ way ≤ 5 ∧ H l = some (.lst (as.map V.ref)) ∧ PrT H as ps ∧ as.length ≤ 500 ∧
  (∀ n : Nat, c = n → 1 ≤ n → n ≤ 24 → (2 ≤ way ∨ ∀ p ∈ ps, Good n p) → ∀ a H', H a = none → Same H H' → NetAt CN H' a n (callR way n ps) → Q (.ref a) H') ∧ (¬ (1 ≤ c ∧ c ≤ 24) → RaisesI CI .non H E) ∧ (∀ n : Nat, c = n → 1 ≤ n → n ≤ 24 → way ≤ 1 → BadP CI n ps H E)
abbrev sCall : Stmt := top 30
theorem scCall : FnScope ["way", "count", "pairs"] ["way", "count", "pairs"] (defScope sCall) := ⟨rfl, rfl, rfl, by decide +kernel, rfl, by decide +kernel, by decide +kernel⟩
theorem ok_Call (D : Df K mg "_law_call" sCall ["way", "count", "pairs"]) (T : LTx K mg CN CI CU CL CS mc mu) (KNet : MakX P w K mg base 5 "Net" CN (spInit CN CI)) (Nboth_ways : ClmX P w K mg base 7 CN "both_ways" (spBoth CN CI)) (Nline : ClmX P w K mg base 9 CN "line" (spNamed CN CI lineR)) (Nstar : ClmX P w K mg base 9 CN "star" (spNamed CN CI starR)) (Ncomplete : ClmX P w K mg base 7 CN "complete" (spNamed CN CI wholeR)) (Nring : ClmX P w K mg base 7 CN "ring" (spNamed CN CI ringR)) : CalX P w K mg base 10 "_law_call" (spCall CN CI) := by
  obtain ⟨f, fd, F, hm, hb⟩ := D
  refine ⟨f, fd, ["way", "count", "pairs"], F.okX scCall (fun vs H Q E h => ?_) (fun cdv A outer s H vs Q E hr h => ?_), hm, F.kp, hb⟩
  · obtain ⟨way, c, l, as, ps, rfl, w0, w5, hl, pa, la, kG, kB, kC⟩ := h
    rfl
  · obtain ⟨way, c, l, as, ps, rfl, w0, w5, hl, pa, la, kG, kB, kC⟩ := h
    refine ⟨_, (pss_cons (ps_if (pt_cmpR op_eq (pv 0) pe_int (nomark _))
        (pss_one (ps_ret (pe_mkX KNet hr (by decide) (by rfl) (passes_call (takes_of rfl rfl rfl rfl) fun _ _ _ _ h => h) (pa_cons (pv 1) (pa_cons (pv 2) pa_nil)))))
        pss_nil)
      (pss_cons (ps_if (pt_cmpR op_eq (pv 0) pe_int (nomark _))
        (pss_one (ps_ret (pe_clm Nboth_ways hr (by decide) (passes_call (takes_of rfl rfl rfl rfl) fun _ _ _ _ h => h) (pe_glob (v := .ref CN) rfl T.mgNet rfl) (pa_cons (pv 1) (pa_cons (pv 2) pa_nil)))))
        pss_nil)
      (pss_cons (ps_if (pt_cmpR op_eq (pv 0) pe_int (nomark _))
        (pss_one (ps_ret (pe_clm Nline hr (by decide) (passes_call (takes_of rfl rfl rfl rfl) fun _ _ _ _ h => h) (pe_glob (v := .ref CN) rfl T.mgNet rfl) (pa_cons (pv 1) pa_nil))))
        pss_nil)
      (pss_cons (ps_if (pt_cmpR op_eq (pv 0) pe_int (nomark _))
        (pss_one (ps_ret (pe_clm Nstar hr (by decide) (passes_call (takes_of rfl rfl rfl rfl) fun _ _ _ _ h => h) (pe_glob (v := .ref CN) rfl T.mgNet rfl) (pa_cons (pv 1) pa_nil))))
        pss_nil)
      (pss_cons (ps_if (pt_cmpR op_eq (pv 0) pe_int (nomark _))
        (pss_one (ps_ret (pe_clm Ncomplete hr (by decide) (passes_call (takes_of rfl rfl rfl rfl) fun _ _ _ _ h => h) (pe_glob (v := .ref CN) rfl T.mgNet rfl) (pa_cons (pv 1) pa_nil))))
        pss_nil)
      (pss_one (ps_ret (pe_clm Nring hr (by decide) (passes_call (takes_of rfl rfl rfl rfl) fun _ _ _ _ h => h) (pe_glob (v := .ref CN) rfl T.mgNet rfl) (pa_cons (pv 1) pa_nil))))))))), ?_⟩
    -- if way == 0:
    refine ⟨_, rfl, rfl, _, rfl, ?_⟩
    refine ifEqI (fun g1 => ?_) (fun g1 => ?_)
    · -- return Net(count, pairs)
      refine ⟨_, rfl, _, rfl, mk_init ⟨_, _, _, _, rfl, (by fail "hp"), (by fail "pr"), (by omega), fun n2 e2 c2 d2 g2 a2 H2 na2 sm2 nt2 => ?_, fun z => RaisesI.back (kB z) (by fail "sm"), fun n e b1 b2 => BadP.row (kC n e b1 b2 (by omega)) (by fail "sm") (by fail "pr")⟩⟩
      exact kG n2 e2 c2 d2 (.inr g2) a2 H2 na2 sm2 (by rw [callR, if_pos g1]; exact nt2)
    · -- if way == 1:
      refine ⟨_, rfl, rfl, _, rfl, ?_⟩
      refine ifEqI (fun g3 => ?_) (fun g3 => ?_)
      · -- return Net.both_ways(count, pairs)
        refine ⟨rfl, _, rfl, _, rfl, _, _, _, _, rfl, (by fail "hp"), (by fail "pr"), (by fail "om"), fun n4 e4 c4 d4 g4 a4 H4 na4 sm4 nt4 => ?_, fun z => kB z, fun n e b1 b2 => kC n e b1 b2 (by omega)⟩
        exact kG n4 e4 c4 d4 (.inr g4) a4 H4 na4 sm4 (by rw [callR, if_neg g1, if_pos g3]; exact nt4)
      · -- if way == 2:
        refine ⟨_, rfl, rfl, _, rfl, ?_⟩
        refine ifEqI (fun g5 => ?_) (fun g5 => ?_)
        · -- return Net.line(count)
          refine ⟨rfl, _, rfl, _, rfl, fun n6 e6 c6 d6 a6 H6 na6 sm6 nt6 => ?_, fun z => kB z⟩
          exact kG n6 e6 c6 d6 (.inl (by omega)) a6 H6 na6 sm6 (by rw [callR, if_neg g1, if_neg g3, if_pos g5]; exact nt6)
        · -- if way == 3:
          refine ⟨_, rfl, rfl, _, rfl, ?_⟩
          refine ifEqI (fun g7 => ?_) (fun g7 => ?_)
          · -- return Net.star(count)
            refine ⟨rfl, _, rfl, _, rfl, fun n8 e8 c8 d8 a8 H8 na8 sm8 nt8 => ?_, fun z => kB z⟩
            exact kG n8 e8 c8 d8 (.inl (by omega)) a8 H8 na8 sm8 (by rw [callR, if_neg g1, if_neg g3, if_neg g5, if_pos g7]; exact nt8)
          · -- if way == 4:
            refine ⟨_, rfl, rfl, _, rfl, ?_⟩
            refine ifEqI (fun g9 => ?_) (fun g9 => ?_)
            · -- return Net.complete(count)
              refine ⟨rfl, _, rfl, _, rfl, fun n10 e10 c10 d10 a10 H10 na10 sm10 nt10 => ?_, fun z => kB z⟩
              exact kG n10 e10 c10 d10 (.inl (by omega)) a10 H10 na10 sm10 (by rw [callR, if_neg g1, if_neg g3, if_neg g5, if_neg g7, if_pos g9]; exact nt10)
            · -- return Net.ring(count)
              refine ⟨rfl, _, rfl, _, rfl, fun n11 e11 c11 d11 a11 H11 na11 sm11 nt11 => ?_, fun z => kB z⟩
              exact kG n11 e11 c11 d11 (.inl (by omega)) a11 H11 na11 sm11 (by rw [callR, if_neg g1, if_neg g3, if_neg g5, if_neg g7, if_neg g9]; exact nt11)
abbrev sMade : Stmt := top 31
theorem scMade : FnScope ["way", "count", "pairs", "e", "kinds"] ["way", "count", "pairs"] (defScope sMade) := ⟨rfl, rfl, rfl, by decide +kernel, rfl, by decide +kernel, by decide +kernel⟩
def spMade (CN : Addr) : Sp := fun vs H Q _ => ∃ (way c : Int) (l : Addr) (as : List Addr) (ps : List (Int × Int)), vs = [.int way, .int c, .ref l] ∧ 0 ≤ way ∧ way ≤ 5 ∧ H l = some (.lst (as.map V.ref)) ∧ PrT H as ps ∧ as.length ≤ 500 ∧
  (∀ n : Nat, c = n → 1 ≤ n → n ≤ 24 → (2 ≤ way ∨ ∀ p ∈ ps, Good n p) → ∀ t a H', H t = none → Same H H' → H' t = some (.tup [.bl true, .ref a]) → NetAt CN H' a n (callR way n ps) → Q (.ref t) H') ∧
  (¬ (1 ≤ c ∧ c ≤ 24) → ∀ t H', H t = none → Same H H' → H' t = some (.tup [.bl false, .bl true, .non]) → Q (.ref t) H') ∧
  (∀ n : Nat, c = n → 1 ≤ n → n ≤ 24 → way ≤ 1 → ∀ (j : Nat) (p : Int × Int), ps[j]? = some p → ¬ Good n p → (∀ i q, i < j → ps[i]? = some q → Good n q) →
    ∀ t u H', H t = none → Same H H' → H' t = some (.tup [.bl false, .bl true, .ref u]) → H' u = some (.tup [.int p.1, .int p.2]) → Q (.ref t) H')
theorem ok_Made (D : Df K mg "_law_made" sMade ["way", "count", "pairs"]) (T : LTx K mg CN CI CU CL CS mc mu) (GCall : CalX P w K mg base 10 "_law_call" (spCall CN CI)) : C8.Cal P w K mg base 12 "_law_made" (spMade CN) [] := by
  obtain ⟨f, fd, F, hm, hb⟩ := D
  refine ⟨f, fd, ["way", "count", "pairs"], [], F.ok scMade (fun vs H Q E h => ?_) (fun cdv A outer s H vs Q E hr h => ?_), hm, F.kp, hb, .nil⟩
  · obtain ⟨way, c, l, as, ps, rfl, w0, w5, hl, pa, la, kG, kB, kC⟩ := h
    rfl
  · obtain ⟨way, c, l, as, ps, rfl, w0, w5, hl, pa, la, kG, kB, kC⟩ := h
    refine ⟨_, (pss_one (ps_try_as (i := 3) (Wout := fun _ _ _ _ => False) rfl rfl scMade.nd rfl rfl ⟨rfl, by decide, Or.inl T.mgStoreError⟩ takes0
        (fun W pn xe tk _ => (pss_one (ps_ret (pe_tup (pa_cons pe_bl (pa_cons (pe_cS GCall hr (by decide) (by rfl) (fun σ => passAt tk σ) (pa_cons (pv 0) (pa_cons (pv 1) (pa_cons (pv 2) pa_nil)))) pa_nil))))))
        (fun a oe cls d pn hz hf => (pss_cons (ps_set (i := 4) scMade.nd rfl (Or.inl rfl) (pe_lst (pa_cons (pe_callB (call_isX hz hf) (by rfl) T.isinstance (by decide +kernel) (pa_cons (pv 3) (pa_cons (pe_glob (v := .ref CI) rfl T.mgInvalidNet rfl) pa_nil))) (pa_cons (pe_callB (call_isX hz hf) (by rfl) T.isinstance (by decide +kernel) (pa_cons (pv 3) (pa_cons (pe_glob (v := .ref CL) rfl T.mgNotLinked rfl) pa_nil))) (pa_cons (pe_callB (call_isX hz hf) (by rfl) T.isinstance (by decide +kernel) (pa_cons (pv 3) (pa_cons (pe_glob (v := .ref CU) rfl T.mgUnknownReplica rfl) pa_nil))) pa_nil)))))
        (pss_cons (ps_if (PW.pt (pw_or (pt_cmpR (op_neDB (K := K) hr.units (by rfl)) (pv 4) (pe_lst (pa_cons pe_bl (pa_cons pe_bl (pa_cons pe_bl pa_nil)))) (nomark _)) (pw_or1 (pt_not (pt_val (pe_callB (call_isX hz hf) (by rfl) T.isinstance (by decide +kernel) (pa_cons (pv 3) (pa_cons (pe_bltn (v := .ty "ValueError") (u := .type "ValueError") (by rfl) T.mgV (by decide +kernel) rfl) pa_nil))))))))
          (pss_one (ps_ret (pe_tup (pa_cons pe_bl (pa_cons pe_bl (pa_cons pe_non pa_nil))))))
          pss_nil)
        (pss_one (ps_ret (pe_tup (pa_cons pe_bl (pa_cons pe_bl (pa_cons (pe_xf T.isI.xf T.noI hz hf (pv 3)) pa_nil))))))))))), ?_⟩
    refine ⟨_, rfl, _, rfl, _, rfl, _, _, _, _, _, rfl, w0, w5, (by fail "hp"), (by fail "pr"), la, fun n e b1 b2 g a H1 na sm nt => ?_, fun z d H1 nd sm hx => ?_, fun n e b1 b2 w1 j p hj bad fst d u H1 nd sm hu hx => ?_⟩
    · refine ⟨(by fail "sz"), fun t nt0 => ?_⟩
      exact kG n e b1 b2 g t a _ (free_back nt0 sm) (by fail "sm") upd_same (by fail "na")
    · refine ⟨true, T.xI, fun _ a0 na0 => ?_, fun q => Bool.noConfusion q⟩
      refine ⟨_, rfl, _, _, _, _, _, _, rfl, T.isI, rfl, (fun _ z => z), rfl, hx, T.kII, ?_⟩
      refine ⟨_, rfl, _, _, _, _, _, _, rfl, T.isI, rfl, (fun _ z => z), rfl, hx, T.kIL, ?_⟩
      refine ⟨_, rfl, _, _, _, _, _, _, rfl, T.isI, rfl, (fun _ z => z), rfl, hx, T.kIU, ?_⟩
      refine ⟨(by fail "sz"), fun p1 np1 => ?_⟩
      refine ⟨_, rfl, (by fail "sz"), fun p2 np2 => ⟨_, _, .lst (SqL.of (by fail "hp")) (.cons (.bl _) (.cons (.bl _) (.cons (.bl _) .nil))), .lst (SqL.of (by fail "hp")) (.cons (.bl _) (.cons (.bl _) (.cons (.bl _) .nil))), rfl, rfl, _, rfl, ?_⟩⟩
      refine iteKF rfl ?_
      refine ⟨_, rfl, _, _, _, _, _, _, rfl, T.isI, rfl, (fun _ z => z), rfl, (by fail "hp"), T.kIV, _, rfl, ?_⟩
      refine iteKF rfl ?_
      refine ⟨_, rfl, rfl, rfl, _, _, _, rfl, (by fail "hp"), (by rfl), (by fail "sz"), fun p3 np3 => ?_⟩
      exact kB z p3 _ (free_back (fresh2 (fresh2 np3).1).1 sm) (by fail "sm") upd_same
    · refine ⟨true, T.xI, fun _ a0 na0 => ?_, fun q => Bool.noConfusion q⟩
      refine ⟨_, rfl, _, _, _, _, _, _, rfl, T.isI, rfl, (fun _ z => z), rfl, hx, T.kII, ?_⟩
      refine ⟨_, rfl, _, _, _, _, _, _, rfl, T.isI, rfl, (fun _ z => z), rfl, hx, T.kIL, ?_⟩
      refine ⟨_, rfl, _, _, _, _, _, _, rfl, T.isI, rfl, (fun _ z => z), rfl, hx, T.kIU, ?_⟩
      refine ⟨(by fail "sz"), fun p1 np1 => ?_⟩
      refine ⟨_, rfl, (by fail "sz"), fun p2 np2 => ⟨_, _, .lst (SqL.of (by fail "hp")) (.cons (.bl _) (.cons (.bl _) (.cons (.bl _) .nil))), .lst (SqL.of (by fail "hp")) (.cons (.bl _) (.cons (.bl _) (.cons (.bl _) .nil))), rfl, rfl, _, rfl, ?_⟩⟩
      refine iteKF rfl ?_
      refine ⟨_, rfl, _, _, _, _, _, _, rfl, T.isI, rfl, (fun _ z => z), rfl, (by fail "hp"), T.kIV, _, rfl, ?_⟩
      refine iteKF rfl ?_
      refine ⟨_, rfl, rfl, rfl, _, _, _, rfl, (by fail "hp"), (by rfl), (by fail "sz"), fun p3 np3 => ?_⟩
      exact kC n e b1 b2 w1 j p hj bad fst p3 u _ (free_back (fresh2 (fresh2 np3).1).1 sm) (by fail "sm") upd_same (by fail "hp")
abbrev sChanged : Stmt := top 32
theorem scChanged : FnScope ["adds", "net", "pair"] ["adds", "net", "pair"] (defScope sChanged) := ⟨rfl, rfl, rfl, by decide +kernel, rfl, by decide +kernel, by decide +kernel⟩
/-- the deed is due: the link is good, or (to take it away) there -/
def DueG (adds : Bool) (n : Nat) (R : Rel) (p : Int × Int) : Prop := if adds = true then Good n p else p ∈ ties n R
def doneR (adds : Bool) (R : Rel) (p : Int × Int) : Rel := if adds = true then moreR R p else lessR R p
def spChanged (CN CI CL : Addr) : Sp := fun vs H Q E => ∃ (adds : Bool) (a t : Addr) (n : Nat) (R : Rel) (s r : Int), vs = [.bl adds, .ref a, .ref t] ∧ NetAt CN H a n R ∧ H t = some (.tup [.int s, .int r]) ∧
  (DueG adds n R (s, r) → ∀ a2 H', H a2 = none → Same H H' → NetAt CN H' a2 n (doneR adds R (s, r)) → Q (.ref a2) H') ∧ (adds = true → ¬ Good n (s, r) → RaisesP CI (s, r) H E) ∧ (adds = false → ¬ (s, r) ∈ ties n R → RaisesL CL s r H E)
theorem ok_Changed (D : Df K mg "_law_changed" sChanged ["adds", "net", "pair"]) (T : LTx K mg CN CI CU CL CS mc mu) (Nwith_link : MetX P w K mg base 7 CN "with_link" (spWith CN CI)) (Nwithout_link : MetX P w K mg base 7 CN "without_link" (spWithout CN CL)) : CalX P w K mg base 8 "_law_changed" (spChanged CN CI CL) := by
  obtain ⟨f, fd, F, hm, hb⟩ := D
  refine ⟨f, fd, ["adds", "net", "pair"], F.okX scChanged (fun vs H Q E h => ?_) (fun cdv A outer s H vs Q E hr h => ?_), hm, F.kp, hb⟩
  · obtain ⟨adds, a, t, n, R, s0, r, rfl, na, ht, kG, kB, kC⟩ := h
    rfl
  · obtain ⟨adds, a, t, n, R, s0, r, rfl, na, ht, kG, kB, kC⟩ := h
    have na2 := na
    obtain ⟨⟨dx, d, ha, hd⟩, b1, b2, ir⟩ := na2
    refine ⟨_, (pss_cons (ps_if (pt_val (pv 0))
        (pss_one (ps_ret (pe_mx Nwith_link hr (by decide) (passes_call (takes_of rfl rfl rfl rfl) fun _ _ _ _ h => h) (pv 1) (pa_cons (pe_ix ix_tup (pv 2) pe_int (fun _ _ => rfl)) (pa_cons (pe_ix ix_tup (pv 2) pe_int (fun _ _ => rfl)) pa_nil)))))
        pss_nil)
      (pss_one (ps_ret (pe_mx Nwithout_link hr (by decide) (passes_call (takes_of rfl rfl rfl rfl) fun _ _ _ _ h => h) (pv 1) (pa_cons (pe_ix ix_tup (pv 2) pe_int (fun _ _ => rfl)) (pa_cons (pe_ix ix_tup (pv 2) pe_int (fun _ _ => rfl)) pa_nil)))))), ?_⟩
    -- if adds:
    refine ⟨_, rfl, _, rfl, ?_⟩
    refine ifB (fun g1 => ?_) (fun g1 => ?_)
    · -- return net.with_link(pair[0], pair[1])
      refine ⟨_, rfl, _, _, _, rfl, (by fail "hp"), (by fail "lk"), _, rfl, _, _, _, _, rfl, rfl, SqT.of (by fail "hp"), (by fail "ix"), _, rfl, _, _, _, _, rfl, rfl, SqT.of (by fail "hp"), (by fail "ix"), _, _, _, _, _, rfl, (by fail "na"), fun gd2 a2 H2 na2 sm2 nt2 => ?_, fun z => kB g1 z⟩
      exact kG (by rw [DueG, if_pos g1]; exact gd2) a2 H2 na2 sm2 (by rw [doneR, if_pos g1]; exact nt2)
    · -- return net.without_link(pair[0], pair[1])
      refine ⟨_, rfl, _, _, _, rfl, (by fail "hp"), (by fail "lk"), _, rfl, _, _, _, _, rfl, rfl, SqT.of (by fail "hp"), (by fail "ix"), _, rfl, _, _, _, _, rfl, rfl, SqT.of (by fail "hp"), (by fail "ix"), _, _, _, _, _, rfl, (by fail "na"), fun gd3 a3 H3 na3 sm3 nt3 => ?_, fun z => kC g1 z⟩
      exact kG (by rw [DueG, if_neg (by rw [g1]; exact Bool.false_ne_true)]; exact gd3) a3 H3 na3 sm3 (by rw [doneR, if_neg (by rw [g1]; exact Bool.false_ne_true)]; exact nt3)
abbrev sDeed : Stmt := top 33
theorem scDeed : FnScope ["adds", "net", "pair", "e", "kinds"] ["adds", "net", "pair"] (defScope sDeed) := ⟨rfl, rfl, rfl, by decide +kernel, rfl, by decide +kernel, by decide +kernel⟩
def spDeed (CN : Addr) : Sp := fun vs H Q _ => ∃ (adds : Bool) (a t : Addr) (n : Nat) (R : Rel) (s r : Int), vs = [.bl adds, .ref a, .ref t] ∧ NetAt CN H a n R ∧ H t = some (.tup [.int s, .int r]) ∧
  (DueG adds n R (s, r) → ∀ u a2 H', H u = none → Same H H' → H' u = some (.tup [.bl true, .ref a2]) → NetAt CN H' a2 n (doneR adds R (s, r)) → Q (.ref u) H') ∧
  (¬ DueG adds n R (s, r) → ∀ u v H', H u = none → Same H H' → H' u = some (.tup [.bl false, .bl true, .ref v]) → H' v = some (.tup [.int s, .int r]) → Q (.ref u) H')
theorem ok_Deed (D : Df K mg "_law_deed" sDeed ["adds", "net", "pair"]) (T : LTx K mg CN CI CU CL CS mc mu) (GChanged : CalX P w K mg base 8 "_law_changed" (spChanged CN CI CL)) : C8.Cal P w K mg base 10 "_law_deed" (spDeed CN) [] := by
  obtain ⟨f, fd, F, hm, hb⟩ := D
  refine ⟨f, fd, ["adds", "net", "pair"], [], F.ok scDeed (fun vs H Q E h => ?_) (fun cdv A outer s H vs Q E hr h => ?_), hm, F.kp, hb, .nil⟩
  · obtain ⟨adds, a, t, n, R, s0, r, rfl, na, ht, kG, kB⟩ := h
    rfl
  · obtain ⟨adds, a, t, n, R, s0, r, rfl, na, ht, kG, kB⟩ := h
    refine ⟨_, (pss_one (ps_try_as (i := 3) (Wout := fun _ _ _ _ => False) rfl rfl scDeed.nd rfl rfl ⟨rfl, by decide, Or.inl T.mgStoreError⟩ takes0
        (fun W pn xe tk _ => (pss_one (ps_ret (pe_tup (pa_cons pe_bl (pa_cons (pe_cS GChanged hr (by decide) (by rfl) (fun σ => passAt tk σ) (pa_cons (pv 0) (pa_cons (pv 1) (pa_cons (pv 2) pa_nil)))) pa_nil))))))
        (fun a oe cls d pn hz hf => (pss_cons (ps_set (i := 4) scDeed.nd rfl (Or.inl rfl) (pe_lst (pa_cons (pe_callB (call_isX hz hf) (by rfl) T.isinstance (by decide +kernel) (pa_cons (pv 3) (pa_cons (pe_glob (v := .ref CI) rfl T.mgInvalidNet rfl) pa_nil))) (pa_cons (pe_callB (call_isX hz hf) (by rfl) T.isinstance (by decide +kernel) (pa_cons (pv 3) (pa_cons (pe_glob (v := .ref CL) rfl T.mgNotLinked rfl) pa_nil))) (pa_cons (pe_callB (call_isX hz hf) (by rfl) T.isinstance (by decide +kernel) (pa_cons (pv 3) (pa_cons (pe_glob (v := .ref CU) rfl T.mgUnknownReplica rfl) pa_nil))) pa_nil)))))
        (pss_cons (ps_if (PW.pt (pw_or (pt_cmpR (op_neDB (K := K) hr.units (by rfl)) (pv 4) (pe_lst (pa_cons (pv 0) (pa_cons (pe_not (pv 0)) (pa_cons pe_bl pa_nil)))) (nomark _)) (pw_or1 (pt_not (pt_val (pe_callB (call_isX hz hf) (by rfl) T.isinstance (by decide +kernel) (pa_cons (pv 3) (pa_cons (pe_bltn (v := .ty "ValueError") (u := .type "ValueError") (by rfl) T.mgV (by decide +kernel) rfl) pa_nil))))))))
          (pss_one (ps_ret (pe_tup (pa_cons pe_bl (pa_cons pe_bl (pa_cons pe_non pa_nil))))))
          pss_nil)
        (pss_cons (ps_if (pt_val (pv 0))
          (pss_one (ps_ret (pe_tup (pa_cons pe_bl (pa_cons pe_bl (pa_cons (pe_xf T.isI.xf T.noI hz hf (pv 3)) pa_nil))))))
          pss_nil)
        (pss_one (ps_ret (pe_tup (pa_cons pe_bl (pa_cons pe_bl (pa_cons (pe_tup (pa_cons (pe_xf T.isL.xf T.noL1 hz hf (pv 3)) (pa_cons (pe_xf T.isL.xf T.noL2 hz hf (pv 3)) pa_nil))) pa_nil)))))))))))), ?_⟩
    refine ⟨_, rfl, _, rfl, _, rfl, _, _, _, _, _, _, _, rfl, na, ht, fun g a2 H1 na2 sm nt => ?_, fun ea bad d u H1 nd sm hu hx => ?_, fun ea bad d H1 nd sm hx => ?_⟩
    · refine ⟨(by fail "sz"), fun u nu => ?_⟩
      exact kG g u a2 _ (free_back nu sm) (by fail "sm") upd_same (by fail "na")
    · subst ea
      refine ⟨true, T.xI, fun _ a0 na0 => ?_, fun q => Bool.noConfusion q⟩
      refine ⟨_, rfl, _, _, _, _, _, _, rfl, T.isI, rfl, (fun _ z => z), rfl, hx, T.kII, ?_⟩
      refine ⟨_, rfl, _, _, _, _, _, _, rfl, T.isI, rfl, (fun _ z => z), rfl, hx, T.kIL, ?_⟩
      refine ⟨_, rfl, _, _, _, _, _, _, rfl, T.isI, rfl, (fun _ z => z), rfl, hx, T.kIU, ?_⟩
      refine ⟨(by fail "sz"), fun p1 np1 => ?_⟩
      refine ⟨_, rfl, _, rfl, _, rfl, _, rfl, (by fail "sz"), fun p2 np2 => ⟨_, _, .lst (SqL.of (by fail "hp")) (.cons (.bl _) (.cons (.bl _) (.cons (.bl _) .nil))), .lst (SqL.of (by fail "hp")) (.cons (.bl _) (.cons (.bl _) (.cons (.bl _) .nil))), rfl, rfl, _, rfl, ?_⟩⟩
      refine iteKF rfl ?_
      refine ⟨_, rfl, _, _, _, _, _, _, rfl, T.isI, rfl, (fun _ z => z), rfl, (by fail "hp"), T.kIV, _, rfl, ?_⟩
      refine iteKF rfl ?_
      refine ⟨_, rfl, _, rfl, ?_⟩
      refine iteK rfl ?_
      refine ⟨_, rfl, rfl, rfl, _, _, _, rfl, (by fail "hp"), (by rfl), (by fail "sz"), fun p3 np3 => ?_⟩
      exact kB (by rw [DueG, if_pos rfl]; exact bad) p3 u _ (free_back (fresh2 (fresh2 np3).1).1 sm) (by fail "sm") upd_same (by fail "hp")
    · subst ea
      refine ⟨true, T.xL, fun _ a0 na0 => ?_, fun q => Bool.noConfusion q⟩
      refine ⟨_, rfl, _, _, _, _, _, _, rfl, T.isL, rfl, (fun _ z => z), rfl, hx, T.kLI, ?_⟩
      refine ⟨_, rfl, _, _, _, _, _, _, rfl, T.isL, rfl, (fun _ z => z), rfl, hx, T.kLL, ?_⟩
      refine ⟨_, rfl, _, _, _, _, _, _, rfl, T.isL, rfl, (fun _ z => z), rfl, hx, T.kLU, ?_⟩
      refine ⟨(by fail "sz"), fun p1 np1 => ?_⟩
      refine ⟨_, rfl, _, rfl, _, rfl, _, rfl, (by fail "sz"), fun p2 np2 => ⟨_, _, .lst (SqL.of (by fail "hp")) (.cons (.bl _) (.cons (.bl _) (.cons (.bl _) .nil))), .lst (SqL.of (by fail "hp")) (.cons (.bl _) (.cons (.bl _) (.cons (.bl _) .nil))), rfl, rfl, _, rfl, ?_⟩⟩
      refine iteKF rfl ?_
      refine ⟨_, rfl, _, _, _, _, _, _, rfl, T.isL, rfl, (fun _ z => z), rfl, (by fail "hp"), T.kLV, _, rfl, ?_⟩
      refine iteKF rfl ?_
      refine ⟨_, rfl, _, rfl, ?_⟩
      refine iteKF rfl ?_
      refine ⟨_, rfl, rfl, rfl, _, _, _, rfl, (by fail "hp"), (by rfl), _, rfl, rfl, rfl, _, _, _, rfl, (by fail "hp"), (by rfl), (by fail "sz"), fun p4 np4 => ⟨(by fail "sz"), fun p3 np3 => ?_⟩⟩
      exact kB (by rw [DueG, if_neg Bool.false_ne_true]; exact bad) p3 p4 _ (free_back (fresh2 (fresh2 (fresh2 np3).1).1).1 sm) (by fail "sm") upd_same (by fail "hp")
abbrev sRefused : Stmt := top 34
theorem scRefused : FnScope ["made", "due"] ["made", "due"] (defScope sRefused) := ⟨rfl, rfl, rfl, by decide +kernel, rfl, by decide +kernel, by decide +kernel⟩
def spRefused : Sp := fun vs H Q _ => ∃ (t : Addr) (dv lv : V), vs = [.ref t, dv] ∧ H t = some (.tup [.bl false, .bl true, lv]) ∧ ((dv = .non ∧ lv = .non) ∨ ∃ (u v : Addr) (x y : Int), dv = .ref u ∧ lv = .ref v ∧ H u = some (.tup [.int x, .int y]) ∧ H v = some (.tup [.int x, .int y])) ∧ Q (.bl true) H
theorem ok_Refused (D : Df K mg "_law_refused" sRefused ["made", "due"]) (T : LTx K mg CN CI CU CL CS mc mu) (GIsPair : C8.Cal P w K mg base 2 "_law_is_pair" spIsPair []) : C8.Cal P w K mg base 3 "_law_refused" spRefused [] := by
  obtain ⟨f, fd, F, hm, hb⟩ := D
  refine ⟨f, fd, ["made", "due"], [], F.ok scRefused (fun vs H Q E h => ?_) (fun cdv A outer s H vs Q E hr h => ?_), hm, F.kp, hb, .nil⟩
  · obtain ⟨t, dv, lv, rfl, ht, hh, kQ⟩ := h
    rfl
  · obtain ⟨t, dv, lv, rfl, ht, hh, kQ⟩ := h
    refine ⟨_, (pss_cons (ps_if (PW.pt (pw_or (pt_val (pe_ix ix_tup (pv 0) pe_int (fun _ _ => rfl))) (pw_or1 (pt_not (pt_val (pe_ix ix_tup (pv 0) pe_int (fun _ _ => rfl)))))))
        (pss_one (ps_ret pe_bl))
        pss_nil)
      (pss_cons (ps_if (pt_cmpR op_isN (pv 1) pe_non (nomark _))
        (pss_one (ps_ret (pe_cmpR op_isN (pe_ix ix_tup (pv 0) pe_int (fun _ _ => rfl)) pe_non (nomark _))))
        pss_nil)
      (pss_one (ps_ret (C8.pe_c GIsPair hr (by decide) (by rfl) (pa_cons (pe_ix ix_tup (pv 0) pe_int (fun _ _ => rfl)) (pa_cons (pv 1) pa_nil))))))), ?_⟩
    rcases hh with ⟨rfl, rfl⟩ | ⟨u, v, x, y, rfl, rfl, hu, hv⟩
    · refine ⟨_, rfl, _, _, _, _, rfl, rfl, SqT.of ht, ix0, _, rfl, ?_⟩
      refine iteF ?_
      refine ⟨_, rfl, _, _, _, _, rfl, rfl, SqT.of ht, ix1, _, rfl, ?_⟩
      refine iteKF rfl ?_
      refine ⟨_, rfl, rfl, _, rfl, ?_⟩
      refine iteK rfl ?_
      refine ⟨_, rfl, _, _, _, _, rfl, rfl, SqT.of ht, ix2, rfl, ?_⟩
      exact kQ
    · refine ⟨_, rfl, _, _, _, _, rfl, rfl, SqT.of ht, ix0, _, rfl, ?_⟩
      refine iteF ?_
      refine ⟨_, rfl, _, _, _, _, rfl, rfl, SqT.of ht, ix1, _, rfl, ?_⟩
      refine iteKF rfl ?_
      refine ⟨_, rfl, rfl, _, rfl, ?_⟩
      refine iteKF rfl ?_
      refine ⟨_, rfl, _, _, _, _, rfl, rfl, SqT.of ht, ix2, _, rfl, _, _, _, _, rfl, hv, hu, ?_⟩
      exact kQ
end
end K00

end
section
set_option Elab.async false
set_option linter.all false
set_option maxRecDepth 100000
set_option maxHeartbeats 800000
namespace K00
open PySem L2 Kit KR KX L2H
local macro_rules | `(tactic| fail "om") => `(tactic| first | omega | (simp only [List.length_map, List.length_append, List.length_cons, List.length_nil]; omega) | (simp only [List.length_map, List.length_append, List.length_cons, List.length_nil] at *; omega) | assumption | decide | fail "no om")
local macro_rules | `(tactic| fail "nz") => `(tactic| first | decide | omega | fail "no nz")
local macro_rules | `(tactic| fail "dv") => `(tactic| exact ⟨by first | decide | omega, by first | decide | omega⟩)
local macro_rules | `(tactic| fail "mul") => `(tactic| first | exact .inr ⟨by decide, by decide⟩ | exact .inl ⟨by decide, by decide⟩ | exact mulF (by decide) (by decide) | exact .inl ⟨by omega, by omega⟩ | exact .inr ⟨by omega, by omega⟩ | fail "no mul")
local macro_rules | `(tactic| fail "sz") => `(tactic| first | assumption | exact Nat.zero_le _ | (show 1 ≤ sizeLine; decide) | (show 2 ≤ sizeLine; decide) | (show 3 ≤ sizeLine; decide) | (show 4 ≤ sizeLine; decide) | (show 5 ≤ sizeLine; decide) | exact Evl.sz_of (by omega) | (refine Evl.sz_of ?_; simp only [List.length_append, List.length_map, List.length_cons, List.length_nil]; omega) | fail "no sz")
local macro_rules | `(tactic| fail "szl") => `(tactic| first | exact Evl.sz_lt (by omega) | (refine Evl.sz_lt ?_; simp only [List.length_append, List.length_map, List.length_cons, List.length_nil]; omega) | fail "no szl")
local macro_rules | `(tactic| fail "ix") => `(tactic| first | assumption | exact ix0 | exact ix1 | exact ix2 | exact at_ref (by assumption) (by omega) | exact at_int (by assumption) (by omega) | exact at_drawn (by assumption) (by assumption) | rfl | fail "no ix")
local macro_rules | `(tactic| fail "ixn") => `(tactic| first | rfl | assumption | fail "no ixn")
local macro_rules | `(tactic| fail "nb") => `(tactic| first | assumption | exact nb_tup | exact nb_nil | exact nb_ints | exact nb_refs | exact nb_ins | exact nb_dT | exact nb_frz | fail "no nb")
local macro_rules | `(tactic| fail "ne") => `(tactic| first | assumption | exact Ne.symm (by assumption) | exact ne_of_none (by assumption) (by assumption) | exact (ne_of_none (by assumption) (by assumption)).symm | exact ne_of (by assumption) (by assumption) (by intro q; cases q) | exact ne_of (by assumption) (by assumption) (by simp) | fail "no ne")
local macro_rules | `(tactic| fail "hp") => `(tactic| first | assumption | exact upd_same | (refine' Tk.get (by assumption) ?k1; (case k1 => fail "tk")) | (with_reducible refine' upd_new ?h1 ?n1; (case n1 => assumption); (case h1 => fail "hp")) | (refine' Same.get (by assumption) ?h1; (case h1 => fail "hp")) | (refine' Kp.get (by assumption) (by fail "bx") ?h1 ?d1; (case h1 => fail "hp"); (case d1 => fail "nb")) | (with_reducible refine' upd_oth ?h1 ?n1; (case n1 => fail "ne"); (case h1 => fail "hp")) | (with_reducible refine' upd_oth ?h1 ?n1; (case h1 => fail "hp"); (case n1 => fail "ne")) | fail "no hp")
local macro_rules | `(tactic| fail "bx") => `(tactic| first | assumption | (with_reducible refine' BoxOk.new ?h1 ?n1; (case n1 => assumption); (case h1 => fail "bx")) | (refine' BoxOk.same (by assumption) ?h1; (case h1 => fail "bx")) | (with_reducible refine' BoxOk.mut ?h1 ?h2 ?n1; (case n1 => assumption); (case h2 => assumption); (case h1 => fail "bx")) | fail "no bx")
local macro_rules | `(tactic| fail "kp") => `(tactic| first | assumption | exact Kp.refl | (with_reducible refine' Kp.at ?h1; (case h1 => fail "kp")) | (with_reducible refine' Kp.new ?h1 ?n1; (case n1 => assumption); (case h1 => fail "kp")) | (with_reducible refine' Kp.mut ?h1 ?n1; (case n1 => assumption); (case h1 => fail "kp")) | (refine' Kp.tr (by assumption) ?h1; (case h1 => fail "kp")) | (refine' Kp.tr (Kp.of (by assumption)) ?h1; (case h1 => fail "kp")) | fail "no kp")
local macro_rules | `(tactic| fail "ite") => `(tactic| first | refine iteT ?_ | refine iteF ?_)
local macro_rules | `(tactic| fail "tt") => `(tactic| first | rfl | exact decide_eq_true (by first | rfl | omega | assumption) | exact decide_eq_true (congrArg V.int (by first | rfl | omega)) | fail "no tt")
local macro_rules | `(tactic| fail "cv") => `(tactic| first | exact .ty _ | exact .own _)
local macro_rules | `(tactic| fail "tx") => `(tactic| first | exact .base (.int _) | exact .base (.bl _) | exact .base .non | exact .base (.lst (by fail "hp")) | exact .base (.tup (by fail "hp")) | fail "no tx")
local macro_rules | `(tactic| fail "dead") => `(tactic| (exfalso; first | omega | contradiction | simp_all))
local macro_rules | `(tactic| fail "dp") => `(tactic| first | exact .tup (SqT.of (by fail "hp")) (.cons (.int _) (.cons (.int _) .nil)) | exact .lst (SqL.of (by fail "hp")) (dpPrs (by fail "pr")) | exact .lst (SqL.of (by fail "hp")) (dpInts _) | exact .lst (SqL.of (by fail "hp")) .nil | fail "no dp")
local macro_rules | `(tactic| fail "shp") => `(tactic| first | assumption | exact prD_shaped _ | exact PySem.W.ke_shaped_ints _ | rfl | fail "no shp")
local macro_rules | `(tactic| fail "pr") => `(tactic| first | assumption | exact PrT.mono (by assumption) (by fail "tk") | fail "no pr")
local macro_rules | `(tactic| fail "tk") => `(tactic| first | assumption | exact Tk.refl | (with_reducible refine' Tk.new ?h1 ?n1; (case n1 => assumption); (case h1 => fail "tk")) | (refine' Tk.tr (Kp.tk (by assumption) (by fail "bx")) ?h1; (case h1 => fail "tk")) | (refine' Tk.tr (Same.tk (by assumption)) ?h1; (case h1 => fail "tk")) | (with_reducible refine' Tk.lst ?h1 ?n1; (case n1 => fail "hp"); (case h1 => fail "tk")) | fail "no tk")
local macro_rules | `(tactic| fail "lk") => `(tactic| first | exact netF_count _ _ | exact netF_links _ _ | exact netF_no _ _ (by decide +kernel) (by decide +kernel) | fail "no lk")
local macro_rules | `(tactic| fail "kt") => `(tactic| first | exact upd_same | assumption | fail "hp")
local macro_rules | `(tactic| fail "na") => `(tactic| first | assumption | (with_reducible refine' NetAt.new ?h1 ?n1; (case n1 => assumption); (case h1 => fail "na")) | (refine' NetAt.same (by assumption) ?h1; (case h1 => fail "na")) | (refine' NetAt.kp (by assumption) (by fail "bx") ?h1; (case h1 => fail "na")) | (with_reducible refine' NetAt.lst ?h1 ?n1; (case n1 => fail "hp"); (case h1 => fail "na")) | fail "no na")
local macro_rules | `(tactic| fail "mono") => `(tactic| first | exact fun _ _ _ _ h q => h _ _ q | exact fun _ _ _ _ h q => (let ⟨v, e, z⟩ := q; ⟨v, e, h _ _ z⟩) | exact fun _ _ _ _ h q => (let ⟨v, e, u, f, z⟩ := q; ⟨v, e, u, f, h _ _ z⟩) | fail "no mono")
local macro_rules | `(tactic| fail "sm") => `(tactic| first | assumption | exact Same.refl _ | (with_reducible refine' Same.new ?h1 ?n1; (case n1 => assumption); (case h1 => fail "sm")) | (refine' Same.tr (by assumption) ?h1; (case h1 => fail "sm")) | fail "no sm")
local macro_rules | `(tactic| fail "fld") => `(tactic| first | (show 0 < 1000; decide) | (show 1 < 1000; decide) | fail "no fld")

section
variable {P : Program} {w : World} {K : PySem.W.Frag} {mg : Str → Option Value} {base : Heap} {CN CI CU CL CS : Addr} {mc mu : Value}

abbrev sNamedTable : Stmt := top 43
theorem scNamedTable : FnScope ["way", "count", "table", "x", "y", "joined"] ["way", "count"] (defScope sNamedTable) := ⟨rfl, rfl, rfl, by decide +kernel, rfl, by decide +kernel, by decide +kernel⟩
def spNamedTable : Sp := fun vs H Q _ => ∃ (way : Int) (n : Nat), vs = [.int way, .int (n : Int)] ∧ 2 ≤ way ∧ way ≤ 5 ∧ 1 ≤ n ∧ n ≤ 24 ∧ ∀ (t : Addr) (T : List Int) (H' : Hp), H t = none → Same H H' → H' t = some (.lst (T.map V.int)) → IsTab n T (callR way n []) → Q (.ref t) H'
theorem ok_NamedTable (D : Df K mg "_law_named_table" sNamedTable ["way", "count"]) (T : LTx K mg CN CI CU CL CS mc mu) : C8.Cal P w K mg base 1 "_law_named_table" spNamedTable [] := by
  obtain ⟨f, fd, F, hm, hb⟩ := D
  refine ⟨f, fd, ["way", "count"], [], F.ok scNamedTable (fun vs H Q E h => ?_) (fun cdv A outer s H vs Q E hr h => ?_), hm, F.kp, hb, .nil⟩
  · obtain ⟨way, n, rfl, w2, w5, b1, b2, kQ⟩ := h
    rfl
  · obtain ⟨way, n, rfl, w2, w5, b1, b2, kQ⟩ := h
    have nn1 : 0 ≤ (n : Int) * (n : Int) := Int.mul_nonneg (by omega) (by omega)
    have nn2 : (n : Int) * (n : Int) ≤ 576 := by
      have q : n * n ≤ 24 * 24 := Nat.mul_le_mul b2 b2
      have q2 : ((n * n : Nat) : Int) = (n : Int) * (n : Int) := Int.natCast_mul n n
      omega
    refine ⟨_, (pss_cons (ps_set (i := 2) scNamedTable.nd rfl (Or.inl rfl) (pe_op op_rep (pe_lst (pa_cons pe_int pa_nil)) (pe_op op_mul (pv 1) (pv 1))))
      (pss_cons (ps_for PassesOwn.never rfl (pi_range1 rfl T.range (pa_cons (pv 1) pa_nil)) (pg_name (i := 3) scNamedTable.nd rfl (Or.inl rfl))
        (pss_one (ps_for PassesOwn.never rfl (pi_range1 rfl T.range (pa_cons (pv 1) pa_nil)) (pg_name (i := 4) scNamedTable.nd rfl (Or.inl rfl))
          (pss_cons (ps_set (i := 5) scNamedTable.nd rfl (Or.inl rfl) (pe_cmpR op_ne (pv 3) (pv 4) (nomark _)))
          (pss_cons (ps_if (pt_cmpR op_eq (pv 0) pe_int (nomark _))
            (pss_one (ps_set (i := 5) scNamedTable.nd rfl (Or.inl rfl) (pe_or (pe_cmpR op_eq (pe_op op_sub (pv 3) (pv 4)) pe_int (nomark _)) (pe_one (pe_cmpR op_eq (pe_op op_sub (pv 4) (pv 3)) pe_int (nomark _))))))
            pss_nil)
          (pss_cons (ps_if (pt_cmpR op_eq (pv 0) pe_int (nomark _))
            (pss_one (ps_set (i := 5) scNamedTable.nd rfl (Or.inl rfl) (pe_and (pe_cmpR op_ne (pv 3) (pv 4) (nomark _)) (pe_one (pe_or (pe_cmpR op_eq (pv 3) pe_int (nomark _)) (pe_one (pe_cmpR op_eq (pv 4) pe_int (nomark _))))))))
            pss_nil)
          (pss_cons (ps_if (pt_cmpR op_eq (pv 0) pe_int (nomark _))
            (pss_one (ps_set (i := 5) scNamedTable.nd rfl (Or.inl rfl) (pe_and (pe_cmpR op_ne (pv 3) (pv 4) (nomark _)) (pe_one (pe_cmpR op_eq (pv 4) (pe_op op_modN (pe_callTy call_int1 (by rfl) T.int (by decide +kernel) (pa_cons (pe_op op_add (pv 3) pe_int) pa_nil)) (pv 1)) (nomark _))))))
            pss_nil)
          (pss_one (ps_asg (pe_callTy call_int1 (by rfl) T.int (by decide +kernel) (pa_cons (pv 5) pa_nil)) (pg_sub (pv 2) (pe_op op_add (pe_op op_mul (pv 3) (pv 1)) (pv 4)) set_list))))))))))
      (pss_one (ps_ret (pv 2))))), ?_⟩
    -- table = [0] * (count * count)
    refine ⟨(by fail "sz"), fun p2 np2 => ⟨_, rfl, _, rfl, _, _, rfl, rfl, (by fail "mul"), _, _, _, rfl, rfl, (by fail "hp"), (by fail "om"), (by fail "om"), (by fail "sz"), fun p1 np1 => ?_⟩⟩
    -- for x in range(count):
    refine ⟨_, rfl, _, rfl, (by fail "om"), (by fail "om"), for_range (lo := 0) (n := ((n : Int)).toNat) (fun i σ H' => ∃ (T : List Int) (v w u : Option V), σ = [some (.int way), some (.int (n : Int)), some (.ref p1), v, w, u] ∧ Same H H' ∧ H' p1 = some (.lst (T.map V.int)) ∧ IsTab n T (fun x y => decide (x < i) && callR way n [] x y)) ⟨List.replicate (n * n) 0, none, none, none, rfl, Same.new (Same.new (Same.refl H) np2) np1, by rw [upd_same, rep_ints, ← Int.natCast_mul, Int.toNat_natCast], (IsTab.zero n).congr fun x y _ _ => by simp⟩ ?_ ?_⟩
    · rintro i σ H1 hi ⟨T1, v, w, u, rfl, sm1, ht1, tb1⟩
      have hx : i < n := by omega
      -- for y in range(count):
      refine ⟨_, rfl, _, rfl, (by fail "om"), (by fail "om"), for_range (lo := 0) (n := ((n : Int)).toNat) (fun j σ H' => ∃ (T : List Int) (w u : Option V), σ = [some (.int way), some (.int (n : Int)), some (.ref p1), some (.int (0 + (i : Int))), w, u] ∧ Same H H' ∧ H' p1 = some (.lst (T.map V.int)) ∧ IsTab n T (fun x y => (decide (x < i) || (decide (x = i) && decide (y < j))) && callR way n [] x y)) ⟨T1, w, u, rfl, sm1, ht1, tb1.congr fun x y _ _ => by simp⟩ ?_ ?_⟩
      · rintro j σ H2 hj ⟨T, w, u, rfl, sm, ht, tb⟩
        have hy : j < n := by omega
        have ixn : ixN (T.map V.int).length ((0 + (i : Int)) * (n : Int) + (0 + (j : Int))) = some (i * n + j) := by
          rw [Int.zero_add, Int.zero_add]
          exact ixN_tab tb.len hx hy
        -- joined = x != y
        refine ⟨_, rfl, _, rfl, rfl, ?_⟩
        -- if way == 2:
        refine ⟨_, rfl, rfl, _, rfl, ?_⟩
        refine ifEqI (fun g3 => ?_) (fun g3 => ?_)
        · -- joined = x - y == 1 or y - x == 1
          refine ⟨_, rfl, _, rfl, _, _, rfl, rfl, rfl, _, rfl, ?_⟩
          refine ifEqI (fun g26 => ?_) (fun g26 => ?_)
          · -- if way == 3:
            refine ⟨_, rfl, rfl, _, rfl, ?_⟩
            refine ifEqI (fun g4 => ?_) (fun g4 => ?_)
            · -- joined = x != y and (x == 0 or y == 0)
              refine ⟨_, rfl, _, rfl, rfl, _, rfl, ?_⟩
              refine ifNeI (fun g12 => ?_) (fun g12 => ?_)
              · refine ⟨_, rfl, rfl, _, rfl, ?_⟩
                refine ifEqI (fun g9 => ?_) (fun g9 => ?_)
                · -- if way == 5:
                  refine ⟨_, rfl, rfl, _, rfl, ?_⟩
                  refine ifEqI (fun g5 => ?_) (fun g5 => ?_)
                  · -- joined = x != y and y == int(x + 1) % count
                    refine ⟨_, rfl, _, rfl, rfl, _, rfl, ?_⟩
                    refine ifNeI (fun g6 => ?_) (fun g6 => ?_)
                    · refine ⟨_, rfl, _, rfl, _, _, rfl, rfl, .inl ⟨_, rfl, _, rfl, _, _, rfl, rfl, (by fail "nz"), rfl, ?_⟩⟩
                      -- table[x * count + y] = int(joined)
                      refine ⟨_, rfl, .inr ⟨_, rfl, _, rfl, _, rfl, _, rfl, _, _, rfl, rfl, (by fail "mul"), _, rfl, _, _, rfl, rfl, _, _, _, _, rfl, rfl, (by fail "hp"), (by fail "ixn"), ?_⟩⟩
                      first
                      | (exfalso; omega)
                      | (rw [set_ints]
                         refine ⟨_, _, _, rfl, Same.mut sm (fresh2 np1).1, upd_same, (tb.set hx hy _ rfl).congr fun x y hx' hy' => ?_⟩
                         by_cases h : x = i ∧ y = j
                         · rw [if_pos h, h.1, h.2]
                           obtain rfl | rfl | rfl | rfl : way = 2 ∨ way = 3 ∨ way = 4 ∨ way = 5 := by omega
                           all_goals first
                             | (exfalso; omega)
                             | (rw [Bool.eq_iff_iff]
                                simp only [callR, Int.reduceEq, reduceIte, lineR, starR, wholeR, ringR, ring_int, Bool.or_eq_true, Bool.and_eq_true, decide_eq_true_eq, Bool.not_eq_true', decide_eq_false_iff_not, V.int.injEq, Bool.false_eq_true, false_iff, true_iff, Nat.lt_irrefl, true_and, and_true, false_or, Nat.lt_add_one]
                                first | omega | (generalize (i + 1) % n = q at *; omega) | (trace_state; omega))
                         · rw [if_neg h]
                           have e : (decide (x < i) || (decide (x = i) && decide (y < j + 1))) = (decide (x < i) || (decide (x = i) && decide (y < j))) := by
                             rw [Bool.eq_iff_iff]
                             simp only [Bool.or_eq_true, Bool.and_eq_true, decide_eq_true_eq]
                             omega
                           rw [e])
                    · -- table[x * count + y] = int(joined)
                      refine ⟨_, rfl, .inr ⟨_, rfl, _, rfl, _, rfl, _, rfl, _, _, rfl, rfl, (by fail "mul"), _, rfl, _, _, rfl, rfl, _, _, _, _, rfl, rfl, (by fail "hp"), (by fail "ixn"), ?_⟩⟩
                      first
                      | (exfalso; omega)
                      | (rw [set_ints]
                         refine ⟨_, _, _, rfl, Same.mut sm (fresh2 np1).1, upd_same, (tb.set hx hy _ rfl).congr fun x y hx' hy' => ?_⟩
                         by_cases h : x = i ∧ y = j
                         · rw [if_pos h, h.1, h.2]
                           obtain rfl | rfl | rfl | rfl : way = 2 ∨ way = 3 ∨ way = 4 ∨ way = 5 := by omega
                           all_goals first
                             | (exfalso; omega)
                             | (rw [Bool.eq_iff_iff]
                                simp only [callR, Int.reduceEq, reduceIte, lineR, starR, wholeR, ringR, ring_int, Bool.or_eq_true, Bool.and_eq_true, decide_eq_true_eq, Bool.not_eq_true', decide_eq_false_iff_not, V.int.injEq, Bool.false_eq_true, false_iff, true_iff, Nat.lt_irrefl, true_and, and_true, false_or, Nat.lt_add_one]
                                first | omega | (generalize (i + 1) % n = q at *; omega) | (trace_state; omega))
                         · rw [if_neg h]
                           have e : (decide (x < i) || (decide (x = i) && decide (y < j + 1))) = (decide (x < i) || (decide (x = i) && decide (y < j))) := by
                             rw [Bool.eq_iff_iff]
                             simp only [Bool.or_eq_true, Bool.and_eq_true, decide_eq_true_eq]
                             omega
                           rw [e])
                  · -- table[x * count + y] = int(joined)
                    refine ⟨_, rfl, .inr ⟨_, rfl, _, rfl, _, rfl, _, rfl, _, _, rfl, rfl, (by fail "mul"), _, rfl, _, _, rfl, rfl, _, _, _, _, rfl, rfl, (by fail "hp"), (by fail "ixn"), ?_⟩⟩
                    first
                    | (exfalso; omega)
                    | (rw [set_ints]
                       refine ⟨_, _, _, rfl, Same.mut sm (fresh2 np1).1, upd_same, (tb.set hx hy _ rfl).congr fun x y hx' hy' => ?_⟩
                       by_cases h : x = i ∧ y = j
                       · rw [if_pos h, h.1, h.2]
                         obtain rfl | rfl | rfl | rfl : way = 2 ∨ way = 3 ∨ way = 4 ∨ way = 5 := by omega
                         all_goals first
                           | (exfalso; omega)
                           | (rw [Bool.eq_iff_iff]
                              simp only [callR, Int.reduceEq, reduceIte, lineR, starR, wholeR, ringR, ring_int, Bool.or_eq_true, Bool.and_eq_true, decide_eq_true_eq, Bool.not_eq_true', decide_eq_false_iff_not, V.int.injEq, Bool.false_eq_true, false_iff, true_iff, Nat.lt_irrefl, true_and, and_true, false_or, Nat.lt_add_one]
                              first | omega | (generalize (i + 1) % n = q at *; omega) | (trace_state; omega))
                       · rw [if_neg h]
                         have e : (decide (x < i) || (decide (x = i) && decide (y < j + 1))) = (decide (x < i) || (decide (x = i) && decide (y < j))) := by
                           rw [Bool.eq_iff_iff]
                           simp only [Bool.or_eq_true, Bool.and_eq_true, decide_eq_true_eq]
                           omega
                         rw [e])
                · refine ⟨_, rfl, rfl, ?_⟩
                  -- if way == 5:
                  refine ⟨_, rfl, rfl, _, rfl, ?_⟩
                  refine ifEqI (fun g7 => ?_) (fun g7 => ?_)
                  · -- joined = x != y and y == int(x + 1) % count
                    refine ⟨_, rfl, _, rfl, rfl, _, rfl, ?_⟩
                    refine ifNeI (fun g8 => ?_) (fun g8 => ?_)
                    · refine ⟨_, rfl, _, rfl, _, _, rfl, rfl, .inl ⟨_, rfl, _, rfl, _, _, rfl, rfl, (by fail "nz"), rfl, ?_⟩⟩
                      -- table[x * count + y] = int(joined)
                      refine ⟨_, rfl, .inr ⟨_, rfl, _, rfl, _, rfl, _, rfl, _, _, rfl, rfl, (by fail "mul"), _, rfl, _, _, rfl, rfl, _, _, _, _, rfl, rfl, (by fail "hp"), (by fail "ixn"), ?_⟩⟩
                      first
                      | (exfalso; omega)
                      | (rw [set_ints]
                         refine ⟨_, _, _, rfl, Same.mut sm (fresh2 np1).1, upd_same, (tb.set hx hy _ rfl).congr fun x y hx' hy' => ?_⟩
                         by_cases h : x = i ∧ y = j
                         · rw [if_pos h, h.1, h.2]
                           obtain rfl | rfl | rfl | rfl : way = 2 ∨ way = 3 ∨ way = 4 ∨ way = 5 := by omega
                           all_goals first
                             | (exfalso; omega)
                             | (rw [Bool.eq_iff_iff]
                                simp only [callR, Int.reduceEq, reduceIte, lineR, starR, wholeR, ringR, ring_int, Bool.or_eq_true, Bool.and_eq_true, decide_eq_true_eq, Bool.not_eq_true', decide_eq_false_iff_not, V.int.injEq, Bool.false_eq_true, false_iff, true_iff, Nat.lt_irrefl, true_and, and_true, false_or, Nat.lt_add_one]
                                first | omega | (generalize (i + 1) % n = q at *; omega) | (trace_state; omega))
                         · rw [if_neg h]
                           have e : (decide (x < i) || (decide (x = i) && decide (y < j + 1))) = (decide (x < i) || (decide (x = i) && decide (y < j))) := by
                             rw [Bool.eq_iff_iff]
                             simp only [Bool.or_eq_true, Bool.and_eq_true, decide_eq_true_eq]
                             omega
                           rw [e])
                    · -- table[x * count + y] = int(joined)
                      refine ⟨_, rfl, .inr ⟨_, rfl, _, rfl, _, rfl, _, rfl, _, _, rfl, rfl, (by fail "mul"), _, rfl, _, _, rfl, rfl, _, _, _, _, rfl, rfl, (by fail "hp"), (by fail "ixn"), ?_⟩⟩
                      first
                      | (exfalso; omega)
                      | (rw [set_ints]
                         refine ⟨_, _, _, rfl, Same.mut sm (fresh2 np1).1, upd_same, (tb.set hx hy _ rfl).congr fun x y hx' hy' => ?_⟩
                         by_cases h : x = i ∧ y = j
                         · rw [if_pos h, h.1, h.2]
                           obtain rfl | rfl | rfl | rfl : way = 2 ∨ way = 3 ∨ way = 4 ∨ way = 5 := by omega
                           all_goals first
                             | (exfalso; omega)
                             | (rw [Bool.eq_iff_iff]
                                simp only [callR, Int.reduceEq, reduceIte, lineR, starR, wholeR, ringR, ring_int, Bool.or_eq_true, Bool.and_eq_true, decide_eq_true_eq, Bool.not_eq_true', decide_eq_false_iff_not, V.int.injEq, Bool.false_eq_true, false_iff, true_iff, Nat.lt_irrefl, true_and, and_true, false_or, Nat.lt_add_one]
                                first | omega | (generalize (i + 1) % n = q at *; omega) | (trace_state; omega))
                         · rw [if_neg h]
                           have e : (decide (x < i) || (decide (x = i) && decide (y < j + 1))) = (decide (x < i) || (decide (x = i) && decide (y < j))) := by
                             rw [Bool.eq_iff_iff]
                             simp only [Bool.or_eq_true, Bool.and_eq_true, decide_eq_true_eq]
                             omega
                           rw [e])
                  · -- table[x * count + y] = int(joined)
                    refine ⟨_, rfl, .inr ⟨_, rfl, _, rfl, _, rfl, _, rfl, _, _, rfl, rfl, (by fail "mul"), _, rfl, _, _, rfl, rfl, _, _, _, _, rfl, rfl, (by fail "hp"), (by fail "ixn"), ?_⟩⟩
                    first
                    | (exfalso; omega)
                    | (rw [set_ints]
                       refine ⟨_, _, _, rfl, Same.mut sm (fresh2 np1).1, upd_same, (tb.set hx hy _ rfl).congr fun x y hx' hy' => ?_⟩
                       by_cases h : x = i ∧ y = j
                       · rw [if_pos h, h.1, h.2]
                         obtain rfl | rfl | rfl | rfl : way = 2 ∨ way = 3 ∨ way = 4 ∨ way = 5 := by omega
                         all_goals first
                           | (exfalso; omega)
                           | (rw [Bool.eq_iff_iff]
                              simp only [callR, Int.reduceEq, reduceIte, lineR, starR, wholeR, ringR, ring_int, Bool.or_eq_true, Bool.and_eq_true, decide_eq_true_eq, Bool.not_eq_true', decide_eq_false_iff_not, V.int.injEq, Bool.false_eq_true, false_iff, true_iff, Nat.lt_irrefl, true_and, and_true, false_or, Nat.lt_add_one]
                              first | omega | (generalize (i + 1) % n = q at *; omega) | (trace_state; omega))
                       · rw [if_neg h]
                         have e : (decide (x < i) || (decide (x = i) && decide (y < j + 1))) = (decide (x < i) || (decide (x = i) && decide (y < j))) := by
                           rw [Bool.eq_iff_iff]
                           simp only [Bool.or_eq_true, Bool.and_eq_true, decide_eq_true_eq]
                           omega
                         rw [e])
              · -- if way == 5:
                refine ⟨_, rfl, rfl, _, rfl, ?_⟩
                refine ifEqI (fun g10 => ?_) (fun g10 => ?_)
                · -- joined = x != y and y == int(x + 1) % count
                  refine ⟨_, rfl, _, rfl, rfl, _, rfl, ?_⟩
                  refine ifNeI (fun g11 => ?_) (fun g11 => ?_)
                  · refine ⟨_, rfl, _, rfl, _, _, rfl, rfl, .inl ⟨_, rfl, _, rfl, _, _, rfl, rfl, (by fail "nz"), rfl, ?_⟩⟩
                    -- table[x * count + y] = int(joined)
                    refine ⟨_, rfl, .inr ⟨_, rfl, _, rfl, _, rfl, _, rfl, _, _, rfl, rfl, (by fail "mul"), _, rfl, _, _, rfl, rfl, _, _, _, _, rfl, rfl, (by fail "hp"), (by fail "ixn"), ?_⟩⟩
                    first
                    | (exfalso; omega)
                    | (rw [set_ints]
                       refine ⟨_, _, _, rfl, Same.mut sm (fresh2 np1).1, upd_same, (tb.set hx hy _ rfl).congr fun x y hx' hy' => ?_⟩
                       by_cases h : x = i ∧ y = j
                       · rw [if_pos h, h.1, h.2]
                         obtain rfl | rfl | rfl | rfl : way = 2 ∨ way = 3 ∨ way = 4 ∨ way = 5 := by omega
                         all_goals first
                           | (exfalso; omega)
                           | (rw [Bool.eq_iff_iff]
                              simp only [callR, Int.reduceEq, reduceIte, lineR, starR, wholeR, ringR, ring_int, Bool.or_eq_true, Bool.and_eq_true, decide_eq_true_eq, Bool.not_eq_true', decide_eq_false_iff_not, V.int.injEq, Bool.false_eq_true, false_iff, true_iff, Nat.lt_irrefl, true_and, and_true, false_or, Nat.lt_add_one]
                              first | omega | (generalize (i + 1) % n = q at *; omega) | (trace_state; omega))
                       · rw [if_neg h]
                         have e : (decide (x < i) || (decide (x = i) && decide (y < j + 1))) = (decide (x < i) || (decide (x = i) && decide (y < j))) := by
                           rw [Bool.eq_iff_iff]
                           simp only [Bool.or_eq_true, Bool.and_eq_true, decide_eq_true_eq]
                           omega
                         rw [e])
                  · -- table[x * count + y] = int(joined)
                    refine ⟨_, rfl, .inr ⟨_, rfl, _, rfl, _, rfl, _, rfl, _, _, rfl, rfl, (by fail "mul"), _, rfl, _, _, rfl, rfl, _, _, _, _, rfl, rfl, (by fail "hp"), (by fail "ixn"), ?_⟩⟩
                    first
                    | (exfalso; omega)
                    | (rw [set_ints]
                       refine ⟨_, _, _, rfl, Same.mut sm (fresh2 np1).1, upd_same, (tb.set hx hy _ rfl).congr fun x y hx' hy' => ?_⟩
                       by_cases h : x = i ∧ y = j
                       · rw [if_pos h, h.1, h.2]
                         obtain rfl | rfl | rfl | rfl : way = 2 ∨ way = 3 ∨ way = 4 ∨ way = 5 := by omega
                         all_goals first
                           | (exfalso; omega)
                           | (rw [Bool.eq_iff_iff]
                              simp only [callR, Int.reduceEq, reduceIte, lineR, starR, wholeR, ringR, ring_int, Bool.or_eq_true, Bool.and_eq_true, decide_eq_true_eq, Bool.not_eq_true', decide_eq_false_iff_not, V.int.injEq, Bool.false_eq_true, false_iff, true_iff, Nat.lt_irrefl, true_and, and_true, false_or, Nat.lt_add_one]
                              first | omega | (generalize (i + 1) % n = q at *; omega) | (trace_state; omega))
                       · rw [if_neg h]
                         have e : (decide (x < i) || (decide (x = i) && decide (y < j + 1))) = (decide (x < i) || (decide (x = i) && decide (y < j))) := by
                           rw [Bool.eq_iff_iff]
                           simp only [Bool.or_eq_true, Bool.and_eq_true, decide_eq_true_eq]
                           omega
                         rw [e])
                · -- table[x * count + y] = int(joined)
                  refine ⟨_, rfl, .inr ⟨_, rfl, _, rfl, _, rfl, _, rfl, _, _, rfl, rfl, (by fail "mul"), _, rfl, _, _, rfl, rfl, _, _, _, _, rfl, rfl, (by fail "hp"), (by fail "ixn"), ?_⟩⟩
                  first
                  | (exfalso; omega)
                  | (rw [set_ints]
                     refine ⟨_, _, _, rfl, Same.mut sm (fresh2 np1).1, upd_same, (tb.set hx hy _ rfl).congr fun x y hx' hy' => ?_⟩
                     by_cases h : x = i ∧ y = j
                     · rw [if_pos h, h.1, h.2]
                       obtain rfl | rfl | rfl | rfl : way = 2 ∨ way = 3 ∨ way = 4 ∨ way = 5 := by omega
                       all_goals first
                         | (exfalso; omega)
                         | (rw [Bool.eq_iff_iff]
                            simp only [callR, Int.reduceEq, reduceIte, lineR, starR, wholeR, ringR, ring_int, Bool.or_eq_true, Bool.and_eq_true, decide_eq_true_eq, Bool.not_eq_true', decide_eq_false_iff_not, V.int.injEq, Bool.false_eq_true, false_iff, true_iff, Nat.lt_irrefl, true_and, and_true, false_or, Nat.lt_add_one]
                            first | omega | (generalize (i + 1) % n = q at *; omega) | (trace_state; omega))
                     · rw [if_neg h]
                       have e : (decide (x < i) || (decide (x = i) && decide (y < j + 1))) = (decide (x < i) || (decide (x = i) && decide (y < j))) := by
                         rw [Bool.eq_iff_iff]
                         simp only [Bool.or_eq_true, Bool.and_eq_true, decide_eq_true_eq]
                         omega
                       rw [e])
            · -- if way == 5:
              refine ⟨_, rfl, rfl, _, rfl, ?_⟩
              refine ifEqI (fun g13 => ?_) (fun g13 => ?_)
              · -- joined = x != y and y == int(x + 1) % count
                refine ⟨_, rfl, _, rfl, rfl, _, rfl, ?_⟩
                refine ifNeI (fun g14 => ?_) (fun g14 => ?_)
                · refine ⟨_, rfl, _, rfl, _, _, rfl, rfl, .inl ⟨_, rfl, _, rfl, _, _, rfl, rfl, (by fail "nz"), rfl, ?_⟩⟩
                  -- table[x * count + y] = int(joined)
                  refine ⟨_, rfl, .inr ⟨_, rfl, _, rfl, _, rfl, _, rfl, _, _, rfl, rfl, (by fail "mul"), _, rfl, _, _, rfl, rfl, _, _, _, _, rfl, rfl, (by fail "hp"), (by fail "ixn"), ?_⟩⟩
                  first
                  | (exfalso; omega)
                  | (rw [set_ints]
                     refine ⟨_, _, _, rfl, Same.mut sm (fresh2 np1).1, upd_same, (tb.set hx hy _ rfl).congr fun x y hx' hy' => ?_⟩
                     by_cases h : x = i ∧ y = j
                     · rw [if_pos h, h.1, h.2]
                       obtain rfl | rfl | rfl | rfl : way = 2 ∨ way = 3 ∨ way = 4 ∨ way = 5 := by omega
                       all_goals first
                         | (exfalso; omega)
                         | (rw [Bool.eq_iff_iff]
                            simp only [callR, Int.reduceEq, reduceIte, lineR, starR, wholeR, ringR, ring_int, Bool.or_eq_true, Bool.and_eq_true, decide_eq_true_eq, Bool.not_eq_true', decide_eq_false_iff_not, V.int.injEq, Bool.false_eq_true, false_iff, true_iff, Nat.lt_irrefl, true_and, and_true, false_or, Nat.lt_add_one]
                            first | omega | (generalize (i + 1) % n = q at *; omega) | (trace_state; omega))
                     · rw [if_neg h]
                       have e : (decide (x < i) || (decide (x = i) && decide (y < j + 1))) = (decide (x < i) || (decide (x = i) && decide (y < j))) := by
                         rw [Bool.eq_iff_iff]
                         simp only [Bool.or_eq_true, Bool.and_eq_true, decide_eq_true_eq]
                         omega
                       rw [e])
                · -- table[x * count + y] = int(joined)
                  refine ⟨_, rfl, .inr ⟨_, rfl, _, rfl, _, rfl, _, rfl, _, _, rfl, rfl, (by fail "mul"), _, rfl, _, _, rfl, rfl, _, _, _, _, rfl, rfl, (by fail "hp"), (by fail "ixn"), ?_⟩⟩
                  first
                  | (exfalso; omega)
                  | (rw [set_ints]
                     refine ⟨_, _, _, rfl, Same.mut sm (fresh2 np1).1, upd_same, (tb.set hx hy _ rfl).congr fun x y hx' hy' => ?_⟩
                     by_cases h : x = i ∧ y = j
                     · rw [if_pos h, h.1, h.2]
                       obtain rfl | rfl | rfl | rfl : way = 2 ∨ way = 3 ∨ way = 4 ∨ way = 5 := by omega
                       all_goals first
                         | (exfalso; omega)
                         | (rw [Bool.eq_iff_iff]
                            simp only [callR, Int.reduceEq, reduceIte, lineR, starR, wholeR, ringR, ring_int, Bool.or_eq_true, Bool.and_eq_true, decide_eq_true_eq, Bool.not_eq_true', decide_eq_false_iff_not, V.int.injEq, Bool.false_eq_true, false_iff, true_iff, Nat.lt_irrefl, true_and, and_true, false_or, Nat.lt_add_one]
                            first | omega | (generalize (i + 1) % n = q at *; omega) | (trace_state; omega))
                     · rw [if_neg h]
                       have e : (decide (x < i) || (decide (x = i) && decide (y < j + 1))) = (decide (x < i) || (decide (x = i) && decide (y < j))) := by
                         rw [Bool.eq_iff_iff]
                         simp only [Bool.or_eq_true, Bool.and_eq_true, decide_eq_true_eq]
                         omega
                       rw [e])
              · -- table[x * count + y] = int(joined)
                refine ⟨_, rfl, .inr ⟨_, rfl, _, rfl, _, rfl, _, rfl, _, _, rfl, rfl, (by fail "mul"), _, rfl, _, _, rfl, rfl, _, _, _, _, rfl, rfl, (by fail "hp"), (by fail "ixn"), ?_⟩⟩
                first
                | (exfalso; omega)
                | (rw [set_ints]
                   refine ⟨_, _, _, rfl, Same.mut sm (fresh2 np1).1, upd_same, (tb.set hx hy _ rfl).congr fun x y hx' hy' => ?_⟩
                   by_cases h : x = i ∧ y = j
                   · rw [if_pos h, h.1, h.2]
                     obtain rfl | rfl | rfl | rfl : way = 2 ∨ way = 3 ∨ way = 4 ∨ way = 5 := by omega
                     all_goals first
                       | (exfalso; omega)
                       | (rw [Bool.eq_iff_iff]
                          simp only [callR, Int.reduceEq, reduceIte, lineR, starR, wholeR, ringR, ring_int, Bool.or_eq_true, Bool.and_eq_true, decide_eq_true_eq, Bool.not_eq_true', decide_eq_false_iff_not, V.int.injEq, Bool.false_eq_true, false_iff, true_iff, Nat.lt_irrefl, true_and, and_true, false_or, Nat.lt_add_one]
                          first | omega | (generalize (i + 1) % n = q at *; omega) | (trace_state; omega))
                   · rw [if_neg h]
                     have e : (decide (x < i) || (decide (x = i) && decide (y < j + 1))) = (decide (x < i) || (decide (x = i) && decide (y < j))) := by
                       rw [Bool.eq_iff_iff]
                       simp only [Bool.or_eq_true, Bool.and_eq_true, decide_eq_true_eq]
                       omega
                     rw [e])
          · refine ⟨_, rfl, _, rfl, _, _, rfl, rfl, rfl, ?_⟩
            -- if way == 3:
            refine ⟨_, rfl, rfl, _, rfl, ?_⟩
            refine ifEqI (fun g15 => ?_) (fun g15 => ?_)
            · -- joined = x != y and (x == 0 or y == 0)
              refine ⟨_, rfl, _, rfl, rfl, _, rfl, ?_⟩
              refine ifNeI (fun g23 => ?_) (fun g23 => ?_)
              · refine ⟨_, rfl, rfl, _, rfl, ?_⟩
                refine ifEqI (fun g20 => ?_) (fun g20 => ?_)
                · -- if way == 5:
                  refine ⟨_, rfl, rfl, _, rfl, ?_⟩
                  refine ifEqI (fun g16 => ?_) (fun g16 => ?_)
                  · -- joined = x != y and y == int(x + 1) % count
                    refine ⟨_, rfl, _, rfl, rfl, _, rfl, ?_⟩
                    refine ifNeI (fun g17 => ?_) (fun g17 => ?_)
                    · refine ⟨_, rfl, _, rfl, _, _, rfl, rfl, .inl ⟨_, rfl, _, rfl, _, _, rfl, rfl, (by fail "nz"), rfl, ?_⟩⟩
                      -- table[x * count + y] = int(joined)
                      refine ⟨_, rfl, .inr ⟨_, rfl, _, rfl, _, rfl, _, rfl, _, _, rfl, rfl, (by fail "mul"), _, rfl, _, _, rfl, rfl, _, _, _, _, rfl, rfl, (by fail "hp"), (by fail "ixn"), ?_⟩⟩
                      first
                      | (exfalso; omega)
                      | (rw [set_ints]
                         refine ⟨_, _, _, rfl, Same.mut sm (fresh2 np1).1, upd_same, (tb.set hx hy _ rfl).congr fun x y hx' hy' => ?_⟩
                         by_cases h : x = i ∧ y = j
                         · rw [if_pos h, h.1, h.2]
                           obtain rfl | rfl | rfl | rfl : way = 2 ∨ way = 3 ∨ way = 4 ∨ way = 5 := by omega
                           all_goals first
                             | (exfalso; omega)
                             | (rw [Bool.eq_iff_iff]
                                simp only [callR, Int.reduceEq, reduceIte, lineR, starR, wholeR, ringR, ring_int, Bool.or_eq_true, Bool.and_eq_true, decide_eq_true_eq, Bool.not_eq_true', decide_eq_false_iff_not, V.int.injEq, Bool.false_eq_true, false_iff, true_iff, Nat.lt_irrefl, true_and, and_true, false_or, Nat.lt_add_one]
                                first | omega | (generalize (i + 1) % n = q at *; omega) | (trace_state; omega))
                         · rw [if_neg h]
                           have e : (decide (x < i) || (decide (x = i) && decide (y < j + 1))) = (decide (x < i) || (decide (x = i) && decide (y < j))) := by
                             rw [Bool.eq_iff_iff]
                             simp only [Bool.or_eq_true, Bool.and_eq_true, decide_eq_true_eq]
                             omega
                           rw [e])
                    · -- table[x * count + y] = int(joined)
                      refine ⟨_, rfl, .inr ⟨_, rfl, _, rfl, _, rfl, _, rfl, _, _, rfl, rfl, (by fail "mul"), _, rfl, _, _, rfl, rfl, _, _, _, _, rfl, rfl, (by fail "hp"), (by fail "ixn"), ?_⟩⟩
                      first
                      | (exfalso; omega)
                      | (rw [set_ints]
                         refine ⟨_, _, _, rfl, Same.mut sm (fresh2 np1).1, upd_same, (tb.set hx hy _ rfl).congr fun x y hx' hy' => ?_⟩
                         by_cases h : x = i ∧ y = j
                         · rw [if_pos h, h.1, h.2]
                           obtain rfl | rfl | rfl | rfl : way = 2 ∨ way = 3 ∨ way = 4 ∨ way = 5 := by omega
                           all_goals first
                             | (exfalso; omega)
                             | (rw [Bool.eq_iff_iff]
                                simp only [callR, Int.reduceEq, reduceIte, lineR, starR, wholeR, ringR, ring_int, Bool.or_eq_true, Bool.and_eq_true, decide_eq_true_eq, Bool.not_eq_true', decide_eq_false_iff_not, V.int.injEq, Bool.false_eq_true, false_iff, true_iff, Nat.lt_irrefl, true_and, and_true, false_or, Nat.lt_add_one]
                                first | omega | (generalize (i + 1) % n = q at *; omega) | (trace_state; omega))
                         · rw [if_neg h]
                           have e : (decide (x < i) || (decide (x = i) && decide (y < j + 1))) = (decide (x < i) || (decide (x = i) && decide (y < j))) := by
                             rw [Bool.eq_iff_iff]
                             simp only [Bool.or_eq_true, Bool.and_eq_true, decide_eq_true_eq]
                             omega
                           rw [e])
                  · -- table[x * count + y] = int(joined)
                    refine ⟨_, rfl, .inr ⟨_, rfl, _, rfl, _, rfl, _, rfl, _, _, rfl, rfl, (by fail "mul"), _, rfl, _, _, rfl, rfl, _, _, _, _, rfl, rfl, (by fail "hp"), (by fail "ixn"), ?_⟩⟩
                    first
                    | (exfalso; omega)
                    | (rw [set_ints]
                       refine ⟨_, _, _, rfl, Same.mut sm (fresh2 np1).1, upd_same, (tb.set hx hy _ rfl).congr fun x y hx' hy' => ?_⟩
                       by_cases h : x = i ∧ y = j
                       · rw [if_pos h, h.1, h.2]
                         obtain rfl | rfl | rfl | rfl : way = 2 ∨ way = 3 ∨ way = 4 ∨ way = 5 := by omega
                         all_goals first
                           | (exfalso; omega)
                           | (rw [Bool.eq_iff_iff]
                              simp only [callR, Int.reduceEq, reduceIte, lineR, starR, wholeR, ringR, ring_int, Bool.or_eq_true, Bool.and_eq_true, decide_eq_true_eq, Bool.not_eq_true', decide_eq_false_iff_not, V.int.injEq, Bool.false_eq_true, false_iff, true_iff, Nat.lt_irrefl, true_and, and_true, false_or, Nat.lt_add_one]
                              first | omega | (generalize (i + 1) % n = q at *; omega) | (trace_state; omega))
                       · rw [if_neg h]
                         have e : (decide (x < i) || (decide (x = i) && decide (y < j + 1))) = (decide (x < i) || (decide (x = i) && decide (y < j))) := by
                           rw [Bool.eq_iff_iff]
                           simp only [Bool.or_eq_true, Bool.and_eq_true, decide_eq_true_eq]
                           omega
                         rw [e])
                · refine ⟨_, rfl, rfl, ?_⟩
                  -- if way == 5:
                  refine ⟨_, rfl, rfl, _, rfl, ?_⟩
                  refine ifEqI (fun g18 => ?_) (fun g18 => ?_)
                  · -- joined = x != y and y == int(x + 1) % count
                    refine ⟨_, rfl, _, rfl, rfl, _, rfl, ?_⟩
                    refine ifNeI (fun g19 => ?_) (fun g19 => ?_)
                    · refine ⟨_, rfl, _, rfl, _, _, rfl, rfl, .inl ⟨_, rfl, _, rfl, _, _, rfl, rfl, (by fail "nz"), rfl, ?_⟩⟩
                      -- table[x * count + y] = int(joined)
                      refine ⟨_, rfl, .inr ⟨_, rfl, _, rfl, _, rfl, _, rfl, _, _, rfl, rfl, (by fail "mul"), _, rfl, _, _, rfl, rfl, _, _, _, _, rfl, rfl, (by fail "hp"), (by fail "ixn"), ?_⟩⟩
                      first
                      | (exfalso; omega)
                      | (rw [set_ints]
                         refine ⟨_, _, _, rfl, Same.mut sm (fresh2 np1).1, upd_same, (tb.set hx hy _ rfl).congr fun x y hx' hy' => ?_⟩
                         by_cases h : x = i ∧ y = j
                         · rw [if_pos h, h.1, h.2]
                           obtain rfl | rfl | rfl | rfl : way = 2 ∨ way = 3 ∨ way = 4 ∨ way = 5 := by omega
                           all_goals first
                             | (exfalso; omega)
                             | (rw [Bool.eq_iff_iff]
                                simp only [callR, Int.reduceEq, reduceIte, lineR, starR, wholeR, ringR, ring_int, Bool.or_eq_true, Bool.and_eq_true, decide_eq_true_eq, Bool.not_eq_true', decide_eq_false_iff_not, V.int.injEq, Bool.false_eq_true, false_iff, true_iff, Nat.lt_irrefl, true_and, and_true, false_or, Nat.lt_add_one]
                                first | omega | (generalize (i + 1) % n = q at *; omega) | (trace_state; omega))
                         · rw [if_neg h]
                           have e : (decide (x < i) || (decide (x = i) && decide (y < j + 1))) = (decide (x < i) || (decide (x = i) && decide (y < j))) := by
                             rw [Bool.eq_iff_iff]
                             simp only [Bool.or_eq_true, Bool.and_eq_true, decide_eq_true_eq]
                             omega
                           rw [e])
                    · -- table[x * count + y] = int(joined)
                      refine ⟨_, rfl, .inr ⟨_, rfl, _, rfl, _, rfl, _, rfl, _, _, rfl, rfl, (by fail "mul"), _, rfl, _, _, rfl, rfl, _, _, _, _, rfl, rfl, (by fail "hp"), (by fail "ixn"), ?_⟩⟩
                      first
                      | (exfalso; omega)
                      | (rw [set_ints]
                         refine ⟨_, _, _, rfl, Same.mut sm (fresh2 np1).1, upd_same, (tb.set hx hy _ rfl).congr fun x y hx' hy' => ?_⟩
                         by_cases h : x = i ∧ y = j
                         · rw [if_pos h, h.1, h.2]
                           obtain rfl | rfl | rfl | rfl : way = 2 ∨ way = 3 ∨ way = 4 ∨ way = 5 := by omega
                           all_goals first
                             | (exfalso; omega)
                             | (rw [Bool.eq_iff_iff]
                                simp only [callR, Int.reduceEq, reduceIte, lineR, starR, wholeR, ringR, ring_int, Bool.or_eq_true, Bool.and_eq_true, decide_eq_true_eq, Bool.not_eq_true', decide_eq_false_iff_not, V.int.injEq, Bool.false_eq_true, false_iff, true_iff, Nat.lt_irrefl, true_and, and_true, false_or, Nat.lt_add_one]
                                first | omega | (generalize (i + 1) % n = q at *; omega) | (trace_state; omega))
                         · rw [if_neg h]
                           have e : (decide (x < i) || (decide (x = i) && decide (y < j + 1))) = (decide (x < i) || (decide (x = i) && decide (y < j))) := by
                             rw [Bool.eq_iff_iff]
                             simp only [Bool.or_eq_true, Bool.and_eq_true, decide_eq_true_eq]
                             omega
                           rw [e])
                  · -- table[x * count + y] = int(joined)
                    refine ⟨_, rfl, .inr ⟨_, rfl, _, rfl, _, rfl, _, rfl, _, _, rfl, rfl, (by fail "mul"), _, rfl, _, _, rfl, rfl, _, _, _, _, rfl, rfl, (by fail "hp"), (by fail "ixn"), ?_⟩⟩
                    first
                    | (exfalso; omega)
                    | (rw [set_ints]
                       refine ⟨_, _, _, rfl, Same.mut sm (fresh2 np1).1, upd_same, (tb.set hx hy _ rfl).congr fun x y hx' hy' => ?_⟩
                       by_cases h : x = i ∧ y = j
                       · rw [if_pos h, h.1, h.2]
                         obtain rfl | rfl | rfl | rfl : way = 2 ∨ way = 3 ∨ way = 4 ∨ way = 5 := by omega
                         all_goals first
                           | (exfalso; omega)
                           | (rw [Bool.eq_iff_iff]
                              simp only [callR, Int.reduceEq, reduceIte, lineR, starR, wholeR, ringR, ring_int, Bool.or_eq_true, Bool.and_eq_true, decide_eq_true_eq, Bool.not_eq_true', decide_eq_false_iff_not, V.int.injEq, Bool.false_eq_true, false_iff, true_iff, Nat.lt_irrefl, true_and, and_true, false_or, Nat.lt_add_one]
                              first | omega | (generalize (i + 1) % n = q at *; omega) | (trace_state; omega))
                       · rw [if_neg h]
                         have e : (decide (x < i) || (decide (x = i) && decide (y < j + 1))) = (decide (x < i) || (decide (x = i) && decide (y < j))) := by
                           rw [Bool.eq_iff_iff]
                           simp only [Bool.or_eq_true, Bool.and_eq_true, decide_eq_true_eq]
                           omega
                         rw [e])
              · -- if way == 5:
                refine ⟨_, rfl, rfl, _, rfl, ?_⟩
                refine ifEqI (fun g21 => ?_) (fun g21 => ?_)
                · -- joined = x != y and y == int(x + 1) % count
                  refine ⟨_, rfl, _, rfl, rfl, _, rfl, ?_⟩
                  refine ifNeI (fun g22 => ?_) (fun g22 => ?_)
                  · refine ⟨_, rfl, _, rfl, _, _, rfl, rfl, .inl ⟨_, rfl, _, rfl, _, _, rfl, rfl, (by fail "nz"), rfl, ?_⟩⟩
                    -- table[x * count + y] = int(joined)
                    refine ⟨_, rfl, .inr ⟨_, rfl, _, rfl, _, rfl, _, rfl, _, _, rfl, rfl, (by fail "mul"), _, rfl, _, _, rfl, rfl, _, _, _, _, rfl, rfl, (by fail "hp"), (by fail "ixn"), ?_⟩⟩
                    first
                    | (exfalso; omega)
                    | (rw [set_ints]
                       refine ⟨_, _, _, rfl, Same.mut sm (fresh2 np1).1, upd_same, (tb.set hx hy _ rfl).congr fun x y hx' hy' => ?_⟩
                       by_cases h : x = i ∧ y = j
                       · rw [if_pos h, h.1, h.2]
                         obtain rfl | rfl | rfl | rfl : way = 2 ∨ way = 3 ∨ way = 4 ∨ way = 5 := by omega
                         all_goals first
                           | (exfalso; omega)
                           | (rw [Bool.eq_iff_iff]
                              simp only [callR, Int.reduceEq, reduceIte, lineR, starR, wholeR, ringR, ring_int, Bool.or_eq_true, Bool.and_eq_true, decide_eq_true_eq, Bool.not_eq_true', decide_eq_false_iff_not, V.int.injEq, Bool.false_eq_true, false_iff, true_iff, Nat.lt_irrefl, true_and, and_true, false_or, Nat.lt_add_one]
                              first | omega | (generalize (i + 1) % n = q at *; omega) | (trace_state; omega))
                       · rw [if_neg h]
                         have e : (decide (x < i) || (decide (x = i) && decide (y < j + 1))) = (decide (x < i) || (decide (x = i) && decide (y < j))) := by
                           rw [Bool.eq_iff_iff]
                           simp only [Bool.or_eq_true, Bool.and_eq_true, decide_eq_true_eq]
                           omega
                         rw [e])
                  · -- table[x * count + y] = int(joined)
                    refine ⟨_, rfl, .inr ⟨_, rfl, _, rfl, _, rfl, _, rfl, _, _, rfl, rfl, (by fail "mul"), _, rfl, _, _, rfl, rfl, _, _, _, _, rfl, rfl, (by fail "hp"), (by fail "ixn"), ?_⟩⟩
                    first
                    | (exfalso; omega)
                    | (rw [set_ints]
                       refine ⟨_, _, _, rfl, Same.mut sm (fresh2 np1).1, upd_same, (tb.set hx hy _ rfl).congr fun x y hx' hy' => ?_⟩
                       by_cases h : x = i ∧ y = j
                       · rw [if_pos h, h.1, h.2]
                         obtain rfl | rfl | rfl | rfl : way = 2 ∨ way = 3 ∨ way = 4 ∨ way = 5 := by omega
                         all_goals first
                           | (exfalso; omega)
                           | (rw [Bool.eq_iff_iff]
                              simp only [callR, Int.reduceEq, reduceIte, lineR, starR, wholeR, ringR, ring_int, Bool.or_eq_true, Bool.and_eq_true, decide_eq_true_eq, Bool.not_eq_true', decide_eq_false_iff_not, V.int.injEq, Bool.false_eq_true, false_iff, true_iff, Nat.lt_irrefl, true_and, and_true, false_or, Nat.lt_add_one]
                              first | omega | (generalize (i + 1) % n = q at *; omega) | (trace_state; omega))
                       · rw [if_neg h]
                         have e : (decide (x < i) || (decide (x = i) && decide (y < j + 1))) = (decide (x < i) || (decide (x = i) && decide (y < j))) := by
                           rw [Bool.eq_iff_iff]
                           simp only [Bool.or_eq_true, Bool.and_eq_true, decide_eq_true_eq]
                           omega
                         rw [e])
                · -- table[x * count + y] = int(joined)
                  refine ⟨_, rfl, .inr ⟨_, rfl, _, rfl, _, rfl, _, rfl, _, _, rfl, rfl, (by fail "mul"), _, rfl, _, _, rfl, rfl, _, _, _, _, rfl, rfl, (by fail "hp"), (by fail "ixn"), ?_⟩⟩
                  first
                  | (exfalso; omega)
                  | (rw [set_ints]
                     refine ⟨_, _, _, rfl, Same.mut sm (fresh2 np1).1, upd_same, (tb.set hx hy _ rfl).congr fun x y hx' hy' => ?_⟩
                     by_cases h : x = i ∧ y = j
                     · rw [if_pos h, h.1, h.2]
                       obtain rfl | rfl | rfl | rfl : way = 2 ∨ way = 3 ∨ way = 4 ∨ way = 5 := by omega
                       all_goals first
                         | (exfalso; omega)
                         | (rw [Bool.eq_iff_iff]
                            simp only [callR, Int.reduceEq, reduceIte, lineR, starR, wholeR, ringR, ring_int, Bool.or_eq_true, Bool.and_eq_true, decide_eq_true_eq, Bool.not_eq_true', decide_eq_false_iff_not, V.int.injEq, Bool.false_eq_true, false_iff, true_iff, Nat.lt_irrefl, true_and, and_true, false_or, Nat.lt_add_one]
                            first | omega | (generalize (i + 1) % n = q at *; omega) | (trace_state; omega))
                     · rw [if_neg h]
                       have e : (decide (x < i) || (decide (x = i) && decide (y < j + 1))) = (decide (x < i) || (decide (x = i) && decide (y < j))) := by
                         rw [Bool.eq_iff_iff]
                         simp only [Bool.or_eq_true, Bool.and_eq_true, decide_eq_true_eq]
                         omega
                       rw [e])
            · -- if way == 5:
              refine ⟨_, rfl, rfl, _, rfl, ?_⟩
              refine ifEqI (fun g24 => ?_) (fun g24 => ?_)
              · -- joined = x != y and y == int(x + 1) % count
                refine ⟨_, rfl, _, rfl, rfl, _, rfl, ?_⟩
                refine ifNeI (fun g25 => ?_) (fun g25 => ?_)
                · refine ⟨_, rfl, _, rfl, _, _, rfl, rfl, .inl ⟨_, rfl, _, rfl, _, _, rfl, rfl, (by fail "nz"), rfl, ?_⟩⟩
                  -- table[x * count + y] = int(joined)
                  refine ⟨_, rfl, .inr ⟨_, rfl, _, rfl, _, rfl, _, rfl, _, _, rfl, rfl, (by fail "mul"), _, rfl, _, _, rfl, rfl, _, _, _, _, rfl, rfl, (by fail "hp"), (by fail "ixn"), ?_⟩⟩
                  first
                  | (exfalso; omega)
                  | (rw [set_ints]
                     refine ⟨_, _, _, rfl, Same.mut sm (fresh2 np1).1, upd_same, (tb.set hx hy _ rfl).congr fun x y hx' hy' => ?_⟩
                     by_cases h : x = i ∧ y = j
                     · rw [if_pos h, h.1, h.2]
                       obtain rfl | rfl | rfl | rfl : way = 2 ∨ way = 3 ∨ way = 4 ∨ way = 5 := by omega
                       all_goals first
                         | (exfalso; omega)
                         | (rw [Bool.eq_iff_iff]
                            simp only [callR, Int.reduceEq, reduceIte, lineR, starR, wholeR, ringR, ring_int, Bool.or_eq_true, Bool.and_eq_true, decide_eq_true_eq, Bool.not_eq_true', decide_eq_false_iff_not, V.int.injEq, Bool.false_eq_true, false_iff, true_iff, Nat.lt_irrefl, true_and, and_true, false_or, Nat.lt_add_one]
                            first | omega | (generalize (i + 1) % n = q at *; omega) | (trace_state; omega))
                     · rw [if_neg h]
                       have e : (decide (x < i) || (decide (x = i) && decide (y < j + 1))) = (decide (x < i) || (decide (x = i) && decide (y < j))) := by
                         rw [Bool.eq_iff_iff]
                         simp only [Bool.or_eq_true, Bool.and_eq_true, decide_eq_true_eq]
                         omega
                       rw [e])
                · -- table[x * count + y] = int(joined)
                  refine ⟨_, rfl, .inr ⟨_, rfl, _, rfl, _, rfl, _, rfl, _, _, rfl, rfl, (by fail "mul"), _, rfl, _, _, rfl, rfl, _, _, _, _, rfl, rfl, (by fail "hp"), (by fail "ixn"), ?_⟩⟩
                  first
                  | (exfalso; omega)
                  | (rw [set_ints]
                     refine ⟨_, _, _, rfl, Same.mut sm (fresh2 np1).1, upd_same, (tb.set hx hy _ rfl).congr fun x y hx' hy' => ?_⟩
                     by_cases h : x = i ∧ y = j
                     · rw [if_pos h, h.1, h.2]
                       obtain rfl | rfl | rfl | rfl : way = 2 ∨ way = 3 ∨ way = 4 ∨ way = 5 := by omega
                       all_goals first
                         | (exfalso; omega)
                         | (rw [Bool.eq_iff_iff]
                            simp only [callR, Int.reduceEq, reduceIte, lineR, starR, wholeR, ringR, ring_int, Bool.or_eq_true, Bool.and_eq_true, decide_eq_true_eq, Bool.not_eq_true', decide_eq_false_iff_not, V.int.injEq, Bool.false_eq_true, false_iff, true_iff, Nat.lt_irrefl, true_and, and_true, false_or, Nat.lt_add_one]
                            first | omega | (generalize (i + 1) % n = q at *; omega) | (trace_state; omega))
                     · rw [if_neg h]
                       have e : (decide (x < i) || (decide (x = i) && decide (y < j + 1))) = (decide (x < i) || (decide (x = i) && decide (y < j))) := by
                         rw [Bool.eq_iff_iff]
                         simp only [Bool.or_eq_true, Bool.and_eq_true, decide_eq_true_eq]
                         omega
                       rw [e])
              · -- table[x * count + y] = int(joined)
                refine ⟨_, rfl, .inr ⟨_, rfl, _, rfl, _, rfl, _, rfl, _, _, rfl, rfl, (by fail "mul"), _, rfl, _, _, rfl, rfl, _, _, _, _, rfl, rfl, (by fail "hp"), (by fail "ixn"), ?_⟩⟩
                first
                | (exfalso; omega)
                | (rw [set_ints]
                   refine ⟨_, _, _, rfl, Same.mut sm (fresh2 np1).1, upd_same, (tb.set hx hy _ rfl).congr fun x y hx' hy' => ?_⟩
                   by_cases h : x = i ∧ y = j
                   · rw [if_pos h, h.1, h.2]
                     obtain rfl | rfl | rfl | rfl : way = 2 ∨ way = 3 ∨ way = 4 ∨ way = 5 := by omega
                     all_goals first
                       | (exfalso; omega)
                       | (rw [Bool.eq_iff_iff]
                          simp only [callR, Int.reduceEq, reduceIte, lineR, starR, wholeR, ringR, ring_int, Bool.or_eq_true, Bool.and_eq_true, decide_eq_true_eq, Bool.not_eq_true', decide_eq_false_iff_not, V.int.injEq, Bool.false_eq_true, false_iff, true_iff, Nat.lt_irrefl, true_and, and_true, false_or, Nat.lt_add_one]
                          first | omega | (generalize (i + 1) % n = q at *; omega) | (trace_state; omega))
                   · rw [if_neg h]
                     have e : (decide (x < i) || (decide (x = i) && decide (y < j + 1))) = (decide (x < i) || (decide (x = i) && decide (y < j))) := by
                       rw [Bool.eq_iff_iff]
                       simp only [Bool.or_eq_true, Bool.and_eq_true, decide_eq_true_eq]
                       omega
                     rw [e])
        · -- if way == 3:
          refine ⟨_, rfl, rfl, _, rfl, ?_⟩
          refine ifEqI (fun g27 => ?_) (fun g27 => ?_)
          · -- joined = x != y and (x == 0 or y == 0)
            refine ⟨_, rfl, _, rfl, rfl, _, rfl, ?_⟩
            refine ifNeI (fun g35 => ?_) (fun g35 => ?_)
            · refine ⟨_, rfl, rfl, _, rfl, ?_⟩
              refine ifEqI (fun g32 => ?_) (fun g32 => ?_)
              · -- if way == 5:
                refine ⟨_, rfl, rfl, _, rfl, ?_⟩
                refine ifEqI (fun g28 => ?_) (fun g28 => ?_)
                · -- joined = x != y and y == int(x + 1) % count
                  refine ⟨_, rfl, _, rfl, rfl, _, rfl, ?_⟩
                  refine ifNeI (fun g29 => ?_) (fun g29 => ?_)
                  · refine ⟨_, rfl, _, rfl, _, _, rfl, rfl, .inl ⟨_, rfl, _, rfl, _, _, rfl, rfl, (by fail "nz"), rfl, ?_⟩⟩
                    -- table[x * count + y] = int(joined)
                    refine ⟨_, rfl, .inr ⟨_, rfl, _, rfl, _, rfl, _, rfl, _, _, rfl, rfl, (by fail "mul"), _, rfl, _, _, rfl, rfl, _, _, _, _, rfl, rfl, (by fail "hp"), (by fail "ixn"), ?_⟩⟩
                    first
                    | (exfalso; omega)
                    | (rw [set_ints]
                       refine ⟨_, _, _, rfl, Same.mut sm (fresh2 np1).1, upd_same, (tb.set hx hy _ rfl).congr fun x y hx' hy' => ?_⟩
                       by_cases h : x = i ∧ y = j
                       · rw [if_pos h, h.1, h.2]
                         obtain rfl | rfl | rfl | rfl : way = 2 ∨ way = 3 ∨ way = 4 ∨ way = 5 := by omega
                         all_goals first
                           | (exfalso; omega)
                           | (rw [Bool.eq_iff_iff]
                              simp only [callR, Int.reduceEq, reduceIte, lineR, starR, wholeR, ringR, ring_int, Bool.or_eq_true, Bool.and_eq_true, decide_eq_true_eq, Bool.not_eq_true', decide_eq_false_iff_not, V.int.injEq, Bool.false_eq_true, false_iff, true_iff, Nat.lt_irrefl, true_and, and_true, false_or, Nat.lt_add_one]
                              first | omega | (generalize (i + 1) % n = q at *; omega) | (trace_state; omega))
                       · rw [if_neg h]
                         have e : (decide (x < i) || (decide (x = i) && decide (y < j + 1))) = (decide (x < i) || (decide (x = i) && decide (y < j))) := by
                           rw [Bool.eq_iff_iff]
                           simp only [Bool.or_eq_true, Bool.and_eq_true, decide_eq_true_eq]
                           omega
                         rw [e])
                  · -- table[x * count + y] = int(joined)
                    refine ⟨_, rfl, .inr ⟨_, rfl, _, rfl, _, rfl, _, rfl, _, _, rfl, rfl, (by fail "mul"), _, rfl, _, _, rfl, rfl, _, _, _, _, rfl, rfl, (by fail "hp"), (by fail "ixn"), ?_⟩⟩
                    first
                    | (exfalso; omega)
                    | (rw [set_ints]
                       refine ⟨_, _, _, rfl, Same.mut sm (fresh2 np1).1, upd_same, (tb.set hx hy _ rfl).congr fun x y hx' hy' => ?_⟩
                       by_cases h : x = i ∧ y = j
                       · rw [if_pos h, h.1, h.2]
                         obtain rfl | rfl | rfl | rfl : way = 2 ∨ way = 3 ∨ way = 4 ∨ way = 5 := by omega
                         all_goals first
                           | (exfalso; omega)
                           | (rw [Bool.eq_iff_iff]
                              simp only [callR, Int.reduceEq, reduceIte, lineR, starR, wholeR, ringR, ring_int, Bool.or_eq_true, Bool.and_eq_true, decide_eq_true_eq, Bool.not_eq_true', decide_eq_false_iff_not, V.int.injEq, Bool.false_eq_true, false_iff, true_iff, Nat.lt_irrefl, true_and, and_true, false_or, Nat.lt_add_one]
                              first | omega | (generalize (i + 1) % n = q at *; omega) | (trace_state; omega))
                       · rw [if_neg h]
                         have e : (decide (x < i) || (decide (x = i) && decide (y < j + 1))) = (decide (x < i) || (decide (x = i) && decide (y < j))) := by
                           rw [Bool.eq_iff_iff]
                           simp only [Bool.or_eq_true, Bool.and_eq_true, decide_eq_true_eq]
                           omega
                         rw [e])
                · -- table[x * count + y] = int(joined)
                  refine ⟨_, rfl, .inr ⟨_, rfl, _, rfl, _, rfl, _, rfl, _, _, rfl, rfl, (by fail "mul"), _, rfl, _, _, rfl, rfl, _, _, _, _, rfl, rfl, (by fail "hp"), (by fail "ixn"), ?_⟩⟩
                  first
                  | (exfalso; omega)
                  | (rw [set_ints]
                     refine ⟨_, _, _, rfl, Same.mut sm (fresh2 np1).1, upd_same, (tb.set hx hy _ rfl).congr fun x y hx' hy' => ?_⟩
                     by_cases h : x = i ∧ y = j
                     · rw [if_pos h, h.1, h.2]
                       obtain rfl | rfl | rfl | rfl : way = 2 ∨ way = 3 ∨ way = 4 ∨ way = 5 := by omega
                       all_goals first
                         | (exfalso; omega)
                         | (rw [Bool.eq_iff_iff]
                            simp only [callR, Int.reduceEq, reduceIte, lineR, starR, wholeR, ringR, ring_int, Bool.or_eq_true, Bool.and_eq_true, decide_eq_true_eq, Bool.not_eq_true', decide_eq_false_iff_not, V.int.injEq, Bool.false_eq_true, false_iff, true_iff, Nat.lt_irrefl, true_and, and_true, false_or, Nat.lt_add_one]
                            first | omega | (generalize (i + 1) % n = q at *; omega) | (trace_state; omega))
                     · rw [if_neg h]
                       have e : (decide (x < i) || (decide (x = i) && decide (y < j + 1))) = (decide (x < i) || (decide (x = i) && decide (y < j))) := by
                         rw [Bool.eq_iff_iff]
                         simp only [Bool.or_eq_true, Bool.and_eq_true, decide_eq_true_eq]
                         omega
                       rw [e])
              · refine ⟨_, rfl, rfl, ?_⟩
                -- if way == 5:
                refine ⟨_, rfl, rfl, _, rfl, ?_⟩
                refine ifEqI (fun g30 => ?_) (fun g30 => ?_)
                · -- joined = x != y and y == int(x + 1) % count
                  refine ⟨_, rfl, _, rfl, rfl, _, rfl, ?_⟩
                  refine ifNeI (fun g31 => ?_) (fun g31 => ?_)
                  · refine ⟨_, rfl, _, rfl, _, _, rfl, rfl, .inl ⟨_, rfl, _, rfl, _, _, rfl, rfl, (by fail "nz"), rfl, ?_⟩⟩
                    -- table[x * count + y] = int(joined)
                    refine ⟨_, rfl, .inr ⟨_, rfl, _, rfl, _, rfl, _, rfl, _, _, rfl, rfl, (by fail "mul"), _, rfl, _, _, rfl, rfl, _, _, _, _, rfl, rfl, (by fail "hp"), (by fail "ixn"), ?_⟩⟩
                    first
                    | (exfalso; omega)
                    | (rw [set_ints]
                       refine ⟨_, _, _, rfl, Same.mut sm (fresh2 np1).1, upd_same, (tb.set hx hy _ rfl).congr fun x y hx' hy' => ?_⟩
                       by_cases h : x = i ∧ y = j
                       · rw [if_pos h, h.1, h.2]
                         obtain rfl | rfl | rfl | rfl : way = 2 ∨ way = 3 ∨ way = 4 ∨ way = 5 := by omega
                         all_goals first
                           | (exfalso; omega)
                           | (rw [Bool.eq_iff_iff]
                              simp only [callR, Int.reduceEq, reduceIte, lineR, starR, wholeR, ringR, ring_int, Bool.or_eq_true, Bool.and_eq_true, decide_eq_true_eq, Bool.not_eq_true', decide_eq_false_iff_not, V.int.injEq, Bool.false_eq_true, false_iff, true_iff, Nat.lt_irrefl, true_and, and_true, false_or, Nat.lt_add_one]
                              first | omega | (generalize (i + 1) % n = q at *; omega) | (trace_state; omega))
                       · rw [if_neg h]
                         have e : (decide (x < i) || (decide (x = i) && decide (y < j + 1))) = (decide (x < i) || (decide (x = i) && decide (y < j))) := by
                           rw [Bool.eq_iff_iff]
                           simp only [Bool.or_eq_true, Bool.and_eq_true, decide_eq_true_eq]
                           omega
                         rw [e])
                  · -- table[x * count + y] = int(joined)
                    refine ⟨_, rfl, .inr ⟨_, rfl, _, rfl, _, rfl, _, rfl, _, _, rfl, rfl, (by fail "mul"), _, rfl, _, _, rfl, rfl, _, _, _, _, rfl, rfl, (by fail "hp"), (by fail "ixn"), ?_⟩⟩
                    first
                    | (exfalso; omega)
                    | (rw [set_ints]
                       refine ⟨_, _, _, rfl, Same.mut sm (fresh2 np1).1, upd_same, (tb.set hx hy _ rfl).congr fun x y hx' hy' => ?_⟩
                       by_cases h : x = i ∧ y = j
                       · rw [if_pos h, h.1, h.2]
                         obtain rfl | rfl | rfl | rfl : way = 2 ∨ way = 3 ∨ way = 4 ∨ way = 5 := by omega
                         all_goals first
                           | (exfalso; omega)
                           | (rw [Bool.eq_iff_iff]
                              simp only [callR, Int.reduceEq, reduceIte, lineR, starR, wholeR, ringR, ring_int, Bool.or_eq_true, Bool.and_eq_true, decide_eq_true_eq, Bool.not_eq_true', decide_eq_false_iff_not, V.int.injEq, Bool.false_eq_true, false_iff, true_iff, Nat.lt_irrefl, true_and, and_true, false_or, Nat.lt_add_one]
                              first | omega | (generalize (i + 1) % n = q at *; omega) | (trace_state; omega))
                       · rw [if_neg h]
                         have e : (decide (x < i) || (decide (x = i) && decide (y < j + 1))) = (decide (x < i) || (decide (x = i) && decide (y < j))) := by
                           rw [Bool.eq_iff_iff]
                           simp only [Bool.or_eq_true, Bool.and_eq_true, decide_eq_true_eq]
                           omega
                         rw [e])
                · -- table[x * count + y] = int(joined)
                  refine ⟨_, rfl, .inr ⟨_, rfl, _, rfl, _, rfl, _, rfl, _, _, rfl, rfl, (by fail "mul"), _, rfl, _, _, rfl, rfl, _, _, _, _, rfl, rfl, (by fail "hp"), (by fail "ixn"), ?_⟩⟩
                  first
                  | (exfalso; omega)
                  | (rw [set_ints]
                     refine ⟨_, _, _, rfl, Same.mut sm (fresh2 np1).1, upd_same, (tb.set hx hy _ rfl).congr fun x y hx' hy' => ?_⟩
                     by_cases h : x = i ∧ y = j
                     · rw [if_pos h, h.1, h.2]
                       obtain rfl | rfl | rfl | rfl : way = 2 ∨ way = 3 ∨ way = 4 ∨ way = 5 := by omega
                       all_goals first
                         | (exfalso; omega)
                         | (rw [Bool.eq_iff_iff]
                            simp only [callR, Int.reduceEq, reduceIte, lineR, starR, wholeR, ringR, ring_int, Bool.or_eq_true, Bool.and_eq_true, decide_eq_true_eq, Bool.not_eq_true', decide_eq_false_iff_not, V.int.injEq, Bool.false_eq_true, false_iff, true_iff, Nat.lt_irrefl, true_and, and_true, false_or, Nat.lt_add_one]
                            first | omega | (generalize (i + 1) % n = q at *; omega) | (trace_state; omega))
                     · rw [if_neg h]
                       have e : (decide (x < i) || (decide (x = i) && decide (y < j + 1))) = (decide (x < i) || (decide (x = i) && decide (y < j))) := by
                         rw [Bool.eq_iff_iff]
                         simp only [Bool.or_eq_true, Bool.and_eq_true, decide_eq_true_eq]
                         omega
                       rw [e])
            · -- if way == 5:
              refine ⟨_, rfl, rfl, _, rfl, ?_⟩
              refine ifEqI (fun g33 => ?_) (fun g33 => ?_)
              · -- joined = x != y and y == int(x + 1) % count
                refine ⟨_, rfl, _, rfl, rfl, _, rfl, ?_⟩
                refine ifNeI (fun g34 => ?_) (fun g34 => ?_)
                · refine ⟨_, rfl, _, rfl, _, _, rfl, rfl, .inl ⟨_, rfl, _, rfl, _, _, rfl, rfl, (by fail "nz"), rfl, ?_⟩⟩
                  -- table[x * count + y] = int(joined)
                  refine ⟨_, rfl, .inr ⟨_, rfl, _, rfl, _, rfl, _, rfl, _, _, rfl, rfl, (by fail "mul"), _, rfl, _, _, rfl, rfl, _, _, _, _, rfl, rfl, (by fail "hp"), (by fail "ixn"), ?_⟩⟩
                  first
                  | (exfalso; omega)
                  | (rw [set_ints]
                     refine ⟨_, _, _, rfl, Same.mut sm (fresh2 np1).1, upd_same, (tb.set hx hy _ rfl).congr fun x y hx' hy' => ?_⟩
                     by_cases h : x = i ∧ y = j
                     · rw [if_pos h, h.1, h.2]
                       obtain rfl | rfl | rfl | rfl : way = 2 ∨ way = 3 ∨ way = 4 ∨ way = 5 := by omega
                       all_goals first
                         | (exfalso; omega)
                         | (rw [Bool.eq_iff_iff]
                            simp only [callR, Int.reduceEq, reduceIte, lineR, starR, wholeR, ringR, ring_int, Bool.or_eq_true, Bool.and_eq_true, decide_eq_true_eq, Bool.not_eq_true', decide_eq_false_iff_not, V.int.injEq, Bool.false_eq_true, false_iff, true_iff, Nat.lt_irrefl, true_and, and_true, false_or, Nat.lt_add_one]
                            first | omega | (generalize (i + 1) % n = q at *; omega) | (trace_state; omega))
                     · rw [if_neg h]
                       have e : (decide (x < i) || (decide (x = i) && decide (y < j + 1))) = (decide (x < i) || (decide (x = i) && decide (y < j))) := by
                         rw [Bool.eq_iff_iff]
                         simp only [Bool.or_eq_true, Bool.and_eq_true, decide_eq_true_eq]
                         omega
                       rw [e])
                · -- table[x * count + y] = int(joined)
                  refine ⟨_, rfl, .inr ⟨_, rfl, _, rfl, _, rfl, _, rfl, _, _, rfl, rfl, (by fail "mul"), _, rfl, _, _, rfl, rfl, _, _, _, _, rfl, rfl, (by fail "hp"), (by fail "ixn"), ?_⟩⟩
                  first
                  | (exfalso; omega)
                  | (rw [set_ints]
                     refine ⟨_, _, _, rfl, Same.mut sm (fresh2 np1).1, upd_same, (tb.set hx hy _ rfl).congr fun x y hx' hy' => ?_⟩
                     by_cases h : x = i ∧ y = j
                     · rw [if_pos h, h.1, h.2]
                       obtain rfl | rfl | rfl | rfl : way = 2 ∨ way = 3 ∨ way = 4 ∨ way = 5 := by omega
                       all_goals first
                         | (exfalso; omega)
                         | (rw [Bool.eq_iff_iff]
                            simp only [callR, Int.reduceEq, reduceIte, lineR, starR, wholeR, ringR, ring_int, Bool.or_eq_true, Bool.and_eq_true, decide_eq_true_eq, Bool.not_eq_true', decide_eq_false_iff_not, V.int.injEq, Bool.false_eq_true, false_iff, true_iff, Nat.lt_irrefl, true_and, and_true, false_or, Nat.lt_add_one]
                            first | omega | (generalize (i + 1) % n = q at *; omega) | (trace_state; omega))
                     · rw [if_neg h]
                       have e : (decide (x < i) || (decide (x = i) && decide (y < j + 1))) = (decide (x < i) || (decide (x = i) && decide (y < j))) := by
                         rw [Bool.eq_iff_iff]
                         simp only [Bool.or_eq_true, Bool.and_eq_true, decide_eq_true_eq]
                         omega
                       rw [e])
              · -- table[x * count + y] = int(joined)
                refine ⟨_, rfl, .inr ⟨_, rfl, _, rfl, _, rfl, _, rfl, _, _, rfl, rfl, (by fail "mul"), _, rfl, _, _, rfl, rfl, _, _, _, _, rfl, rfl, (by fail "hp"), (by fail "ixn"), ?_⟩⟩
                first
                | (exfalso; omega)
                | (rw [set_ints]
                   refine ⟨_, _, _, rfl, Same.mut sm (fresh2 np1).1, upd_same, (tb.set hx hy _ rfl).congr fun x y hx' hy' => ?_⟩
                   by_cases h : x = i ∧ y = j
                   · rw [if_pos h, h.1, h.2]
                     obtain rfl | rfl | rfl | rfl : way = 2 ∨ way = 3 ∨ way = 4 ∨ way = 5 := by omega
                     all_goals first
                       | (exfalso; omega)
                       | (rw [Bool.eq_iff_iff]
                          simp only [callR, Int.reduceEq, reduceIte, lineR, starR, wholeR, ringR, ring_int, Bool.or_eq_true, Bool.and_eq_true, decide_eq_true_eq, Bool.not_eq_true', decide_eq_false_iff_not, V.int.injEq, Bool.false_eq_true, false_iff, true_iff, Nat.lt_irrefl, true_and, and_true, false_or, Nat.lt_add_one]
                          first | omega | (generalize (i + 1) % n = q at *; omega) | (trace_state; omega))
                   · rw [if_neg h]
                     have e : (decide (x < i) || (decide (x = i) && decide (y < j + 1))) = (decide (x < i) || (decide (x = i) && decide (y < j))) := by
                       rw [Bool.eq_iff_iff]
                       simp only [Bool.or_eq_true, Bool.and_eq_true, decide_eq_true_eq]
                       omega
                     rw [e])
          · -- if way == 5:
            refine ⟨_, rfl, rfl, _, rfl, ?_⟩
            refine ifEqI (fun g36 => ?_) (fun g36 => ?_)
            · -- joined = x != y and y == int(x + 1) % count
              refine ⟨_, rfl, _, rfl, rfl, _, rfl, ?_⟩
              refine ifNeI (fun g37 => ?_) (fun g37 => ?_)
              · refine ⟨_, rfl, _, rfl, _, _, rfl, rfl, .inl ⟨_, rfl, _, rfl, _, _, rfl, rfl, (by fail "nz"), rfl, ?_⟩⟩
                -- table[x * count + y] = int(joined)
                refine ⟨_, rfl, .inr ⟨_, rfl, _, rfl, _, rfl, _, rfl, _, _, rfl, rfl, (by fail "mul"), _, rfl, _, _, rfl, rfl, _, _, _, _, rfl, rfl, (by fail "hp"), (by fail "ixn"), ?_⟩⟩
                first
                | (exfalso; omega)
                | (rw [set_ints]
                   refine ⟨_, _, _, rfl, Same.mut sm (fresh2 np1).1, upd_same, (tb.set hx hy _ rfl).congr fun x y hx' hy' => ?_⟩
                   by_cases h : x = i ∧ y = j
                   · rw [if_pos h, h.1, h.2]
                     obtain rfl | rfl | rfl | rfl : way = 2 ∨ way = 3 ∨ way = 4 ∨ way = 5 := by omega
                     all_goals first
                       | (exfalso; omega)
                       | (rw [Bool.eq_iff_iff]
                          simp only [callR, Int.reduceEq, reduceIte, lineR, starR, wholeR, ringR, ring_int, Bool.or_eq_true, Bool.and_eq_true, decide_eq_true_eq, Bool.not_eq_true', decide_eq_false_iff_not, V.int.injEq, Bool.false_eq_true, false_iff, true_iff, Nat.lt_irrefl, true_and, and_true, false_or, Nat.lt_add_one]
                          first | omega | (generalize (i + 1) % n = q at *; omega) | (trace_state; omega))
                   · rw [if_neg h]
                     have e : (decide (x < i) || (decide (x = i) && decide (y < j + 1))) = (decide (x < i) || (decide (x = i) && decide (y < j))) := by
                       rw [Bool.eq_iff_iff]
                       simp only [Bool.or_eq_true, Bool.and_eq_true, decide_eq_true_eq]
                       omega
                     rw [e])
              · -- table[x * count + y] = int(joined)
                refine ⟨_, rfl, .inr ⟨_, rfl, _, rfl, _, rfl, _, rfl, _, _, rfl, rfl, (by fail "mul"), _, rfl, _, _, rfl, rfl, _, _, _, _, rfl, rfl, (by fail "hp"), (by fail "ixn"), ?_⟩⟩
                first
                | (exfalso; omega)
                | (rw [set_ints]
                   refine ⟨_, _, _, rfl, Same.mut sm (fresh2 np1).1, upd_same, (tb.set hx hy _ rfl).congr fun x y hx' hy' => ?_⟩
                   by_cases h : x = i ∧ y = j
                   · rw [if_pos h, h.1, h.2]
                     obtain rfl | rfl | rfl | rfl : way = 2 ∨ way = 3 ∨ way = 4 ∨ way = 5 := by omega
                     all_goals first
                       | (exfalso; omega)
                       | (rw [Bool.eq_iff_iff]
                          simp only [callR, Int.reduceEq, reduceIte, lineR, starR, wholeR, ringR, ring_int, Bool.or_eq_true, Bool.and_eq_true, decide_eq_true_eq, Bool.not_eq_true', decide_eq_false_iff_not, V.int.injEq, Bool.false_eq_true, false_iff, true_iff, Nat.lt_irrefl, true_and, and_true, false_or, Nat.lt_add_one]
                          first | omega | (generalize (i + 1) % n = q at *; omega) | (trace_state; omega))
                   · rw [if_neg h]
                     have e : (decide (x < i) || (decide (x = i) && decide (y < j + 1))) = (decide (x < i) || (decide (x = i) && decide (y < j))) := by
                       rw [Bool.eq_iff_iff]
                       simp only [Bool.or_eq_true, Bool.and_eq_true, decide_eq_true_eq]
                       omega
                     rw [e])
            · -- table[x * count + y] = int(joined)
              refine ⟨_, rfl, .inr ⟨_, rfl, _, rfl, _, rfl, _, rfl, _, _, rfl, rfl, (by fail "mul"), _, rfl, _, _, rfl, rfl, _, _, _, _, rfl, rfl, (by fail "hp"), (by fail "ixn"), ?_⟩⟩
              first
              | (exfalso; omega)
              | (rw [set_ints]
                 refine ⟨_, _, _, rfl, Same.mut sm (fresh2 np1).1, upd_same, (tb.set hx hy _ rfl).congr fun x y hx' hy' => ?_⟩
                 by_cases h : x = i ∧ y = j
                 · rw [if_pos h, h.1, h.2]
                   obtain rfl | rfl | rfl | rfl : way = 2 ∨ way = 3 ∨ way = 4 ∨ way = 5 := by omega
                   all_goals first
                     | (exfalso; omega)
                     | (rw [Bool.eq_iff_iff]
                        simp only [callR, Int.reduceEq, reduceIte, lineR, starR, wholeR, ringR, ring_int, Bool.or_eq_true, Bool.and_eq_true, decide_eq_true_eq, Bool.not_eq_true', decide_eq_false_iff_not, V.int.injEq, Bool.false_eq_true, false_iff, true_iff, Nat.lt_irrefl, true_and, and_true, false_or, Nat.lt_add_one]
                        first | omega | (generalize (i + 1) % n = q at *; omega) | (trace_state; omega))
                 · rw [if_neg h]
                   have e : (decide (x < i) || (decide (x = i) && decide (y < j + 1))) = (decide (x < i) || (decide (x = i) && decide (y < j))) := by
                     rw [Bool.eq_iff_iff]
                     simp only [Bool.or_eq_true, Bool.and_eq_true, decide_eq_true_eq]
                     omega
                   rw [e])
      · rintro σ H2 ⟨T2, w2', u2, rfl, sm2, ht2, tb2⟩
        rw [Int.toNat_natCast] at tb2
        refine ⟨T2, _, w2', u2, rfl, sm2, ht2, tb2.congr fun x y hx' hy' => ?_⟩
        have e : (decide (x < i) || (decide (x = i) && decide (y < n))) = decide (x < i + 1) := by
          rw [Bool.eq_iff_iff]
          simp only [Bool.or_eq_true, Bool.and_eq_true, decide_eq_true_eq]
          omega
        rw [e]
    · rintro σ H1 ⟨T1, v, w, u, rfl, sm1, ht1, tb1⟩
      rw [Int.toNat_natCast] at tb1
      -- return table
      refine ⟨_, rfl, ?_⟩
      exact kQ _ T1 _ (fresh2 np1).1 sm1 ht1 (tb1.congr fun x y hx hy => by rw [decide_eq_true hx, Bool.true_and])
end
end K00

end
section
set_option Elab.async false
set_option linter.all false
set_option maxRecDepth 100000
set_option maxHeartbeats 800000
namespace K00
open PySem L2 Kit KR KX L2H
local macro_rules | `(tactic| fail "om") => `(tactic| first | omega | (simp only [List.length_map, List.length_append, List.length_cons, List.length_nil]; omega) | (simp only [List.length_map, List.length_append, List.length_cons, List.length_nil] at *; omega) | assumption | decide | fail "no om")
local macro_rules | `(tactic| fail "nz") => `(tactic| first | decide | omega | fail "no nz")
local macro_rules | `(tactic| fail "dv") => `(tactic| exact ⟨by first | decide | omega, by first | decide | omega⟩)
local macro_rules | `(tactic| fail "mul") => `(tactic| first | exact .inr ⟨by decide, by decide⟩ | exact .inl ⟨by decide, by decide⟩ | exact mulF (by decide) (by decide) | exact .inl ⟨by omega, by omega⟩ | exact .inr ⟨by omega, by omega⟩ | fail "no mul")
local macro_rules | `(tactic| fail "sz") => `(tactic| first | assumption | exact Nat.zero_le _ | (show 1 ≤ sizeLine; decide) | (show 2 ≤ sizeLine; decide) | (show 3 ≤ sizeLine; decide) | (show 4 ≤ sizeLine; decide) | (show 5 ≤ sizeLine; decide) | exact Evl.sz_of (by omega) | (refine Evl.sz_of ?_; simp only [List.length_append, List.length_map, List.length_cons, List.length_nil]; omega) | fail "no sz")
local macro_rules | `(tactic| fail "szl") => `(tactic| first | exact Evl.sz_lt (by omega) | (refine Evl.sz_lt ?_; simp only [List.length_append, List.length_map, List.length_cons, List.length_nil]; omega) | fail "no szl")
local macro_rules | `(tactic| fail "ix") => `(tactic| first | assumption | exact ix0 | exact ix1 | exact ix2 | exact at_ref (by assumption) (by omega) | exact at_int (by assumption) (by omega) | exact at_drawn (by assumption) (by assumption) | rfl | fail "no ix")
local macro_rules | `(tactic| fail "ixn") => `(tactic| first | rfl | assumption | fail "no ixn")
local macro_rules | `(tactic| fail "nb") => `(tactic| first | assumption | exact nb_tup | exact nb_nil | exact nb_ints | exact nb_refs | exact nb_ins | exact nb_dT | exact nb_frz | fail "no nb")
local macro_rules | `(tactic| fail "ne") => `(tactic| first | assumption | exact Ne.symm (by assumption) | exact ne_of_none (by assumption) (by assumption) | exact (ne_of_none (by assumption) (by assumption)).symm | exact ne_of (by assumption) (by assumption) (by intro q; cases q) | exact ne_of (by assumption) (by assumption) (by simp) | fail "no ne")
local macro_rules | `(tactic| fail "hp") => `(tactic| first | assumption | exact upd_same | (refine' Tk.get (by assumption) ?k1; (case k1 => fail "tk")) | (with_reducible refine' upd_new ?h1 ?n1; (case n1 => assumption); (case h1 => fail "hp")) | (refine' Same.get (by assumption) ?h1; (case h1 => fail "hp")) | (refine' Kp.get (by assumption) (by fail "bx") ?h1 ?d1; (case h1 => fail "hp"); (case d1 => fail "nb")) | (with_reducible refine' upd_oth ?h1 ?n1; (case n1 => fail "ne"); (case h1 => fail "hp")) | (with_reducible refine' upd_oth ?h1 ?n1; (case h1 => fail "hp"); (case n1 => fail "ne")) | fail "no hp")
local macro_rules | `(tactic| fail "bx") => `(tactic| first | assumption | (with_reducible refine' BoxOk.new ?h1 ?n1; (case n1 => assumption); (case h1 => fail "bx")) | (refine' BoxOk.same (by assumption) ?h1; (case h1 => fail "bx")) | (with_reducible refine' BoxOk.mut ?h1 ?h2 ?n1; (case n1 => assumption); (case h2 => assumption); (case h1 => fail "bx")) | fail "no bx")
local macro_rules | `(tactic| fail "kp") => `(tactic| first | assumption | exact Kp.refl | (with_reducible refine' Kp.at ?h1; (case h1 => fail "kp")) | (with_reducible refine' Kp.new ?h1 ?n1; (case n1 => assumption); (case h1 => fail "kp")) | (with_reducible refine' Kp.mut ?h1 ?n1; (case n1 => assumption); (case h1 => fail "kp")) | (refine' Kp.tr (by assumption) ?h1; (case h1 => fail "kp")) | (refine' Kp.tr (Kp.of (by assumption)) ?h1; (case h1 => fail "kp")) | fail "no kp")
local macro_rules | `(tactic| fail "ite") => `(tactic| first | refine iteT ?_ | refine iteF ?_)
local macro_rules | `(tactic| fail "tt") => `(tactic| first | rfl | exact decide_eq_true (by first | rfl | omega | assumption) | exact decide_eq_true (congrArg V.int (by first | rfl | omega)) | fail "no tt")
local macro_rules | `(tactic| fail "cv") => `(tactic| first | exact .ty _ | exact .own _)
local macro_rules | `(tactic| fail "tx") => `(tactic| first | exact .base (.int _) | exact .base (.bl _) | exact .base .non | exact .base (.lst (by fail "hp")) | exact .base (.tup (by fail "hp")) | fail "no tx")
local macro_rules | `(tactic| fail "dead") => `(tactic| (exfalso; first | omega | contradiction | simp_all))
local macro_rules | `(tactic| fail "dp") => `(tactic| first | exact .tup (SqT.of (by fail "hp")) (.cons (.int _) (.cons (.int _) .nil)) | exact .lst (SqL.of (by fail "hp")) (dpPrs (by fail "pr")) | exact .lst (SqL.of (by fail "hp")) (dpInts _) | exact .lst (SqL.of (by fail "hp")) .nil | fail "no dp")
local macro_rules | `(tactic| fail "shp") => `(tactic| first | assumption | exact prD_shaped _ | exact PySem.W.ke_shaped_ints _ | rfl | fail "no shp")
local macro_rules | `(tactic| fail "pr") => `(tactic| first | assumption | exact PrT.mono (by assumption) (by fail "tk") | fail "no pr")
local macro_rules | `(tactic| fail "tk") => `(tactic| first | assumption | exact Tk.refl | (with_reducible refine' Tk.new ?h1 ?n1; (case n1 => assumption); (case h1 => fail "tk")) | (refine' Tk.tr (Kp.tk (by assumption) (by fail "bx")) ?h1; (case h1 => fail "tk")) | (refine' Tk.tr (Same.tk (by assumption)) ?h1; (case h1 => fail "tk")) | (with_reducible refine' Tk.lst ?h1 ?n1; (case n1 => fail "hp"); (case h1 => fail "tk")) | fail "no tk")
local macro_rules | `(tactic| fail "lk") => `(tactic| first | exact netF_count _ _ | exact netF_links _ _ | exact netF_no _ _ (by decide +kernel) (by decide +kernel) | fail "no lk")
local macro_rules | `(tactic| fail "kt") => `(tactic| first | exact upd_same | assumption | fail "hp")
local macro_rules | `(tactic| fail "na") => `(tactic| first | assumption | (with_reducible refine' NetAt.new ?h1 ?n1; (case n1 => assumption); (case h1 => fail "na")) | (refine' NetAt.same (by assumption) ?h1; (case h1 => fail "na")) | (refine' NetAt.kp (by assumption) (by fail "bx") ?h1; (case h1 => fail "na")) | (with_reducible refine' NetAt.lst ?h1 ?n1; (case n1 => fail "hp"); (case h1 => fail "na")) | fail "no na")
local macro_rules | `(tactic| fail "mono") => `(tactic| first | exact fun _ _ _ _ h q => h _ _ q | exact fun _ _ _ _ h q => (let ⟨v, e, z⟩ := q; ⟨v, e, h _ _ z⟩) | exact fun _ _ _ _ h q => (let ⟨v, e, u, f, z⟩ := q; ⟨v, e, u, f, h _ _ z⟩) | fail "no mono")
local macro_rules | `(tactic| fail "sm") => `(tactic| first | assumption | exact Same.refl _ | (with_reducible refine' Same.new ?h1 ?n1; (case n1 => assumption); (case h1 => fail "sm")) | (refine' Same.tr (by assumption) ?h1; (case h1 => fail "sm")) | fail "no sm")
local macro_rules | `(tactic| fail "fld") => `(tactic| first | (show 0 < 1000; decide) | (show 1 < 1000; decide) | fail "no fld")

section
variable {P : Program} {w : World} {K : PySem.W.Frag} {mg : Str → Option Value} {base : Heap} {CN CI CU CL CS : Addr} {mc mu : Value}

theorem mem_ties_int {n : Nat} {R : Rel} {x y : Int} : (x, y) ∈ ties n R ↔ 0 ≤ x ∧ x < n ∧ 0 ≤ y ∧ y < n ∧ R x.toNat y.toNat = true := by
  rw [mem_ties]
  constructor
  · rintro ⟨a, b, ha, hb, r, e⟩
    obtain rfl : x = (a : Int) := congrArg Prod.fst e
    obtain rfl : y = (b : Int) := congrArg Prod.snd e
    rw [Int.toNat_natCast, Int.toNat_natCast]
    exact ⟨by omega, by omega, by omega, by omega, r⟩
  · rintro ⟨h1, h2, h3, h4, r⟩
    exact ⟨x.toNat, y.toNat, by omega, by omega, r, Prod.ext (by show x = _; omega) (by show y = _; omega)⟩
theorem tab_at {n : Nat} {M : List Int} {R : Rel} (tb : IsTab n M R) {x y : Int} (h : 0 ≤ x ∧ x < n ∧ 0 ≤ y ∧ y < n) : atI (M.map V.int) (x * (n : Int) + y) = some (V.int (if R x.toNat y.toNat = true then 1 else 0)) := by
  refine at_int (tb.get x.toNat y.toNat (by omega) (by omega)) ?_
  have e1 : (x.toNat : Int) = x := by omega
  have e2 : (y.toNat : Int) = y := by omega
  rw [Int.natCast_add, Int.natCast_mul, e1, e2]
theorem bit_one (b : Bool) : decide (V.int (if b = true then 1 else 0) = V.int 1) = b := by
  cases b
  · exact decide_eq_false (by intro e; cases e)
  · exact decide_eq_true rfl
abbrev sHas : Stmt := top 38
theorem scHas : FnScope ["box", "net", "count", "table", "x", "sources", "y", "inside", "forth", "back"] ["box", "net", "count", "table"] (defScope sHas) := ⟨rfl, rfl, rfl, by decide +kernel, rfl, by decide +kernel, by decide +kernel⟩
def spHasAll (CN : Addr) : Sp := fun vs H Q _ => ∃ (b bc a : Addr) (n : Nat) (R : Rel) (t : Addr) (M : List Int), vs = [.ref b, .ref a, .int (n : Int), .ref t] ∧ BoxOk H b bc ∧ NetAt CN H a n R ∧ H t = some (.lst (M.map V.int)) ∧ IsTab n M R ∧ ∀ H', Kp b H H' → BoxOk H' b bc → Q (.bl true) H'
theorem ok_Has (D : Df K mg "_law_has" sHas ["box", "net", "count", "table"]) (T : LTx K mg CN CI CU CL CS mc mu) (GDraw : C8.Cal P w K mg base 1 "_law_draw" spDraw []) (GStranger : C8.Cal P w K mg base 3 "_law_stranger" spStranger []) (GTruth : C8.Cal P w K mg base 1 "_law_truth" spTruth []) (Nhas_link : C8.Met P w K mg base 1 CN "has_link" (spHas CN) []) : C8.Cal P w K mg base 6 "_law_has" (spHasAll CN) [] := by
  obtain ⟨f, fd, F, hm, hb⟩ := D
  refine ⟨f, fd, ["box", "net", "count", "table"], [], F.ok scHas (fun vs H Q E h => ?_) (fun cdv A outer s H vs Q E hr h => ?_), hm, F.kp, hb, .nil⟩
  · obtain ⟨b, bc, a, n, R, t, M, rfl, bx0, na, ht, tb, kQ⟩ := h
    rfl
  · obtain ⟨b, bc, a, n, R, t, M, rfl, bx0, na, ht, tb, kQ⟩ := h
    have b1 := na.b1
    have b2 := na.b2
    obtain ⟨⟨dx, d, ha, hd⟩, _, _, ir⟩ := id na
    refine ⟨_, (pss_cons (ps_setLc (i := 5) (own := [("x", 4)]) (g := gName 4) (tt := tYes) rfl scHas.nd rfl rfl (sw_true rfl rfl rfl (by decide +kernel)) (pi_range2 rfl T.range (pa_cons (pe_un un_neg pe_int) (pa_cons (pe_op op_add (pv 2) pe_int) pa_nil))) (blkOk_by (N := ["box", "net", "count", "table", "x", "sources", "y", "inside", "forth", "back"]) (sc := defScope sHas) (by decide +kernel)) (fun _ _ _ _ _ => (pg_name (i := 4) scHas.nd rfl (Or.inl rfl))) (fun _ _ _ _ _ => pts_nil) (fun _ _ _ _ _ => (pv 4)))
      (C8.pss_cut (ps_if (pt_cmpR op_gt (pv 2) pe_int (nomark _))
        (pss_one (ps_set (i := 5) scHas.nd rfl (Or.inl rfl) (pe_lst (pa_cons (pe_un un_neg pe_int) (pa_cons (C8.pe_c GDraw hr (by decide) (by rfl) (pa_cons (pv 0) (pa_cons (pv 2) pa_nil))) (pa_cons (pe_op op_sub (pv 2) pe_int) (pa_cons (pv 2) pa_nil)))))))
        pss_nil)
      (pss_cons (ps_expr (pe_bm PySem.F.plainAttrs_list PySem.F.slot_list_append PySem.F.type_list_append mt_append (pv 5) (pa_cons (C8.pe_c GStranger hr (by decide) (by rfl) (pa_cons (pv 0) (pa_cons (pv 2) pa_nil))) pa_nil)))
      (pss_cons (ps_for PassesOwn.never rfl (pi_list (pv 5)) (pg_name (i := 4) scHas.nd rfl (Or.inl rfl))
        (pss_one (ps_for PassesOwn.never rfl (pi_range2 rfl T.range (pa_cons (pe_un un_neg pe_int) (pa_cons (pe_op op_add (pv 2) pe_int) pa_nil))) (pg_name (i := 6) scHas.nd rfl (Or.inl rfl))
          (C8.pss_cut (ps_set (i := 7) scHas.nd rfl (Or.inl rfl) (pe_and (pe_chain op_le op_lt pe_int (pv 4) (pv 2)) (pe_one (pe_chain op_le op_lt pe_int (pv 6) (pv 2)))))
          (C8.pss_cut (ps_set (i := 8) scHas.nd rfl (Or.inl rfl) (pe_and (pv 7) (pe_one (pe_cmpR op_eq (pe_ix ix_list (pv 3) (pe_op op_add (pe_op op_mul (pv 4) (pv 2)) (pv 6)) (fun _ _ => rfl)) pe_int (nomark _)))))
          (C8.pss_cut (ps_set (i := 9) scHas.nd rfl (Or.inl rfl) (pe_and (pv 7) (pe_one (pe_cmpR op_eq (pe_ix ix_list (pv 3) (pe_op op_add (pe_op op_mul (pv 6) (pv 2)) (pv 4)) (fun _ _ => rfl)) pe_int (nomark _)))))
          (pss_one (ps_if (PW.pt (pw_or (pt_not (pt_val (C8.pe_c GTruth hr (by decide) (by rfl) (pa_cons (C8.pe_mt Nhas_link hr (by decide) (pv 1) (pa_cons (pv 4) (pa_cons (pv 6) pa_nil))) (pa_cons (pv 8) pa_nil))))) (pw_or1 (pt_not (pt_val (C8.pe_c GTruth hr (by decide) (by rfl) (pa_cons (C8.pe_mt Nhas_link hr (by decide) (pv 1) (pa_cons (pv 6) (pa_cons (pv 4) pa_nil))) (pa_cons (pv 9) pa_nil))))))))
            (pss_one (ps_ret pe_bl))
            pss_nil))))))))
      (pss_one (ps_ret pe_bl)))))), ?_⟩
    -- sources = [x for x in range(-1, count + 1)]
    refine ⟨_, rfl, _, rfl, _, _, rfl, rfl, _, _, rfl, ⟨by fail "om", by fail "om", by fail "om", by fail "om"⟩, fun D1 nD1 => lc_range (fun i H' => ∃ ns : List Int, Same H H' ∧ H' D1 = some (.lst (ns.map V.int)) ∧ ns.length = i) ⟨[], Same.new (Same.refl _) nD1, upd_same, rfl⟩ (fun i H' hi z => by
      obtain ⟨ns, sm, hD, ln⟩ := z
      refine ⟨rfl, ?_⟩
      unfold tYes
      refine iteT ?_
      refine ⟨_, rfl, _, hD, Evl.sz_lt (by rw [List.length_map]; omega), ns ++ [_], Same.mut sm nD1, by rw [upd_same, List.map_append]; rfl, by rw [List.length_append, ln]; rfl⟩) (fun H' z => ?_)⟩
    refine ⟨fun σ H' => ∃ (q : Addr) (ns : List Int), σ = [some (.ref b), some (.ref a), some (.int (n : Int)), some (.ref t), none, some (.ref q), none, none, none, none] ∧ Kp b H H' ∧ BoxOk H' b bc ∧ H' q = some (.lst (ns.map V.int)) ∧ H q = none ∧ ns.length ≤ 30, ?_, ?_⟩
    · obtain ⟨ns, sm, hD, ln⟩ := z
      -- if count > 6:
      refine ⟨_, rfl, _, _, rfl, rfl, _, rfl, ?_⟩
      refine ifD (fun g1 => ?_) (fun g1 => ?_)
      · -- sources = [-1, _law_draw(box, count), count - 1, count]
        refine ⟨_, rfl, _, rfl, _, rfl, _, _, _, rfl, (by fail "bx"), (by fail "om"), (by fail "om"), fun d3 H3 da3 db3 kp3 bx3 => ⟨_, rfl, _, _, rfl, rfl, _, rfl, (by fail "sz"), fun p2 np2 => ?_⟩⟩
        exact ⟨p2, [-1, d3, (n : Int) - 1, (n : Int)], rfl, Kp.new (Kp.trans (Kp.of sm) kp3) np2, BoxOk.new bx3 np2, upd_same, free_back (Kp.free kp3 bx3 np2) sm, by show 4 ≤ 30; decide⟩
      · exact ⟨D1, ns, rfl, Kp.of sm, BoxOk.same sm bx0, hD, nD1, by omega⟩
    · rintro σ H1 ⟨q, ns, rfl, kp1, bx1, hq, nq, ln⟩
      -- sources.append(_law_stranger(box, count))
      refine ⟨_, rfl, .inl ⟨rfl, _, SqL.of (by fail "hp")⟩, _, rfl, _, rfl, _, _, _, rfl, (by fail "bx"), (by fail "om"), fun d4 H4 da4 kp4 bx4 => ⟨_, _, _, rfl, rfl, (by fail "hp"), (by fail "szl"), ?_⟩⟩
      have hqS : upd H4 q (.lst (ns.map V.int ++ [V.int d4])) q = some (.lst ((ns ++ [d4]).map V.int)) := by
        rw [upd_same, List.map_append]
        rfl
      have kpS : Kp b H (upd H4 q (.lst (ns.map V.int ++ [V.int d4]))) := Kp.mut (Kp.trans kp1 kp4) nq
      have bxS : BoxOk (upd H4 q (.lst (ns.map V.int ++ [V.int d4]))) b bc := BoxOk.mut bx4 bx0 nq
      have naS := na.kp kpS bx0
      have htS := kpS.get bx0 ht nb_ints
      -- for x in sources:
      refine ⟨_, rfl, _, rfl, ⟨_, SqL.of (by fail "hp")⟩, for_list (K := K) (a := q) (xs := (ns ++ [d4]).map V.int) (fun i σ H' => Same (upd H4 q (.lst (ns.map V.int ++ [V.int d4]))) H' ∧ ∃ v w u1 u2 u3, σ = [some (.ref b), some (.ref a), some (.int (n : Int)), some (.ref t), v, some (.ref q), w, u1, u2, u3]) ⟨Same.refl _, none, none, none, none, none, rfl⟩ (fun i σ H' _ z => SqL.of (z.1 _ _ hqS)) ?_ ?_⟩
      · rintro i y0 σ H2 hi ⟨sm2, v, w, u1, u2, u3, rfl⟩
        obtain ⟨x, rfl⟩ : ∃ x, y0 = V.int x := by
          rw [List.getElem?_map] at hi
          cases e : (ns ++ [d4])[i]? with
          | none => rw [e] at hi; cases hi
          | some x => rw [e] at hi; exact ⟨x, (Option.some.inj hi).symm⟩
        -- for y in range(-1, count + 1):
        refine ⟨_, rfl, _, rfl, _, _, rfl, rfl, _, _, rfl, ⟨by fail "om", by fail "om", by fail "om", by fail "om"⟩, for_range (fun j σ H' => Same (upd H4 q (.lst (ns.map V.int ++ [V.int d4]))) H' ∧ ∃ w u1 u2 u3, σ = [some (.ref b), some (.ref a), some (.int (n : Int)), some (.ref t), some (.int x), some (.ref q), w, u1, u2, u3]) ⟨sm2, _, _, _, _, rfl⟩ ?_ ?_⟩
        · rintro j σ H3 hj ⟨sm3, w, u1, u2, u3, rfl⟩
          generalize hy : (-1 : Int) + (j : Int) = y
          have na3 := naS.same sm3
          have ht3 := sm3 _ _ htS
          obtain ⟨⟨dx3, d3, ha3, hd3⟩, _, _, _⟩ := id na3
          refine ⟨fun σ H' => H' = H3 ∧ ∃ ins : Bool, (ins = true ↔ 0 ≤ x ∧ x < n ∧ 0 ≤ y ∧ y < n) ∧ σ = [some (.ref b), some (.ref a), some (.int (n : Int)), some (.ref t), some (.int x), some (.ref q), some (.int y), some (.bl ins), u2, u3], ?_, ?_⟩
          · -- inside = 0 <= x < count and 0 <= y < count
            refine ⟨_, rfl, _, _, rfl, rfl, _, rfl, ?_⟩
            refine ifD (fun g5 => ?_) (fun g5 => ?_)
            · refine ⟨_, rfl, _, _, rfl, rfl, _, rfl, ?_⟩
              refine ifD (fun g6 => ?_) (fun g6 => ?_)
              · refine ⟨_, rfl, _, _, rfl, rfl, _, rfl, ?_⟩
                refine ifD (fun g7 => ?_) (fun g7 => ?_)
                · refine ⟨_, rfl, _, _, rfl, rfl, ?_⟩
                  refine ⟨rfl, _, ?_, rfl⟩
                  first
                  | (simp only [decide_eq_true_eq]; omega)
                  | (simp only [Bool.false_eq_true, false_iff]; omega)
                  | omega
                · refine ⟨rfl, _, ?_, rfl⟩
                  first
                  | (simp only [decide_eq_true_eq]; omega)
                  | (simp only [Bool.false_eq_true, false_iff]; omega)
                  | omega
              · refine ⟨rfl, _, ?_, rfl⟩
                first
                | (simp only [decide_eq_true_eq]; omega)
                | (simp only [Bool.false_eq_true, false_iff]; omega)
                | omega
            · refine ⟨_, rfl, ?_⟩
              fail "ite"
              refine ⟨rfl, _, ?_, rfl⟩
              first
              | (simp only [decide_eq_true_eq]; omega)
              | (simp only [Bool.false_eq_true, false_iff]; omega)
              | omega
          · rintro σ H4 ⟨rfl, ins, hin, rfl⟩
            refine ⟨fun σ H' => H' = H4 ∧ σ = [some (.ref b), some (.ref a), some (.int (n : Int)), some (.ref t), some (.int x), some (.ref q), some (.int y), some (.bl ins), some (.bl (decide ((x, y) ∈ ties n R))), u3], ?_, ?_⟩
            · -- forth = inside and table[x * count + y] == 1
              refine ⟨_, rfl, _, rfl, ?_⟩
              refine ifB (fun g8 => ?_) (fun g8 => ?_)
              · have hb := hin.mp g8
                have ixf := tab_at tb (hin.mp g8)
                refine ⟨_, rfl, _, rfl, _, rfl, _, _, rfl, rfl, (by fail "mul"), _, rfl, _, _, rfl, rfl, _, _, _, _, rfl, rfl, SqL.of (by fail "hp"), (by fail "ix"), rfl, ?_⟩
                refine ⟨rfl, ?_⟩
                have e : R x.toNat y.toNat = decide ((x, y) ∈ ties n R) := by
                  rw [Bool.eq_iff_iff, decide_eq_true_eq, mem_ties_int]
                  exact ⟨fun r => ⟨hb.1, hb.2.1, hb.2.2.1, hb.2.2.2, r⟩, fun z => z.2.2.2.2⟩
                rw [bit_one, e]
                rfl
              · refine ⟨rfl, ?_⟩
                have e : decide ((x, y) ∈ ties n R) = false := by
                  refine decide_eq_false fun z => ?_
                  rw [mem_ties_int] at z
                  exact absurd (hin.mpr ⟨z.1, z.2.1, z.2.2.1, z.2.2.2.1⟩) (by rw [‹ins = false›]; exact Bool.false_ne_true)
                rw [e]
                rfl
            · rintro σ H5 ⟨rfl, rfl⟩
              refine ⟨fun σ H' => H' = H5 ∧ σ = [some (.ref b), some (.ref a), some (.int (n : Int)), some (.ref t), some (.int x), some (.ref q), some (.int y), some (.bl ins), some (.bl (decide ((x, y) ∈ ties n R))), some (.bl (decide ((y, x) ∈ ties n R)))], ?_, ?_⟩
              · -- back = inside and table[y * count + x] == 1
                refine ⟨_, rfl, _, rfl, ?_⟩
                refine ifB (fun g9 => ?_) (fun g9 => ?_)
                · have hb := hin.mp g9
                  have ixf := tab_at tb (x := y) (y := x) (let z := hin.mp g9; ⟨z.2.2.1, z.2.2.2, z.1, z.2.1⟩)
                  refine ⟨_, rfl, _, rfl, _, rfl, _, _, rfl, rfl, (by fail "mul"), _, rfl, _, _, rfl, rfl, _, _, _, _, rfl, rfl, SqL.of (by fail "hp"), (by fail "ix"), rfl, ?_⟩
                  refine ⟨rfl, ?_⟩
                  have e : R y.toNat x.toNat = decide ((y, x) ∈ ties n R) := by
                    rw [Bool.eq_iff_iff, decide_eq_true_eq, mem_ties_int]
                    exact ⟨fun r => ⟨hb.2.2.1, hb.2.2.2, hb.1, hb.2.1, r⟩, fun z => z.2.2.2.2⟩
                  rw [bit_one, e]
                  rfl
                · refine ⟨rfl, ?_⟩
                  have e : decide ((y, x) ∈ ties n R) = false := by
                    refine decide_eq_false fun z => ?_
                    rw [mem_ties_int] at z
                    exact absurd (hin.mpr ⟨z.2.2.1, z.2.2.2.1, z.1, z.2.1⟩) (by rw [‹ins = false›]; exact Bool.false_ne_true)
                  rw [e]
                  rfl
              · rintro σ H6 ⟨rfl, rfl⟩
                -- if not _law_truth(net.has_link(x, y), forth) or not _law_truth(net.has_link(y, x), back):
                refine ⟨_, rfl, _, _, _, rfl, (by fail "hp"), (by fail "lk"), _, rfl, _, rfl, _, _, _, _, _, rfl, (by fail "na"), fun H11 sm11 => ⟨_, rfl, _, rfl, ⟨_, rfl, ?_⟩⟩⟩
                fail "ite"
                refine ⟨_, rfl, _, _, _, rfl, (by fail "hp"), (by fail "lk"), _, rfl, _, rfl, _, _, _, _, _, rfl, (by fail "na"), fun H13 sm13 => ⟨_, rfl, _, rfl, ⟨_, rfl, ?_⟩⟩⟩
                fail "ite"
                exact ⟨(sm3.trans sm11).trans sm13, _, _, _, _, rfl⟩
        · rintro σ H3 ⟨sm3, w, u1, u2, u3, rfl⟩
          exact ⟨sm3, _, _, _, _, _, rfl⟩
      · rintro σ H2 ⟨sm2, v, w, u1, u2, u3, rfl⟩
        -- return True
        exact kQ _ (Kp.trans kpS (Kp.of sm2)) (BoxOk.same sm2 bxS)
end
end K00

end
section
set_option Elab.async false
set_option linter.all false
set_option maxRecDepth 100000
set_option maxHeartbeats 800000
namespace K00
open PySem L2 Kit KR KX L2H
local macro_rules | `(tactic| fail "om") => `(tactic| first | omega | (simp only [List.length_map, List.length_append, List.length_cons, List.length_nil]; omega) | (simp only [List.length_map, List.length_append, List.length_cons, List.length_nil] at *; omega) | assumption | decide | fail "no om")
local macro_rules | `(tactic| fail "nz") => `(tactic| first | decide | omega | fail "no nz")
local macro_rules | `(tactic| fail "dv") => `(tactic| exact ⟨by first | decide | omega, by first | decide | omega⟩)
local macro_rules | `(tactic| fail "mul") => `(tactic| first | exact .inr ⟨by decide, by decide⟩ | exact .inl ⟨by decide, by decide⟩ | exact mulF (by decide) (by decide) | exact .inl ⟨by omega, by omega⟩ | exact .inr ⟨by omega, by omega⟩ | fail "no mul")
local macro_rules | `(tactic| fail "sz") => `(tactic| first | assumption | exact Nat.zero_le _ | (show 1 ≤ sizeLine; decide) | (show 2 ≤ sizeLine; decide) | (show 3 ≤ sizeLine; decide) | (show 4 ≤ sizeLine; decide) | (show 5 ≤ sizeLine; decide) | exact Evl.sz_of (by omega) | (refine Evl.sz_of ?_; simp only [List.length_append, List.length_map, List.length_cons, List.length_nil]; omega) | fail "no sz")
local macro_rules | `(tactic| fail "szl") => `(tactic| first | exact Evl.sz_lt (by omega) | (refine Evl.sz_lt ?_; simp only [List.length_append, List.length_map, List.length_cons, List.length_nil]; omega) | fail "no szl")
local macro_rules | `(tactic| fail "ix") => `(tactic| first | assumption | exact ix0 | exact ix1 | exact ix2 | exact at_ref (by assumption) (by omega) | exact at_int (by assumption) (by omega) | exact at_drawn (by assumption) (by assumption) | rfl | fail "no ix")
local macro_rules | `(tactic| fail "ixn") => `(tactic| first | rfl | assumption | fail "no ixn")
local macro_rules | `(tactic| fail "nb") => `(tactic| first | assumption | exact nb_tup | exact nb_nil | exact nb_ints | exact nb_refs | exact nb_ins | exact nb_dT | exact nb_frz | fail "no nb")
local macro_rules | `(tactic| fail "ne") => `(tactic| first | assumption | exact Ne.symm (by assumption) | exact ne_of_none (by assumption) (by assumption) | exact (ne_of_none (by assumption) (by assumption)).symm | exact ne_of (by assumption) (by assumption) (by intro q; cases q) | exact ne_of (by assumption) (by assumption) (by simp) | fail "no ne")
local macro_rules | `(tactic| fail "hp") => `(tactic| first | assumption | exact upd_same | (refine' Tk.get (by assumption) ?k1; (case k1 => fail "tk")) | (with_reducible refine' upd_new ?h1 ?n1; (case n1 => assumption); (case h1 => fail "hp")) | (refine' Same.get (by assumption) ?h1; (case h1 => fail "hp")) | (refine' Kp.get (by assumption) (by fail "bx") ?h1 ?d1; (case h1 => fail "hp"); (case d1 => fail "nb")) | (with_reducible refine' upd_oth ?h1 ?n1; (case n1 => fail "ne"); (case h1 => fail "hp")) | (with_reducible refine' upd_oth ?h1 ?n1; (case h1 => fail "hp"); (case n1 => fail "ne")) | fail "no hp")
local macro_rules | `(tactic| fail "bx") => `(tactic| first | assumption | (with_reducible refine' BoxOk.new ?h1 ?n1; (case n1 => assumption); (case h1 => fail "bx")) | (refine' BoxOk.same (by assumption) ?h1; (case h1 => fail "bx")) | (with_reducible refine' BoxOk.mut ?h1 ?h2 ?n1; (case n1 => assumption); (case h2 => assumption); (case h1 => fail "bx")) | fail "no bx")
local macro_rules | `(tactic| fail "kp") => `(tactic| first | assumption | exact Kp.refl | (with_reducible refine' Kp.at ?h1; (case h1 => fail "kp")) | (with_reducible refine' Kp.new ?h1 ?n1; (case n1 => assumption); (case h1 => fail "kp")) | (with_reducible refine' Kp.mut ?h1 ?n1; (case n1 => assumption); (case h1 => fail "kp")) | (refine' Kp.tr (by assumption) ?h1; (case h1 => fail "kp")) | (refine' Kp.tr (Kp.of (by assumption)) ?h1; (case h1 => fail "kp")) | fail "no kp")
local macro_rules | `(tactic| fail "ite") => `(tactic| first | refine iteT ?_ | refine iteF ?_)
local macro_rules | `(tactic| fail "tt") => `(tactic| first | rfl | exact decide_eq_true (by first | rfl | omega | assumption) | exact decide_eq_true (congrArg V.int (by first | rfl | omega)) | fail "no tt")
local macro_rules | `(tactic| fail "cv") => `(tactic| first | exact .ty _ | exact .own _)
local macro_rules | `(tactic| fail "tx") => `(tactic| first | exact .base (.int _) | exact .base (.bl _) | exact .base .non | exact .base (.lst (by fail "hp")) | exact .base (.tup (by fail "hp")) | fail "no tx")
local macro_rules | `(tactic| fail "dead") => `(tactic| (exfalso; first | omega | contradiction | simp_all))
local macro_rules | `(tactic| fail "dp") => `(tactic| first | exact .tup (SqT.of (by fail "hp")) (.cons (.int _) (.cons (.int _) .nil)) | exact .lst (SqL.of (by fail "hp")) (dpPrs (by fail "pr")) | exact .lst (SqL.of (by fail "hp")) (dpInts _) | exact .lst (SqL.of (by fail "hp")) .nil | fail "no dp")
local macro_rules | `(tactic| fail "shp") => `(tactic| first | assumption | exact prD_shaped _ | exact PySem.W.ke_shaped_ints _ | rfl | fail "no shp")
local macro_rules | `(tactic| fail "pr") => `(tactic| first | assumption | exact PrT.mono (by assumption) (by fail "tk") | fail "no pr")
local macro_rules | `(tactic| fail "tk") => `(tactic| first | assumption | exact Tk.refl | (with_reducible refine' Tk.new ?h1 ?n1; (case n1 => assumption); (case h1 => fail "tk")) | (refine' Tk.tr (Kp.tk (by assumption) (by fail "bx")) ?h1; (case h1 => fail "tk")) | (refine' Tk.tr (Same.tk (by assumption)) ?h1; (case h1 => fail "tk")) | (with_reducible refine' Tk.lst ?h1 ?n1; (case n1 => fail "hp"); (case h1 => fail "tk")) | fail "no tk")
local macro_rules | `(tactic| fail "lk") => `(tactic| first | exact netF_count _ _ | exact netF_links _ _ | exact netF_no _ _ (by decide +kernel) (by decide +kernel) | fail "no lk")
local macro_rules | `(tactic| fail "kt") => `(tactic| first | exact upd_same | assumption | fail "hp")
local macro_rules | `(tactic| fail "na") => `(tactic| first | assumption | (with_reducible refine' NetAt.new ?h1 ?n1; (case n1 => assumption); (case h1 => fail "na")) | (refine' NetAt.same (by assumption) ?h1; (case h1 => fail "na")) | (refine' NetAt.kp (by assumption) (by fail "bx") ?h1; (case h1 => fail "na")) | (with_reducible refine' NetAt.lst ?h1 ?n1; (case n1 => fail "hp"); (case h1 => fail "na")) | fail "no na")
local macro_rules | `(tactic| fail "mono") => `(tactic| first | exact fun _ _ _ _ h q => h _ _ q | exact fun _ _ _ _ h q => (let ⟨v, e, z⟩ := q; ⟨v, e, h _ _ z⟩) | exact fun _ _ _ _ h q => (let ⟨v, e, u, f, z⟩ := q; ⟨v, e, u, f, h _ _ z⟩) | fail "no mono")
local macro_rules | `(tactic| fail "sm") => `(tactic| first | assumption | exact Same.refl _ | (with_reducible refine' Same.new ?h1 ?n1; (case n1 => assumption); (case h1 => fail "sm")) | (refine' Same.tr (by assumption) ?h1; (case h1 => fail "sm")) | fail "no sm")
local macro_rules | `(tactic| fail "fld") => `(tactic| first | (show 0 < 1000; decide) | (show 1 < 1000; decide) | fail "no fld")

section
variable {P : Program} {w : World} {K : PySem.W.Frag} {mg : Str → Option Value} {base : Heap} {CN CI CU CL CS : Addr} {mc mu : Value}

theorem ix_listB {X : Cx} {K : PySem.W.Frag} (hK : X.K = K) : IxR X (rIxL K) := by
  subst hK
  exact ix_list
theorem ix_tupB {X : Cx} {K : PySem.W.Frag} (hK : X.K = K) : IxR X (rIxT K) := by
  subst hK
  exact ix_tup
abbrev sNetIs : Stmt := top 39
theorem scNetIs : FnScope ["box", "net", "count", "table", "due", "told", "x", "way", "y"] ["box", "net", "count", "table"] (defScope sNetIs) := ⟨rfl, rfl, rfl, by decide +kernel, rfl, by decide +kernel, by decide +kernel⟩
def spNetIs (CN : Addr) : Sp := fun vs H Q _ => ∃ (b bc a : Addr) (n : Nat) (R : Rel) (t : Addr) (M : List Int), vs = [.ref b, .ref a, .int (n : Int), .ref t] ∧ BoxOk H b bc ∧ NetAt CN H a n R ∧ H t = some (.lst (M.map V.int)) ∧ IsTab n M R ∧ ∀ H', Kp b H H' → BoxOk H' b bc → Q (.bl true) H'
theorem ok_NetIs (D : Df K mg "_law_net_is" sNetIs ["box", "net", "count", "table"]) (T : LTx K mg CN CI CU CL CS mc mu) (GTies : C8.Cal P w K mg base 1 "_law_ties" spTies []) (GIsInt : C8.Cal P w K mg base 1 "_law_is_int" spIsInt []) (PLinks : PropC P w K mg base 1 CN "links" (spLinks CN)) (GPairsAre : C8.Cal P w K mg base 3 "_law_pairs_are" spPairsAre []) (GRowIs : C8.Cal P w K mg base 7 "_law_row_is" (spRowIs CN) []) (GUnknown : C8.Cal P w K mg base 7 "_law_unknown" (spUnknown CN) []) (GStranger : C8.Cal P w K mg base 3 "_law_stranger" spStranger []) (GHas : C8.Cal P w K mg base 6 "_law_has" (spHasAll CN) []) : C8.Cal P w K mg base 9 "_law_net_is" (spNetIs CN) [] := by
  obtain ⟨f, fd, F, hm, hb⟩ := D
  refine ⟨f, fd, ["box", "net", "count", "table"], [], F.ok scNetIs (fun vs H Q E h => ?_) (fun cdv A outer s H vs Q E hr h => ?_), hm, F.kp, hb, .nil⟩
  · obtain ⟨b, bc, a, n, R, t, M, rfl, bx0, na, ht, tb, kQ⟩ := h
    rfl
  · obtain ⟨b, bc, a, n, R, t, M, rfl, bx0, na, ht, tb, kQ⟩ := h
    have b1 := na.b1
    have b2 := na.b2
    obtain ⟨⟨dx, d, ha, hd⟩, _, _, ir⟩ := id na
    refine ⟨_, (pss_cons (ps_set (i := 4) scNetIs.nd rfl (Or.inl rfl) (C8.pe_c GTies hr (by decide) (by rfl) (pa_cons (pv 2) (pa_cons (pv 3) pa_nil))))
      (pss_cons (ps_if (PW.pt (pw_or (pt_not (pt_val (C8.pe_c GIsInt hr (by decide) (by rfl) (pa_cons (pe_fld (pv 1) (by rfl)) pa_nil)))) (pw_or1 (pt_cmpR op_ne (pe_fld (pv 1) (by rfl)) (pv 2) (nomark _)))))
        (pss_one (ps_ret pe_bl))
        pss_nil)
      (pss_cons (ps_set (i := 5) scNetIs.nd rfl (Or.inl rfl) (pe_pr PLinks hr (by decide) (pv 1)))
      (pss_cons (ps_if (pt_not (pt_val (C8.pe_c GPairsAre hr (by decide) (by rfl) (pa_cons (pv 5) (pa_cons (pv 4) pa_nil)))))
        (pss_one (ps_ret pe_bl))
        pss_nil)
      (pss_cons (ps_expr (pe_bm0 PySem.F.plainAttrs_list PySem.F.slot_list_reverse PySem.F.type_list_reverse mt_reverse (pv 5)))
      (pss_cons (ps_expr (pe_bm PySem.F.plainAttrs_list PySem.F.slot_list_append PySem.F.type_list_append mt_append (pv 5) (pa_cons (pe_tup (pa_cons pe_int (pa_cons pe_int pa_nil))) pa_nil)))
      (pss_cons (ps_if (pt_not (pt_val (C8.pe_c GPairsAre hr (by decide) (by rfl) (pa_cons (pe_pr PLinks hr (by decide) (pv 1)) (pa_cons (pv 4) pa_nil)))))
        (pss_one (ps_ret pe_bl))
        pss_nil)
      (pss_cons (ps_for PassesOwn.never rfl (pi_range1 rfl T.range (pa_cons (pv 2) pa_nil)) (pg_name (i := 6) scNetIs.nd rfl (Or.inr rfl))
        (pss_cons (ps_if (pt_not (pt_val (C8.pe_c GRowIs hr (by decide) (by rfl) (pa_cons (pv 1) (pa_cons pe_int (pa_cons (pv 6) (pa_cons (pe_lc (own := [("y", 8)]) (g := gName 8) rfl scNetIs.nd (pi_range1 rfl T.range (pa_cons (pv 2) pa_nil)) (blkOk_by (N := ["box", "net", "count", "table", "due", "told", "x", "way", "y"]) (sc := defScope sNetIs) (by decide +kernel)) (fun _ _ _ _ _ => (pg_name (i := 8) scNetIs.nd rfl (Or.inl rfl))) (fun _ _ _ _ _ => (pts_one (pt_cmpR op_eq (pe_ix (ix_listB (K := K) (by rfl)) (pv 3) (pe_op op_add (pe_op op_mul (pv 8) (pv 2)) (pv 6)) (fun _ _ => rfl)) pe_int (nomark _)))) (fun _ _ _ _ _ => (pv 8))) pa_nil)))))))
          (pss_one (ps_ret pe_bl))
          pss_nil)
        (pss_one (ps_if (pt_not (pt_val (C8.pe_c GRowIs hr (by decide) (by rfl) (pa_cons (pv 1) (pa_cons pe_int (pa_cons (pv 6) (pa_cons (pe_lc (own := [("y", 8)]) (g := gName 8) rfl scNetIs.nd (pi_range1 rfl T.range (pa_cons (pv 2) pa_nil)) (blkOk_by (N := ["box", "net", "count", "table", "due", "told", "x", "way", "y"]) (sc := defScope sNetIs) (by decide +kernel)) (fun _ _ _ _ _ => (pg_name (i := 8) scNetIs.nd rfl (Or.inl rfl))) (fun _ _ _ _ _ => (pts_one (pt_cmpR op_eq (pe_ix (ix_listB (K := K) (by rfl)) (pv 3) (pe_op op_add (pe_op op_mul (pv 6) (pv 2)) (pv 8)) (fun _ _ => rfl)) pe_int (nomark _)))) (fun _ _ _ _ _ => (pv 8))) pa_nil)))))))
          (pss_one (ps_ret pe_bl))
          pss_nil))))
      (pss_cons (ps_for PassesOwn.never rfl (pi_range1 rfl T.range (pa_cons pe_int pa_nil)) (pg_name (i := 7) scNetIs.nd rfl (Or.inl rfl))
        (pss_one (ps_if (pt_not (pt_val (C8.pe_c GUnknown hr (by decide) (by rfl) (pa_cons (pv 1) (pa_cons (pv 7) (pa_cons (C8.pe_c GStranger hr (by decide) (by rfl) (pa_cons (pv 0) (pa_cons (pv 2) pa_nil))) pa_nil))))))
          (pss_one (ps_ret pe_bl))
          pss_nil)))
      (pss_one (ps_ret (C8.pe_c GHas hr (by decide) (by rfl) (pa_cons (pv 0) (pa_cons (pv 1) (pa_cons (pv 2) (pa_cons (pv 3) pa_nil)))))))))))))))), ?_⟩
    have lt := ties_len R b2
    -- due = _law_ties(count, table)
    refine ⟨_, rfl, _, rfl, _, _, _, _, rfl, (by fail "hp"), (by assumption), (by fail "om"), fun l1 as1 H1 nl1 sm1 hl1 pl1 => ?_⟩
    -- if not _law_is_int(net.count) or net.count != count:
    refine ⟨_, rfl, _, _, _, _, _, rfl, (by fail "hp"), T.cl, T.n_count, (by fail "lk"), _, rfl, ⟨_, rfl, ?_⟩⟩
    fail "ite"
    refine ⟨_, rfl, _, _, _, _, _, rfl, (by fail "hp"), T.cl, T.n_count, (by fail "lk"), _, rfl, rfl, _, rfl, ?_⟩
    refine ifNeI (fun g3 => ?_) (fun g3 => ?_)
    · -- return False
      exact absurd rfl g3
    · -- told = net.links
      refine ⟨_, rfl, _, _, _, rfl, (by fail "hp"), _, _, _, rfl, (by fail "na"), fun l4 as4 H4 nl4 sm4 hl4 pl4 => ?_⟩
      -- if not _law_pairs_are(told, due):
      refine ⟨_, rfl, _, rfl, _, _, _, _, _, rfl, (by fail "hp"), (by fail "hp"), (by fail "pr"), (by fail "pr"), (by fail "om"), ⟨_, rfl, ?_⟩⟩
      fail "ite"
      -- told.reverse()
      refine ⟨_, rfl, .inl ⟨rfl, _, SqL.of (by fail "hp")⟩, _, _, rfl, rfl, (by fail "hp"), ?_⟩
      have lt := ties_len R b2
      have l4l := pl4.1
      -- told.append((0, 0))
      refine ⟨_, rfl, .inl ⟨rfl, _, SqL.of (by fail "hp")⟩, (by fail "sz"), fun p6 np6 => ⟨_, _, _, rfl, rfl, (by fail "hp"), Evl.sz_lt (by rw [List.length_reverse, List.length_map, pl4.1]; omega), ?_⟩⟩
      have smT : Same H1 (upd (upd (upd H4 l4 (.lst (as4.map V.ref).reverse)) p6 (.tup [.int 0, .int 0])) l4 (.lst ((as4.map V.ref).reverse ++ [.ref p6]))) := Same.mut (Same.new (Same.mut sm4 nl4) np6) nl4
      have naT := (na.same sm1).same smT
      have haT := smT _ _ (sm1 _ _ ha)
      have hlT := smT _ _ hl1
      have plT := PrT.mono pl1 (Same.tk smT)
      -- if not _law_pairs_are(net.links, due):
      refine ⟨_, rfl, _, _, _, rfl, (by fail "hp"), _, _, _, rfl, (by fail "na"), fun l8 as8 H8 nl8 sm8 hl8 pl8 => ⟨_, rfl, _, _, _, _, _, rfl, (by fail "hp"), (by fail "hp"), (by fail "pr"), (by fail "pr"), (by fail "om"), ⟨_, rfl, ?_⟩⟩⟩
      fail "ite"
      have smA : Same H H1 := sm1
      have kpX : Same H H8 := sm1.trans ((Same.mut (Same.new (Same.mut sm4 nl4) np6) nl4).trans sm8)
      have naX := na.same kpX
      have htX := kpX _ _ ht
      -- for x in range(count):
      refine ⟨_, rfl, _, rfl, (by fail "om"), (by fail "om"), for_range (fun i σ H' => Same H8 H' ∧ ∃ v u, σ = [some (.ref b), some (.ref a), some (.int (n : Int)), some (.ref t), some (.ref l1), some (.ref l4), v, u, none]) ⟨Same.refl _, none, none, rfl⟩ ?_ ?_⟩
      · rintro i σ H2 hi ⟨sm2, v, u, rfl⟩
        have hx : i < n := by omega
        have na2 := naX.same sm2
        have ht2 := sm2 _ _ htX
        -- if not _law_row_is(net, 0, x, [y for y in range(count) if table[y * count + x] == 1]):
        refine ⟨_, rfl, _, rfl, _, rfl, _, rfl, (by fail "om"), (by fail "om"), fun D1 nD1 => lc_range (fun j H' => Same H2 H' ∧ H' D1 = some (.lst ((colI R i j).map V.int))) ⟨Same.new (Same.refl _) nD1, upd_same⟩ (fun j H' hj z => by
      obtain ⟨sm, hl⟩ := z
      have hy : j < n := by omega
      have lb : (colI R i j).length ≤ j := colI_len R i j
      have ht2 := sm _ _ (ht2)
      have ixf := tab_at tb (x := (0 : Int) + (j : Int)) (y := (0 : Int) + (i : Int)) (by omega)
      refine ⟨rfl, _, rfl, _, rfl, _, rfl, _, _, rfl, rfl, (by fail "mul"), _, rfl, _, _, rfl, rfl, _, _, _, _, rfl, rfl, SqL.of ht2, ixf, rfl, _, rfl, ?_⟩
      rw [bit_one]
      have e1 : ((0 : Int) + (i : Int)).toNat = i := by omega
      have e2 : ((0 : Int) + (j : Int)).toNat = j := by omega
      rw [e1, e2]
      refine ifB (fun g => ?_) fun g => ?_
      · refine ⟨_, rfl, _, hl, (by fail "szl"), Same.mut sm nD1, ?_⟩
        rw [upd_same, colI_yes g, List.map_append, Int.zero_add]
        rfl
      · refine ⟨sm, ?_⟩
        rw [colI_no g]
        exact hl) (fun H' z => ?_)⟩
        obtain ⟨smD1, hlD1⟩ := z
        have hrow : H' D1 = some (.lst ((rowW R 0 ((0 : Int) + (i : Int)).toNat n).map V.int)) := by
          rw [hlD1, show ((0 : Int) + (i : Int)).toNat = i by omega, Int.toNat_natCast]
          rfl
        have htD1 := smD1 _ _ (ht2)
        have naD1 := NetAt.same smD1 na2
        refine ⟨_, _, _, _, _, _, rfl, (by fail "na"), (by fail "om"), (by fail "hp"), fun H9 sm9 => ⟨_, rfl, ?_⟩⟩
        fail "ite"
        have sm29 : Same H2 H9 := smD1.trans sm9
        have ht9 := sm29 _ _ ht2
        have na9 := na2.same sm29
        -- if not _law_row_is(net, 1, x, [y for y in range(count) if table[x * count + y] == 1]):
        refine ⟨_, rfl, _, rfl, _, rfl, _, rfl, (by fail "om"), (by fail "om"), fun D2 nD2 => lc_range (fun j H' => Same H9 H' ∧ H' D2 = some (.lst ((rowI R i j).map V.int))) ⟨Same.new (Same.refl _) nD2, upd_same⟩ (fun j H' hj z => by
      obtain ⟨sm, hl⟩ := z
      have hy : j < n := by omega
      have lb : (rowI R i j).length ≤ j := colI_len (fun a b => R b a) i j
      have ht2 := sm _ _ (ht9)
      have ixf := tab_at tb (x := (0 : Int) + (i : Int)) (y := (0 : Int) + (j : Int)) (by omega)
      refine ⟨rfl, _, rfl, _, rfl, _, rfl, _, _, rfl, rfl, (by fail "mul"), _, rfl, _, _, rfl, rfl, _, _, _, _, rfl, rfl, SqL.of ht2, ixf, rfl, _, rfl, ?_⟩
      rw [bit_one]
      have e1 : ((0 : Int) + (i : Int)).toNat = i := by omega
      have e2 : ((0 : Int) + (j : Int)).toNat = j := by omega
      rw [e1, e2]
      refine ifB (fun g => ?_) fun g => ?_
      · refine ⟨_, rfl, _, hl, (by fail "szl"), Same.mut sm nD2, ?_⟩
        rw [upd_same, rowI_col, rowI_col, colI_yes (R := fun a b => R b a) g, List.map_append, Int.zero_add]
        rfl
      · refine ⟨sm, ?_⟩
        rw [rowI_col, colI_no (R := fun a b => R b a) g, ← rowI_col]
        exact hl) (fun H' z => ?_)⟩
        obtain ⟨smD2, hlD2⟩ := z
        have hrow : H' D2 = some (.lst ((rowW R 1 ((0 : Int) + (i : Int)).toNat n).map V.int)) := by
          rw [hlD2, show ((0 : Int) + (i : Int)).toNat = i by omega, Int.toNat_natCast]
          rfl
        have htD2 := smD2 _ _ (ht9)
        have naD2 := NetAt.same smD2 na9
        refine ⟨_, _, _, _, _, _, rfl, (by fail "na"), (by fail "om"), (by fail "hp"), fun H10 sm10 => ⟨_, rfl, ?_⟩⟩
        fail "ite"
        exact ⟨((sm2.trans smD1).trans sm9).trans (smD2.trans sm10), _, _, rfl⟩
      · rintro σ H2 ⟨sm2, v, u, rfl⟩
        -- for way in range(2):
        refine ⟨_, rfl, (by fail "om"), (by fail "om"), for_range (fun i σ H' => (Kp b H2 H' ∧ BoxOk H' b bc) ∧ ∃ v u, σ = [some (.ref b), some (.ref a), some (.int (n : Int)), some (.ref t), some (.ref l1), some (.ref l4), v, u, none]) ⟨⟨Kp.refl, BoxOk.same (kpX.trans sm2) bx0⟩, _, _, rfl⟩ ?_ ?_⟩
        · rintro i σ H3 hi ⟨⟨kp3, bx3⟩, v, u, rfl⟩
          have na3 := (naX.same sm2).kp kp3 (BoxOk.same (kpX.trans sm2) bx0)
          -- if not _law_unknown(net, way, _law_stranger(box, count)):
          refine ⟨_, rfl, _, rfl, _, rfl, _, rfl, _, _, _, rfl, (by fail "bx"), (by fail "om"), fun d12 H12 da12 kp12 bx12 => ⟨_, _, _, _, _, rfl, (by fail "na"), (by omega), fun H11 sm11 => ⟨_, rfl, ?_⟩⟩⟩
          fail "ite"
          exact ⟨⟨Kp.trans (Kp.trans kp3 kp12) (Kp.of sm11), BoxOk.same sm11 bx12⟩, _, _, rfl⟩
        · rintro σ H3 ⟨⟨kp3, bx3⟩, v, u, rfl⟩
          have na3 := (naX.same sm2).kp kp3 (BoxOk.same (kpX.trans sm2) bx0)
          have ht3 := kp3.get (BoxOk.same (kpX.trans sm2) bx0) (sm2 _ _ htX) nb_ints
          -- return _law_has(box, net, count, table)
          refine ⟨_, rfl, _, rfl, _, rfl, _, rfl, _, _, _, _, _, _, _, rfl, (by fail "bx"), (by fail "na"), (by fail "hp"), (by assumption), fun H13 kp13 bx13 => ?_⟩
          exact kQ _ (Kp.trans (Kp.trans (Kp.of (kpX.trans sm2)) kp3) kp13) bx13
end
end K00

end
section
set_option Elab.async false
set_option linter.all false
set_option maxRecDepth 100000
set_option maxHeartbeats 800000
namespace K00
open PySem L2 Kit KR KX L2H
local macro_rules | `(tactic| fail "om") => `(tactic| first | omega | (simp only [List.length_map, List.length_append, List.length_cons, List.length_nil]; omega) | (simp only [List.length_map, List.length_append, List.length_cons, List.length_nil] at *; omega) | assumption | decide | fail "no om")
local macro_rules | `(tactic| fail "nz") => `(tactic| first | decide | omega | fail "no nz")
local macro_rules | `(tactic| fail "dv") => `(tactic| exact ⟨by first | decide | omega, by first | decide | omega⟩)
local macro_rules | `(tactic| fail "mul") => `(tactic| first | exact .inr ⟨by decide, by decide⟩ | exact .inl ⟨by decide, by decide⟩ | exact mulF (by decide) (by decide) | exact .inl ⟨by omega, by omega⟩ | exact .inr ⟨by omega, by omega⟩ | fail "no mul")
local macro_rules | `(tactic| fail "sz") => `(tactic| first | assumption | exact Nat.zero_le _ | (show 1 ≤ sizeLine; decide) | (show 2 ≤ sizeLine; decide) | (show 3 ≤ sizeLine; decide) | (show 4 ≤ sizeLine; decide) | (show 5 ≤ sizeLine; decide) | exact Evl.sz_of (by omega) | (refine Evl.sz_of ?_; simp only [List.length_append, List.length_map, List.length_cons, List.length_nil]; omega) | fail "no sz")
local macro_rules | `(tactic| fail "szl") => `(tactic| first | exact Evl.sz_lt (by omega) | (refine Evl.sz_lt ?_; simp only [List.length_append, List.length_map, List.length_cons, List.length_nil]; omega) | fail "no szl")
local macro_rules | `(tactic| fail "ix") => `(tactic| first | assumption | exact ix0 | exact ix1 | exact ix2 | exact at_ref (by assumption) (by omega) | exact at_int (by assumption) (by omega) | exact at_drawn (by assumption) (by assumption) | rfl | fail "no ix")
local macro_rules | `(tactic| fail "ixn") => `(tactic| first | rfl | assumption | fail "no ixn")
local macro_rules | `(tactic| fail "nb") => `(tactic| first | assumption | exact nb_tup | exact nb_nil | exact nb_ints | exact nb_refs | exact nb_ins | exact nb_dT | exact nb_frz | fail "no nb")
local macro_rules | `(tactic| fail "ne") => `(tactic| first | assumption | exact Ne.symm (by assumption) | exact ne_of_none (by assumption) (by assumption) | exact (ne_of_none (by assumption) (by assumption)).symm | exact ne_of (by assumption) (by assumption) (by intro q; cases q) | exact ne_of (by assumption) (by assumption) (by simp) | fail "no ne")
local macro_rules | `(tactic| fail "hp") => `(tactic| first | assumption | exact upd_same | (refine' Tk.get (by assumption) ?k1; (case k1 => fail "tk")) | (with_reducible refine' upd_new ?h1 ?n1; (case n1 => assumption); (case h1 => fail "hp")) | (refine' Same.get (by assumption) ?h1; (case h1 => fail "hp")) | (refine' Kp.get (by assumption) (by fail "bx") ?h1 ?d1; (case h1 => fail "hp"); (case d1 => fail "nb")) | (with_reducible refine' upd_oth ?h1 ?n1; (case n1 => fail "ne"); (case h1 => fail "hp")) | (with_reducible refine' upd_oth ?h1 ?n1; (case h1 => fail "hp"); (case n1 => fail "ne")) | fail "no hp")
local macro_rules | `(tactic| fail "bx") => `(tactic| first | assumption | (with_reducible refine' BoxOk.new ?h1 ?n1; (case n1 => assumption); (case h1 => fail "bx")) | (refine' BoxOk.same (by assumption) ?h1; (case h1 => fail "bx")) | (with_reducible refine' BoxOk.mut ?h1 ?h2 ?n1; (case n1 => assumption); (case h2 => assumption); (case h1 => fail "bx")) | fail "no bx")
local macro_rules | `(tactic| fail "kp") => `(tactic| first | assumption | exact Kp.refl | (with_reducible refine' Kp.at ?h1; (case h1 => fail "kp")) | (with_reducible refine' Kp.new ?h1 ?n1; (case n1 => assumption); (case h1 => fail "kp")) | (with_reducible refine' Kp.mut ?h1 ?n1; (case n1 => assumption); (case h1 => fail "kp")) | (refine' Kp.tr (by assumption) ?h1; (case h1 => fail "kp")) | (refine' Kp.tr (Kp.of (by assumption)) ?h1; (case h1 => fail "kp")) | fail "no kp")
local macro_rules | `(tactic| fail "ite") => `(tactic| first | refine iteT ?_ | refine iteF ?_)
local macro_rules | `(tactic| fail "tt") => `(tactic| first | rfl | exact decide_eq_true (by first | rfl | omega | assumption) | exact decide_eq_true (congrArg V.int (by first | rfl | omega)) | fail "no tt")
local macro_rules | `(tactic| fail "cv") => `(tactic| first | exact .ty _ | exact .own _)
local macro_rules | `(tactic| fail "tx") => `(tactic| first | exact .base (.int _) | exact .base (.bl _) | exact .base .non | exact .base (.lst (by fail "hp")) | exact .base (.tup (by fail "hp")) | fail "no tx")
local macro_rules | `(tactic| fail "dead") => `(tactic| (exfalso; first | omega | contradiction | simp_all))
local macro_rules | `(tactic| fail "dp") => `(tactic| first | exact .tup (SqT.of (by fail "hp")) (.cons (.int _) (.cons (.int _) .nil)) | exact .lst (SqL.of (by fail "hp")) (dpPrs (by fail "pr")) | exact .lst (SqL.of (by fail "hp")) (dpInts _) | exact .lst (SqL.of (by fail "hp")) .nil | fail "no dp")
local macro_rules | `(tactic| fail "shp") => `(tactic| first | assumption | exact prD_shaped _ | exact PySem.W.ke_shaped_ints _ | rfl | fail "no shp")
local macro_rules | `(tactic| fail "pr") => `(tactic| first | assumption | exact PrT.mono (by assumption) (by fail "tk") | fail "no pr")
local macro_rules | `(tactic| fail "tk") => `(tactic| first | assumption | exact Tk.refl | (with_reducible refine' Tk.new ?h1 ?n1; (case n1 => assumption); (case h1 => fail "tk")) | (refine' Tk.tr (Kp.tk (by assumption) (by fail "bx")) ?h1; (case h1 => fail "tk")) | (refine' Tk.tr (Same.tk (by assumption)) ?h1; (case h1 => fail "tk")) | (with_reducible refine' Tk.lst ?h1 ?n1; (case n1 => fail "hp"); (case h1 => fail "tk")) | fail "no tk")
local macro_rules | `(tactic| fail "lk") => `(tactic| first | exact netF_count _ _ | exact netF_links _ _ | exact netF_no _ _ (by decide +kernel) (by decide +kernel) | fail "no lk")
local macro_rules | `(tactic| fail "kt") => `(tactic| first | exact upd_same | assumption | fail "hp")
local macro_rules | `(tactic| fail "na") => `(tactic| first | assumption | (with_reducible refine' NetAt.new ?h1 ?n1; (case n1 => assumption); (case h1 => fail "na")) | (refine' NetAt.same (by assumption) ?h1; (case h1 => fail "na")) | (refine' NetAt.kp (by assumption) (by fail "bx") ?h1; (case h1 => fail "na")) | (with_reducible refine' NetAt.lst ?h1 ?n1; (case n1 => fail "hp"); (case h1 => fail "na")) | fail "no na")
local macro_rules | `(tactic| fail "mono") => `(tactic| first | exact fun _ _ _ _ h q => h _ _ q | exact fun _ _ _ _ h q => (let ⟨v, e, z⟩ := q; ⟨v, e, h _ _ z⟩) | exact fun _ _ _ _ h q => (let ⟨v, e, u, f, z⟩ := q; ⟨v, e, u, f, h _ _ z⟩) | fail "no mono")
local macro_rules | `(tactic| fail "sm") => `(tactic| first | assumption | exact Same.refl _ | (with_reducible refine' Same.new ?h1 ?n1; (case n1 => assumption); (case h1 => fail "sm")) | (refine' Same.tr (by assumption) ?h1; (case h1 => fail "sm")) | fail "no sm")
local macro_rules | `(tactic| fail "fld") => `(tactic| first | (show 0 < 1000; decide) | (show 1 < 1000; decide) | fail "no fld")

section
variable {P : Program} {w : World} {K : PySem.W.Frag} {mg : Str → Option Value} {base : Heap} {CN CI CU CL CS : Addr} {mc mu : Value}

abbrev sNamed : Stmt := top 44
theorem scNamed : FnScope ["box", "count", "whole", "way", "table", "made"] ["box", "count"] (defScope sNamed) := ⟨rfl, rfl, rfl, by decide +kernel, rfl, by decide +kernel, by decide +kernel⟩
def spNamedL : Sp := fun vs H Q _ => ∃ (b bc : Addr) (n : Nat), vs = [.ref b, .int (n : Int)] ∧ BoxOk H b bc ∧ 1 ≤ n ∧ n ≤ 24 ∧ ∀ H', Kp b H H' → BoxOk H' b bc → Q (.bl true) H'
theorem ok_Named (D : Df K mg "_law_named" sNamed ["box", "count"]) (T : LTx K mg CN CI CU CL CS mc mu) (GDraw : C8.Cal P w K mg base 1 "_law_draw" spDraw []) (GNamedTable : C8.Cal P w K mg base 1 "_law_named_table" spNamedTable []) (GMade : C8.Cal P w K mg base 12 "_law_made" (spMade CN) []) (PLinks : PropC P w K mg base 1 CN "links" (spLinks CN)) (GTies : C8.Cal P w K mg base 1 "_law_ties" spTies []) (GPairsAre : C8.Cal P w K mg base 3 "_law_pairs_are" spPairsAre []) (GIsInt : C8.Cal P w K mg base 1 "_law_is_int" spIsInt []) (GNetIs : C8.Cal P w K mg base 9 "_law_net_is" (spNetIs CN) []) : C8.Cal P w K mg base 13 "_law_named" (spNamedL) [] := by
  obtain ⟨f, fd, F, hm, hb⟩ := D
  refine ⟨f, fd, ["box", "count"], [], F.ok scNamed (fun vs H Q E h => ?_) (fun cdv A outer s H vs Q E hr h => ?_), hm, F.kp, hb, .nil⟩
  · obtain ⟨b, bc, n, rfl, bx0, b1, b2, kQ⟩ := h
    rfl
  · obtain ⟨b, bc, n, rfl, bx0, b1, b2, kQ⟩ := h
    refine ⟨_, (pss_cons (ps_set (i := 2) scNamed.nd rfl (Or.inl rfl) (pe_op op_add pe_int (C8.pe_c GDraw hr (by decide) (by rfl) (pa_cons (pv 0) (pa_cons pe_int pa_nil)))))
      (pss_cons (ps_for PassesOwn.never rfl (pi_range2 rfl T.range (pa_cons pe_int (pa_cons pe_int pa_nil))) (pg_name (i := 3) scNamed.nd rfl (Or.inl rfl))
        (pss_cons (ps_set (i := 4) scNamed.nd rfl (Or.inl rfl) (C8.pe_c GNamedTable hr (by decide) (by rfl) (pa_cons (pv 3) (pa_cons (pv 1) pa_nil))))
        (pss_cons (ps_set (i := 5) scNamed.nd rfl (Or.inl rfl) (C8.pe_c GMade hr (by decide) (by rfl) (pa_cons (pv 3) (pa_cons (pv 1) (pa_cons (pe_lst pa_nil) pa_nil)))))
        (pss_cons (ps_if (PW.pt (pw_or (pt_not (pt_val (pe_ix ix_tup (pv 5) pe_int (fun _ _ => rfl)))) (pw_or1 (pt_not (pt_val (C8.pe_c GPairsAre hr (by decide) (by rfl) (pa_cons (pe_pr PLinks hr (by decide) (pe_ix ix_tup (pv 5) pe_int (fun _ _ => rfl))) (pa_cons (C8.pe_c GTies hr (by decide) (by rfl) (pa_cons (pv 1) (pa_cons (pv 4) pa_nil))) pa_nil))))))))
          (pss_one (ps_ret pe_bl))
          pss_nil)
        (pss_cons (ps_if (PW.pt (pw_or (pt_not (pt_val (C8.pe_c GIsInt hr (by decide) (by rfl) (pa_cons (pe_fld (pe_ix ix_tup (pv 5) pe_int (fun _ _ => rfl)) (by rfl)) pa_nil)))) (pw_or1 (pt_cmpR op_ne (pe_fld (pe_ix ix_tup (pv 5) pe_int (fun _ _ => rfl)) (by rfl)) (pv 1) (nomark _)))))
          (pss_one (ps_ret pe_bl))
          pss_nil)
        (pss_one (ps_if (PW.pt (pw_and (pt_cmpR op_eq (pv 3) (pv 2) (nomark _)) (pw_and1 (pt_not (pt_val (C8.pe_c GNetIs hr (by decide) (by rfl) (pa_cons (pv 0) (pa_cons (pe_ix ix_tup (pv 5) pe_int (fun _ _ => rfl)) (pa_cons (pv 1) (pa_cons (pv 4) pa_nil))))))))))
          (pss_one (ps_ret pe_bl))
          pss_nil)))))))
      (pss_one (ps_ret pe_bl)))), ?_⟩
    -- whole = 2 + _law_draw(box, 4)
    refine ⟨_, rfl, _, _, _, rfl, (by fail "bx"), (by fail "om"), (by fail "om"), fun d1 H1 da1 db1 kp1 bx1 => ⟨_, _, rfl, rfl, ?_⟩⟩
    -- for way in range(2, 6):
    refine ⟨_, _, rfl, ⟨by fail "om", by fail "om", by fail "om", by fail "om"⟩, for_range (fun i σ H' => (Kp b H1 H' ∧ BoxOk H' b bc) ∧ ∃ v t m, σ = [some (.ref b), some (.int (n : Int)), some (.int (2 + d1)), v, t, m]) ⟨⟨Kp.refl, bx1⟩, none, none, none, rfl⟩ ?_ ?_⟩
    · rintro i σ Hi hi ⟨⟨kpi, bxi⟩, v, t, m, rfl⟩
      have hi4 : i < 4 := by omega
      -- table = _law_named_table(way, count)
      refine ⟨_, rfl, _, rfl, _, _, rfl, (by omega), (by omega), (by omega), (by omega), fun t2 M2 H2 nt2 sm2 ht2 tb2 => ?_⟩
      -- made = _law_made(way, count, [])
      refine ⟨_, rfl, _, rfl, (by fail "sz"), fun p4 np4 => ⟨_, _, _, [], [], rfl, (by omega), (by omega), upd_same, PrT.nil, (by show 0 ≤ 500; decide), fun n3 e3 c3 d3 g3 t3 a3 H3 nt3 sm3 ht3 na3 => ?_, fun z => absurd (show (1 : Int) ≤ (n : Int) ∧ (n : Int) ≤ 24 by omega) z, fun _ _ _ _ q => absurd q (by omega)⟩⟩
      obtain rfl : n = n3 := by omega
      obtain ⟨⟨dx3, d3', ha3, hd3⟩, _, _, _⟩ := id na3
      have lt := ties_len (callR (2 + (i : Int)) n []) b2
      -- if not made[0] or not _law_pairs_are(made[1].links, _law_ties(count, table)):
      refine ⟨_, rfl, _, _, _, _, rfl, rfl, SqT.of (by fail "hp"), (by fail "ix"), _, rfl, ?_⟩
      refine nifB (fun g5 => ?_) (fun g5 => ?_)
      · fail "ite"
        -- return False
        contradiction
      · refine ⟨_, rfl, _, _, _, _, rfl, rfl, SqT.of (by fail "hp"), (by fail "ix"), _, _, _, rfl, (by fail "hp"), _, _, _, rfl, (by fail "na"), fun l8 as8 H8 nl8 sm8 hl8 pl8 => ⟨_, rfl, _, rfl, _, _, _, _, rfl, (by fail "hp"), (by assumption), (by fail "om"), fun l7 as7 H7 nl7 sm7 hl7 pl7 => ⟨_, _, _, _, _, rfl, (by fail "hp"), (by fail "hp"), (by fail "pr"), (by fail "pr"), (by fail "om"), ⟨_, rfl, ?_⟩⟩⟩⟩
        fail "ite"
        -- if not _law_is_int(made[1].count) or made[1].count != count:
        refine ⟨_, rfl, _, _, _, _, rfl, rfl, SqT.of (by fail "hp"), (by fail "ix"), _, _, _, _, _, rfl, (by fail "hp"), T.cl, T.n_count, (by fail "lk"), _, rfl, ⟨_, rfl, ?_⟩⟩
        fail "ite"
        refine ⟨_, rfl, _, _, _, _, rfl, rfl, SqT.of (by fail "hp"), (by fail "ix"), _, _, _, _, _, rfl, (by fail "hp"), T.cl, T.n_count, (by fail "lk"), _, rfl, rfl, _, rfl, ?_⟩
        refine ifNeI (fun g10 => ?_) (fun g10 => ?_)
        · -- return False
          exact absurd rfl g10
        · -- if way == whole and (not _law_net_is(box, made[1], count, table)):
          refine ⟨_, rfl, _, rfl, rfl, _, rfl, ?_⟩
          refine ifEqI (fun g11 => ?_) (fun g11 => ?_)
          · refine ⟨_, rfl, _, rfl, _, _, _, _, rfl, rfl, SqT.of (by fail "hp"), (by fail "ix"), _, rfl, _, rfl, _, _, _, _, _, _, _, rfl, (by fail "bx"), (by fail "na"), (by fail "hp"), (by assumption), fun H12 kp12 bx12 => ⟨_, rfl, ?_⟩⟩
            fail "ite"
            exact ⟨⟨Kp.trans (Kp.trans kpi (Kp.of (Same.trans (Same.trans (Same.new sm2 np4) sm3) (Same.trans sm8 sm7)))) kp12, bx12⟩, _, _, _, rfl⟩
          · fail "ite"
            exact ⟨⟨Kp.trans kpi (Kp.of (Same.trans (Same.trans (Same.new sm2 np4) sm3) (Same.trans sm8 sm7))), BoxOk.same (Same.trans (Same.trans (Same.new sm2 np4) sm3) (Same.trans sm8 sm7)) bxi⟩, _, _, _, rfl⟩
    · rintro σ Hi ⟨⟨kpi, bxi⟩, v, t, m, rfl⟩
      -- return True
      exact kQ _ (Kp.trans kp1 kpi) bxi
abbrev sCounts : Stmt := top 46
theorem scCounts : FnScope ["box", "count", "pairs", "rows", "way"] ["box", "count", "pairs"] (defScope sCounts) := ⟨rfl, rfl, rfl, by decide +kernel, rfl, by decide +kernel, by decide +kernel⟩
def spCounts : Sp := fun vs H Q _ => ∃ (b bc : Addr) (n : Nat) (l : Addr) (as : List Addr) (ps : List (Int × Int)), vs = [.ref b, .int (n : Int), .ref l] ∧ BoxOk H b bc ∧ 1 ≤ n ∧ n ≤ 24 ∧ H l = some (.lst (as.map V.ref)) ∧ PrT H as ps ∧ ps.length ≤ 60 ∧ ∀ H', Kp b H H' → BoxOk H' b bc → Q (.bl true) H'
theorem ok_Counts (D : Df K mg "_law_counts" sCounts ["box", "count", "pairs"]) (T : LTx K mg CN CI CU CL CS mc mu) (GDraw : C8.Cal P w K mg base 1 "_law_draw" spDraw []) (GSpoilt : C8.Cal P w K mg base 5 "_law_spoilt" spSpoilt []) (GWrongCount : C8.Cal P w K mg base 3 "_law_wrong_count" spWrongCount []) (GMade : C8.Cal P w K mg base 12 "_law_made" (spMade CN) []) (GRefused : C8.Cal P w K mg base 3 "_law_refused" spRefused []) : C8.Cal P w K mg base 13 "_law_counts" spCounts [] := by
  obtain ⟨f, fd, F, hm, hb⟩ := D
  refine ⟨f, fd, ["box", "count", "pairs"], [], F.ok scCounts (fun vs H Q E h => ?_) (fun cdv A outer s H vs Q E hr h => ?_), hm, F.kp, hb, .nil⟩
  · obtain ⟨b, bc, n, l, as, ps, rfl, bx0, b1, b2, hl, pa, lp, kQ⟩ := h
    rfl
  · obtain ⟨b, bc, n, l, as, ps, rfl, bx0, b1, b2, hl, pa, lp, kQ⟩ := h
    have la : as.length ≤ 500 := by
      rw [pa.1]
      omega
    refine ⟨_, (pss_cons (ps_set (i := 3) scCounts.nd rfl (Or.inl rfl) (pe_callTy call_list_of (by rfl) T.list (by decide +kernel) (pa_cons (pv 2) pa_nil)))
      (C8.pss_cut (ps_if (pt_cmpR op_eq (C8.pe_c GDraw hr (by decide) (by rfl) (pa_cons (pv 0) (pa_cons pe_int pa_nil))) pe_int (nomark _))
        (pss_one (ps_set (i := 3) scCounts.nd rfl (Or.inl rfl) (C8.pe_c GSpoilt hr (by decide) (by rfl) (pa_cons (pv 0) (pa_cons (pv 1) (pa_cons (pv 2) pa_nil))))))
        pss_nil)
      (pss_cons (ps_for PassesOwn.never rfl (pi_range1 rfl T.range (pa_cons pe_int pa_nil)) (pg_name (i := 4) scCounts.nd rfl (Or.inl rfl))
        (pss_one (ps_if (pt_not (pt_val (C8.pe_c GRefused hr (by decide) (by rfl) (pa_cons (C8.pe_c GMade hr (by decide) (by rfl) (pa_cons (pv 4) (pa_cons (C8.pe_c GWrongCount hr (by decide) (by rfl) (pa_cons (pv 0) (pa_cons (pv 4) pa_nil))) (pa_cons (pe_callTy call_list_of (by rfl) T.list (by decide +kernel) (pa_cons (pv 3) pa_nil)) pa_nil)))) (pa_cons pe_non pa_nil)))))
          (pss_one (ps_ret pe_bl))
          pss_nil)))
      (pss_one (ps_ret pe_bl))))), ?_⟩
    -- rows = list(pairs)
    refine ⟨_, rfl, _, _, rfl, .inl (SqL.of (by fail "hp")), fun p1 np1 => ?_⟩
    refine ⟨fun σ H' => ∃ (q : Addr) (bs : List Addr) (qs : List (Int × Int)), σ = [some (.ref b), some (.int (n : Int)), some (.ref l), some (.ref q), none] ∧ Kp b H H' ∧ BoxOk H' b bc ∧ H' q = some (.lst (bs.map V.ref)) ∧ PrT H' bs qs ∧ bs.length ≤ 500, ?_, ?_⟩
    · -- if _law_draw(box, 2) == 1:
      refine ⟨_, rfl, _, _, _, rfl, (by fail "bx"), (by fail "om"), (by fail "om"), fun d2 H2 da2 db2 kp2 bx2 => ⟨rfl, _, rfl, ?_⟩⟩
      refine ifEqI (fun g3 => ?_) (fun g3 => ?_)
      · -- rows = _law_spoilt(box, count, pairs)
        refine ⟨_, rfl, _, rfl, _, rfl, _, _, _, _, _, _, rfl, (by fail "bx"), (by fail "hp"), (by fail "pr"), (by fail "om"), (by fail "om"), (by fail "om"), fun l4 as4 ps4 H4 bad4 len4 nl4 nb4 kp4 bx4 hl4 pl4 => ?_⟩
        exact ⟨l4, as4, ps4, rfl, by fail "kp", by fail "bx", by fail "hp", by fail "pr", by rw [pl4.1]; omega⟩
      · exact ⟨p1, as, ps, rfl, by fail "kp", by fail "bx", by fail "hp", by fail "pr", la⟩
    · rintro σ HM ⟨q, bs, qs, rfl, kpM, bxM, hq, pq, lq⟩
      -- for way in range(6):
      refine ⟨_, rfl, (by fail "om"), (by fail "om"), for_range (fun i σ H' => (Kp b HM H' ∧ BoxOk H' b bc) ∧ ∃ v, σ = [some (.ref b), some (.int (n : Int)), some (.ref l), some (.ref q), v]) ⟨⟨Kp.refl, bxM⟩, none, rfl⟩ ?_ ?_⟩
      · rintro i σ Hi hi ⟨⟨kpi, bxi⟩, v, rfl⟩
        have hi6 : i < 6 := by omega
        have hqi := kpi.get bxM hq nb_refs
        have pqi := pq.mono (Kp.tk kpi bxM)
        -- if not _law_refused(_law_made(way, _law_wrong_count(box, way), list(rows)), None):
        refine ⟨_, rfl, _, rfl, _, rfl, _, _, _, rfl, (by fail "bx"), fun d8 H8 dw8 kp8 bx8 => ⟨_, rfl, _, _, rfl, .inl (SqL.of (by fail "hp")), fun p7 np7 => ⟨_, _, _, _, _, rfl, (by omega), (by omega), (by fail "hp"), (by fail "pr"), (by fail "om"), (fun n e b1 b2 => by exfalso; omega), fun z6 t6 H6 nt6 sm6 ht6 => ⟨_, _, _, rfl, (by fail "hp"), .inl ⟨rfl, rfl⟩, ⟨_, rfl, ?_⟩⟩, (fun n e b1 b2 => by exfalso; omega)⟩⟩⟩
        fail "ite"
        exact ⟨⟨Kp.trans (Kp.trans kpi kp8) (Kp.of (Same.trans (Same.new (Same.refl _) np7) sm6)), BoxOk.same sm6 (BoxOk.new bx8 np7)⟩, _, rfl⟩
      · rintro σ Hi ⟨⟨kpi, bxi⟩, v, rfl⟩
        -- return True
        exact kQ _ (Kp.trans kpM kpi) bxi
end
end K00

end
section
set_option Elab.async false
set_option linter.all false
set_option maxRecDepth 100000
set_option maxHeartbeats 800000
namespace K00
open PySem L2 Kit KR KX L2H
local macro_rules | `(tactic| fail "om") => `(tactic| first | omega | (simp only [List.length_map, List.length_append, List.length_cons, List.length_nil]; omega) | (simp only [List.length_map, List.length_append, List.length_cons, List.length_nil] at *; omega) | assumption | decide | fail "no om")
local macro_rules | `(tactic| fail "nz") => `(tactic| first | decide | omega | fail "no nz")
local macro_rules | `(tactic| fail "dv") => `(tactic| exact ⟨by first | decide | omega, by first | decide | omega⟩)
local macro_rules | `(tactic| fail "mul") => `(tactic| first | exact .inr ⟨by decide, by decide⟩ | exact .inl ⟨by decide, by decide⟩ | exact mulF (by decide) (by decide) | exact .inl ⟨by omega, by omega⟩ | exact .inr ⟨by omega, by omega⟩ | fail "no mul")
local macro_rules | `(tactic| fail "sz") => `(tactic| first | assumption | exact Nat.zero_le _ | (show 1 ≤ sizeLine; decide) | (show 2 ≤ sizeLine; decide) | (show 3 ≤ sizeLine; decide) | (show 4 ≤ sizeLine; decide) | (show 5 ≤ sizeLine; decide) | exact Evl.sz_of (by omega) | (refine Evl.sz_of ?_; simp only [List.length_append, List.length_map, List.length_cons, List.length_nil]; omega) | fail "no sz")
local macro_rules | `(tactic| fail "szl") => `(tactic| first | exact Evl.sz_lt (by omega) | (refine Evl.sz_lt ?_; simp only [List.length_append, List.length_map, List.length_cons, List.length_nil]; omega) | fail "no szl")
local macro_rules | `(tactic| fail "ix") => `(tactic| first | assumption | exact ix0 | exact ix1 | exact ix2 | exact at_ref (by assumption) (by omega) | exact at_int (by assumption) (by omega) | exact at_drawn (by assumption) (by assumption) | rfl | fail "no ix")
local macro_rules | `(tactic| fail "ixn") => `(tactic| first | rfl | assumption | fail "no ixn")
local macro_rules | `(tactic| fail "nb") => `(tactic| first | assumption | exact nb_tup | exact nb_nil | exact nb_ints | exact nb_refs | exact nb_ins | exact nb_dT | exact nb_frz | fail "no nb")
local macro_rules | `(tactic| fail "ne") => `(tactic| first | assumption | exact Ne.symm (by assumption) | exact ne_of_none (by assumption) (by assumption) | exact (ne_of_none (by assumption) (by assumption)).symm | exact ne_of (by assumption) (by assumption) (by intro q; cases q) | exact ne_of (by assumption) (by assumption) (by simp) | fail "no ne")
local macro_rules | `(tactic| fail "hp") => `(tactic| first | assumption | exact upd_same | (refine' Tk.get (by assumption) ?k1; (case k1 => fail "tk")) | (with_reducible refine' upd_new ?h1 ?n1; (case n1 => assumption); (case h1 => fail "hp")) | (refine' Same.get (by assumption) ?h1; (case h1 => fail "hp")) | (refine' Kp.get (by assumption) (by fail "bx") ?h1 ?d1; (case h1 => fail "hp"); (case d1 => fail "nb")) | (with_reducible refine' upd_oth ?h1 ?n1; (case n1 => fail "ne"); (case h1 => fail "hp")) | (with_reducible refine' upd_oth ?h1 ?n1; (case h1 => fail "hp"); (case n1 => fail "ne")) | fail "no hp")
local macro_rules | `(tactic| fail "bx") => `(tactic| first | assumption | (with_reducible refine' BoxOk.new ?h1 ?n1; (case n1 => assumption); (case h1 => fail "bx")) | (refine' BoxOk.same (by assumption) ?h1; (case h1 => fail "bx")) | (with_reducible refine' BoxOk.mut ?h1 ?h2 ?n1; (case n1 => assumption); (case h2 => assumption); (case h1 => fail "bx")) | fail "no bx")
local macro_rules | `(tactic| fail "kp") => `(tactic| first | assumption | exact Kp.refl | (with_reducible refine' Kp.at ?h1; (case h1 => fail "kp")) | (with_reducible refine' Kp.new ?h1 ?n1; (case n1 => assumption); (case h1 => fail "kp")) | (with_reducible refine' Kp.mut ?h1 ?n1; (case n1 => assumption); (case h1 => fail "kp")) | (refine' Kp.tr (by assumption) ?h1; (case h1 => fail "kp")) | (refine' Kp.tr (Kp.of (by assumption)) ?h1; (case h1 => fail "kp")) | fail "no kp")
local macro_rules | `(tactic| fail "ite") => `(tactic| first | refine iteT ?_ | refine iteF ?_)
local macro_rules | `(tactic| fail "tt") => `(tactic| first | rfl | exact decide_eq_true (by first | rfl | omega | assumption) | exact decide_eq_true (congrArg V.int (by first | rfl | omega)) | fail "no tt")
local macro_rules | `(tactic| fail "cv") => `(tactic| first | exact .ty _ | exact .own _)
local macro_rules | `(tactic| fail "tx") => `(tactic| first | exact .base (.int _) | exact .base (.bl _) | exact .base .non | exact .base (.lst (by fail "hp")) | exact .base (.tup (by fail "hp")) | fail "no tx")
local macro_rules | `(tactic| fail "dead") => `(tactic| (exfalso; first | omega | contradiction | simp_all))
local macro_rules | `(tactic| fail "dp") => `(tactic| first | exact .tup (SqT.of (by fail "hp")) (.cons (.int _) (.cons (.int _) .nil)) | exact .lst (SqL.of (by fail "hp")) (dpPrs (by fail "pr")) | exact .lst (SqL.of (by fail "hp")) (dpInts _) | exact .lst (SqL.of (by fail "hp")) .nil | fail "no dp")
local macro_rules | `(tactic| fail "shp") => `(tactic| first | assumption | exact prD_shaped _ | exact PySem.W.ke_shaped_ints _ | rfl | fail "no shp")
local macro_rules | `(tactic| fail "pr") => `(tactic| first | assumption | exact PrT.mono (by assumption) (by fail "tk") | fail "no pr")
local macro_rules | `(tactic| fail "tk") => `(tactic| first | assumption | exact Tk.refl | (with_reducible refine' Tk.new ?h1 ?n1; (case n1 => assumption); (case h1 => fail "tk")) | (refine' Tk.tr (Kp.tk (by assumption) (by fail "bx")) ?h1; (case h1 => fail "tk")) | (refine' Tk.tr (Same.tk (by assumption)) ?h1; (case h1 => fail "tk")) | (with_reducible refine' Tk.lst ?h1 ?n1; (case n1 => fail "hp"); (case h1 => fail "tk")) | fail "no tk")
local macro_rules | `(tactic| fail "lk") => `(tactic| first | exact netF_count _ _ | exact netF_links _ _ | exact netF_no _ _ (by decide +kernel) (by decide +kernel) | fail "no lk")
local macro_rules | `(tactic| fail "kt") => `(tactic| first | exact upd_same | assumption | fail "hp")
local macro_rules | `(tactic| fail "na") => `(tactic| first | assumption | (with_reducible refine' NetAt.new ?h1 ?n1; (case n1 => assumption); (case h1 => fail "na")) | (refine' NetAt.same (by assumption) ?h1; (case h1 => fail "na")) | (refine' NetAt.kp (by assumption) (by fail "bx") ?h1; (case h1 => fail "na")) | (with_reducible refine' NetAt.lst ?h1 ?n1; (case n1 => fail "hp"); (case h1 => fail "na")) | fail "no na")
local macro_rules | `(tactic| fail "mono") => `(tactic| first | exact fun _ _ _ _ h q => h _ _ q | exact fun _ _ _ _ h q => (let ⟨v, e, z⟩ := q; ⟨v, e, h _ _ z⟩) | exact fun _ _ _ _ h q => (let ⟨v, e, u, f, z⟩ := q; ⟨v, e, u, f, h _ _ z⟩) | fail "no mono")
local macro_rules | `(tactic| fail "sm") => `(tactic| first | assumption | exact Same.refl _ | (with_reducible refine' Same.new ?h1 ?n1; (case n1 => assumption); (case h1 => fail "sm")) | (refine' Same.tr (by assumption) ?h1; (case h1 => fail "sm")) | fail "no sm")
local macro_rules | `(tactic| fail "fld") => `(tactic| first | (show 0 < 1000; decide) | (show 1 < 1000; decide) | fail "no fld")

section
variable {P : Program} {w : World} {K : PySem.W.Frag} {mg : Str → Option Value} {base : Heap} {CN CI CU CL CS : Addr} {mc mu : Value}

abbrev sBuilds : Stmt := top 40
theorem scBuilds : FnScope ["box", "count", "pairs", "way", "passed", "made", "spoilt"] ["box", "count", "pairs"] (defScope sBuilds) := ⟨rfl, rfl, rfl, by decide +kernel, rfl, by decide +kernel, by decide +kernel⟩
def spBuilds : Sp := fun vs H Q _ => ∃ (b bc : Addr) (n : Nat) (l : Addr) (as : List Addr) (ps : List (Int × Int)), vs = [.ref b, .int (n : Int), .ref l] ∧ BoxOk H b bc ∧ 1 ≤ n ∧ n ≤ 24 ∧ H l = some (.lst (as.map V.ref)) ∧ PrT H as ps ∧ (∀ p ∈ ps, Good n p) ∧ ps.length ≤ 60 ∧ ∀ H', Kp b H H' → BoxOk H' b bc → Q (.bl true) H'
theorem ok_Builds (D : Df K mg "_law_builds" sBuilds ["box", "count", "pairs"]) (T : LTx K mg CN CI CU CL CS mc mu) (GMade : C8.Cal P w K mg base 12 "_law_made" (spMade CN) []) (GTable : C8.Cal P w K mg base 1 "_law_table" spTable []) (GNetIs : C8.Cal P w K mg base 9 "_law_net_is" (spNetIs CN) []) (GSpoilt : C8.Cal P w K mg base 5 "_law_spoilt" spSpoilt []) (GFirstBad : C8.Cal P w K mg base 1 "_law_first_bad" spFirstBad []) (GRefused : C8.Cal P w K mg base 3 "_law_refused" spRefused []) : C8.Cal P w K mg base 13 "_law_builds" spBuilds [] := by
  obtain ⟨f, fd, F, hm, hb⟩ := D
  refine ⟨f, fd, ["box", "count", "pairs"], [], F.ok scBuilds (fun vs H Q E h => ?_) (fun cdv A outer s H vs Q E hr h => ?_), hm, F.kp, hb, .nil⟩
  · obtain ⟨b, bc, n, l, as, ps, rfl, bx0, b1, b2, hl, pa, gd, lp, kQ⟩ := h
    rfl
  · obtain ⟨b, bc, n, l, as, ps, rfl, bx0, b1, b2, hl, pa, gd, lp, kQ⟩ := h
    have la : as.length ≤ 500 := by
      rw [pa.1]
      omega
    refine ⟨_, (pss_cons (ps_for PassesOwn.never rfl (pi_range1 rfl T.range (pa_cons pe_int pa_nil)) (pg_name (i := 3) scBuilds.nd rfl (Or.inl rfl))
        (pss_cons (ps_set (i := 4) scBuilds.nd rfl (Or.inl rfl) (pe_callTy call_list_of (by rfl) T.list (by decide +kernel) (pa_cons (pv 2) pa_nil)))
        (pss_cons (ps_set (i := 5) scBuilds.nd rfl (Or.inl rfl) (C8.pe_c GMade hr (by decide) (by rfl) (pa_cons (pv 3) (pa_cons (pv 1) (pa_cons (pv 4) pa_nil)))))
        (pss_cons (ps_if (PW.pt (pw_or (pt_not (pt_val (pe_ix ix_tup (pv 5) pe_int (fun _ _ => rfl)))) (pw_or1 (pt_cmpR (op_neD hr.units) (pv 4) (pv 2) (nomark _)))))
          (pss_one (ps_ret pe_bl))
          pss_nil)
        (pss_cons (ps_expr (pe_bm0 PySem.F.plainAttrs_list PySem.F.slot_list_reverse PySem.F.type_list_reverse mt_reverse (pv 4)))
        (pss_cons (ps_expr (pe_bm PySem.F.plainAttrs_list PySem.F.slot_list_append PySem.F.type_list_append mt_append (pv 4) (pa_cons (pe_tup (pa_cons pe_int (pa_cons (pe_op op_sub (pv 1) pe_int) pa_nil))) pa_nil)))
        (pss_cons (ps_if (pt_not (pt_val (C8.pe_c GNetIs hr (by decide) (by rfl) (pa_cons (pv 0) (pa_cons (pe_ix ix_tup (pv 5) pe_int (fun _ _ => rfl)) (pa_cons (pv 1) (pa_cons (C8.pe_c GTable hr (by decide) (by rfl) (pa_cons (pv 1) (pa_cons (pv 2) (pa_cons (pe_cmpR op_eq (pv 3) pe_int (nomark _)) pa_nil)))) pa_nil)))))))
          (pss_one (ps_ret pe_bl))
          pss_nil)
        (pss_cons (ps_set (i := 6) scBuilds.nd rfl (Or.inl rfl) (C8.pe_c GSpoilt hr (by decide) (by rfl) (pa_cons (pv 0) (pa_cons (pv 1) (pa_cons (pv 2) pa_nil)))))
        (pss_cons (ps_set (i := 4) scBuilds.nd rfl (Or.inl rfl) (pe_callTy call_list_of (by rfl) T.list (by decide +kernel) (pa_cons (pv 6) pa_nil)))
        (pss_cons (ps_set (i := 5) scBuilds.nd rfl (Or.inl rfl) (C8.pe_c GMade hr (by decide) (by rfl) (pa_cons (pv 3) (pa_cons (pv 1) (pa_cons (pv 4) pa_nil)))))
        (pss_one (ps_if (PW.pt (pw_or (pt_cmpR (op_neD hr.units) (pv 4) (pv 6) (nomark _)) (pw_or1 (pt_not (pt_val (C8.pe_c GRefused hr (by decide) (by rfl) (pa_cons (pv 5) (pa_cons (C8.pe_c GFirstBad hr (by decide) (by rfl) (pa_cons (pv 1) (pa_cons (pv 6) pa_nil))) pa_nil))))))))
          (pss_one (ps_ret pe_bl))
          pss_nil))))))))))))
      (pss_one (ps_ret pe_bl))), ?_⟩
    -- for way in range(2):
    refine ⟨_, rfl, (by fail "om"), (by fail "om"), for_range (fun i σ H' => (Kp b H H' ∧ BoxOk H' b bc) ∧ ∃ v q m s, σ = [some (.ref b), some (.int (n : Int)), some (.ref l), v, q, m, s]) ⟨⟨Kp.refl, bx0⟩, none, none, none, none, rfl⟩ ?_ ?_⟩
    · rintro i σ Hi hi ⟨⟨kpi, bxi⟩, v, q, m, s, rfl⟩
      have hi2 : i < 2 := by omega
      have hli := kpi.get bx0 hl nb_refs
      have pai := pa.mono (Kp.tk kpi bx0)
      -- passed = list(pairs)
      refine ⟨_, rfl, _, _, rfl, .inl (SqL.of (by fail "hp")), fun p1 np1 => ?_⟩
      -- made = _law_made(way, count, passed)
      refine ⟨_, rfl, _, rfl, _, rfl, _, _, _, _, _, rfl, (by omega), (by omega), (by fail "hp"), (by fail "pr"), (by fail "om"), (fun n2 e2 c2 d2 g2 t2 a2 H2 nt2 sm2 ht2 na2 => ?_), (fun z => by exfalso; omega), (fun m e _ _ _ j p hp hb => absurd (gd p (List.mem_of_getElem? hp)) (by obtain rfl : n = m := (by omega); exact hb))⟩
      obtain rfl : n = n2 := by omega
      have cr : callR ((0 : Int) + (i : Int)) n ps = relP ps (decide (V.int ((0 : Int) + (i : Int)) = V.int 1)) := by
        rcases (show i = 0 ∨ i = 1 by omega) with rfl | rfl
        · rfl
        · rfl
      rw [cr] at na2
      have hp1 := sm2 _ _ (upd_same (H := Hi) (a := p1) (o := .lst (as.map V.ref)))
      have hli2 := sm2 _ _ (upd_new hli np1 (o := .lst (as.map V.ref)))
      -- if not made[0] or passed != pairs:
      refine ⟨_, rfl, _, _, _, _, rfl, rfl, SqT.of (by fail "hp"), (by fail "ix"), _, rfl, ?_⟩
      refine nifB (fun g3 => ?_) (fun g3 => ?_)
      · fail "ite"
        -- return False
        contradiction
      · refine ⟨_, rfl, _, rfl, _, _, (by fail "dp"), (by fail "dp"), (by fail "shp"), (by fail "shp"), _, rfl, ?_⟩
        refine nifB (fun g4 => ?_) (fun g4 => ?_)
        · -- return False
          rw [eqv_prs] at g4
          contradiction
        · -- passed.reverse()
          refine ⟨_, rfl, .inl ⟨rfl, _, SqL.of (by fail "hp")⟩, _, _, rfl, rfl, (by fail "hp"), ?_⟩
          -- passed.append((0, count - 1))
          refine ⟨_, rfl, .inl ⟨rfl, _, SqL.of (by fail "hp")⟩, _, rfl, _, _, rfl, rfl, (by fail "sz"), fun p5 np5 => ⟨_, _, _, rfl, rfl, (by fail "hp"), Evl.sz_lt (by rw [List.length_reverse, List.length_map]; omega), ?_⟩⟩
          have hpX : upd (upd H2 p1 (.lst (as.map V.ref).reverse)) p5 (.tup [.int 0, .int ((n : Int) - 1)]) p1 = some (.lst (as.map V.ref).reverse) := upd_new upd_same np5
          have naT := NetAt.lst (NetAt.new (NetAt.lst na2 hp1 (ys := (as.map V.ref).reverse)) np5 (o := .tup [.int 0, .int ((n : Int) - 1)])) hpX (ys := (as.map V.ref).reverse ++ [.ref p5])
          have hlT := (show Same Hi (upd (upd (upd H2 p1 (.lst (as.map V.ref).reverse)) p5 (.tup [.int 0, .int ((n : Int) - 1)])) p1 (.lst ((as.map V.ref).reverse ++ [.ref p5]))) from Same.mut (Same.new (Same.mut (Same.trans (Same.new (Same.refl _) np1) sm2) np1) np5) np1) _ _ hli
          have paT := pai.mono (Same.tk (show Same Hi (upd (upd (upd H2 p1 (.lst (as.map V.ref).reverse)) p5 (.tup [.int 0, .int ((n : Int) - 1)])) p1 (.lst ((as.map V.ref).reverse ++ [.ref p5]))) from Same.mut (Same.new (Same.mut (Same.trans (Same.new (Same.refl _) np1) sm2) np1) np5) np1))
          have bxT := BoxOk.same (show Same Hi (upd (upd (upd H2 p1 (.lst (as.map V.ref).reverse)) p5 (.tup [.int 0, .int ((n : Int) - 1)])) p1 (.lst ((as.map V.ref).reverse ++ [.ref p5]))) from Same.mut (Same.new (Same.mut (Same.trans (Same.new (Same.refl _) np1) sm2) np1) np5) np1) bxi
          -- if not _law_net_is(box, made[1], count, _law_table(count, pairs, way == 1)):
          refine ⟨_, rfl, _, rfl, _, _, _, _, rfl, rfl, SqT.of (by fail "hp"), (by fail "ix"), _, rfl, _, rfl, _, rfl, _, rfl, rfl, _, _, _, _, _, rfl, (by fail "hp"), (by fail "pr"), (by fail "om"), (by assumption), fun t7 M7 H7 nt7 sm7 ht7 tb7 => ⟨_, _, _, _, _, _, _, rfl, (by fail "bx"), (by fail "na"), (by fail "hp"), (by assumption), fun H6 kp6 bx6 => ⟨_, rfl, ?_⟩⟩⟩
          fail "ite"
          -- spoilt = _law_spoilt(box, count, pairs)
          refine ⟨_, rfl, _, rfl, _, rfl, _, _, _, _, _, _, rfl, (by fail "bx"), (by fail "hp"), (by fail "pr"), (by fail "om"), (by fail "om"), (by fail "om"), fun l8 as8 ps8 H8 bad8 len8 nl8 nb8 kp8 bx8 hl8 pl8 => ?_⟩
          have las8 : as8.length ≤ 62 := by
            rw [pl8.1]
            exact len8
          -- passed = list(spoilt)
          refine ⟨_, rfl, _, _, rfl, .inl (SqL.of (by fail "hp")), fun p9 np9 => ?_⟩
          -- made = _law_made(way, count, passed)
          refine ⟨_, rfl, _, rfl, _, rfl, _, _, _, _, _, rfl, (by omega), (by omega), (by fail "hp"), (by fail "pr"), (by fail "om"), (fun m e _ _ g => by obtain rfl : n = m := (by omega); rcases g with g | g; (exfalso; omega); exact (let ⟨p, hp, hb⟩ := bad8; absurd (g p hp) hb)), (fun z => by exfalso; omega), fun n10 e10 c10 d10 w10 j10 p10 hj10 bad10 fst10 t10 u10 H10 nt10 sm10 ht10 hu10 => ?_⟩
          obtain rfl : n = n10 := by omega
          have FB8 : ∀ (i : Nat) (a : Addr) (p : Int × Int), as8[i]? = some a → ps8[i]? = some p → H10 a = some (.tup [.int p.1, .int p.2]) := (PrT.mono pl8 (Tk.tr (Same.tk sm10) (Tk.new Tk.refl np9))).2
          have UQ : ∀ (i : Nat) (p : Int × Int), ps8[i]? = some p → ¬ Good n p → (∀ j q, j < i → ps8[j]? = some q → Good n q) → H10 u10 = some (.tup [.int p.1, .int p.2]) := by
            intro i p h1 h2 h3
            rcases Nat.lt_trichotomy i j10 with q | q | q
            · exact absurd (fst10 i p q h1) h2
            · subst q
              rw [hj10] at h1
              cases h1
              exact hu10
            · exact absurd (h3 j10 p10 q hj10) bad10
          -- if passed != spoilt or not _law_refused(made, _law_first_bad(count, spoilt)):
          refine ⟨_, rfl, _, rfl, _, _, (by fail "dp"), (by fail "dp"), (by fail "shp"), (by fail "shp"), _, rfl, ?_⟩
          refine nifB (fun g11 => ?_) (fun g11 => ?_)
          · fail "ite"
            -- return False
            rw [eqv_prs] at g11
            contradiction
          · refine ⟨_, rfl, _, rfl, _, rfl, _, _, _, _, rfl, (by fail "hp"), (by fail "pr"), (fun g => let ⟨p, hp, hb⟩ := bad8; absurd (g p hp) hb), fun i13 a13 p13 ha13 hp13 bad13 fst13 => ⟨_, _, _, rfl, (by fail "hp"), .inr ⟨_, _, _, _, rfl, rfl, (FB8 _ _ _ ‹_› ‹_›), (UQ _ _ ‹_› ‹_› ‹_›)⟩, ⟨_, rfl, ?_⟩⟩⟩
            fail "ite"
            exact ⟨⟨Kp.trans (Kp.trans (Kp.trans (Kp.trans kpi (Kp.of (Same.trans (show Same Hi (upd (upd (upd H2 p1 (.lst (as.map V.ref).reverse)) p5 (.tup [.int 0, .int ((n : Int) - 1)])) p1 (.lst ((as.map V.ref).reverse ++ [.ref p5]))) from Same.mut (Same.new (Same.mut (Same.trans (Same.new (Same.refl _) np1) sm2) np1) np5) np1) sm7))) kp6) kp8) (Kp.of (Same.trans (Same.new (Same.refl _) np9) sm10)), BoxOk.same sm10 (BoxOk.new bx8 np9)⟩, _, _, _, _, rfl⟩
    · rintro σ Hi ⟨⟨kpi, bxi⟩, v, q, m, s, rfl⟩
      -- return True
      exact kQ _ kpi bxi
end
end K00

end
section
set_option Elab.async false
set_option linter.all false
set_option maxRecDepth 100000
set_option maxHeartbeats 800000
namespace K00
open PySem L2 Kit KR KX L2H
local macro_rules | `(tactic| fail "om") => `(tactic| first | omega | (simp only [List.length_map, List.length_append, List.length_cons, List.length_nil]; omega) | (simp only [List.length_map, List.length_append, List.length_cons, List.length_nil] at *; omega) | assumption | decide | fail "no om")
local macro_rules | `(tactic| fail "nz") => `(tactic| first | decide | omega | fail "no nz")
local macro_rules | `(tactic| fail "dv") => `(tactic| exact ⟨by first | decide | omega, by first | decide | omega⟩)
local macro_rules | `(tactic| fail "mul") => `(tactic| first | exact .inr ⟨by decide, by decide⟩ | exact .inl ⟨by decide, by decide⟩ | exact mulF (by decide) (by decide) | exact .inl ⟨by omega, by omega⟩ | exact .inr ⟨by omega, by omega⟩ | fail "no mul")
local macro_rules | `(tactic| fail "sz") => `(tactic| first | assumption | exact Nat.zero_le _ | (show 1 ≤ sizeLine; decide) | (show 2 ≤ sizeLine; decide) | (show 3 ≤ sizeLine; decide) | (show 4 ≤ sizeLine; decide) | (show 5 ≤ sizeLine; decide) | exact Evl.sz_of (by omega) | (refine Evl.sz_of ?_; simp only [List.length_append, List.length_map, List.length_cons, List.length_nil]; omega) | fail "no sz")
local macro_rules | `(tactic| fail "szl") => `(tactic| first | exact Evl.sz_lt (by omega) | (refine Evl.sz_lt ?_; simp only [List.length_append, List.length_map, List.length_cons, List.length_nil]; omega) | fail "no szl")
local macro_rules | `(tactic| fail "ix") => `(tactic| first | assumption | exact ix0 | exact ix1 | exact ix2 | exact at_ref (by assumption) (by omega) | exact at_int (by assumption) (by omega) | exact at_drawn (by assumption) (by assumption) | rfl | fail "no ix")
local macro_rules | `(tactic| fail "ixn") => `(tactic| first | rfl | assumption | fail "no ixn")
local macro_rules | `(tactic| fail "nb") => `(tactic| first | assumption | exact nb_tup | exact nb_nil | exact nb_ints | exact nb_refs | exact nb_ins | exact nb_dT | exact nb_frz | fail "no nb")
local macro_rules | `(tactic| fail "ne") => `(tactic| first | assumption | exact Ne.symm (by assumption) | exact ne_of_none (by assumption) (by assumption) | exact (ne_of_none (by assumption) (by assumption)).symm | exact ne_of (by assumption) (by assumption) (by intro q; cases q) | exact ne_of (by assumption) (by assumption) (by simp) | fail "no ne")
local macro_rules | `(tactic| fail "hp") => `(tactic| first | assumption | exact upd_same | (refine' Tk.get (by assumption) ?k1; (case k1 => fail "tk")) | (with_reducible refine' upd_new ?h1 ?n1; (case n1 => assumption); (case h1 => fail "hp")) | (refine' Same.get (by assumption) ?h1; (case h1 => fail "hp")) | (refine' Kp.get (by assumption) (by fail "bx") ?h1 ?d1; (case h1 => fail "hp"); (case d1 => fail "nb")) | (with_reducible refine' upd_oth ?h1 ?n1; (case n1 => fail "ne"); (case h1 => fail "hp")) | (with_reducible refine' upd_oth ?h1 ?n1; (case h1 => fail "hp"); (case n1 => fail "ne")) | fail "no hp")
local macro_rules | `(tactic| fail "bx") => `(tactic| first | assumption | (with_reducible refine' BoxOk.new ?h1 ?n1; (case n1 => assumption); (case h1 => fail "bx")) | (refine' BoxOk.same (by assumption) ?h1; (case h1 => fail "bx")) | (with_reducible refine' BoxOk.mut ?h1 ?h2 ?n1; (case n1 => assumption); (case h2 => assumption); (case h1 => fail "bx")) | fail "no bx")
local macro_rules | `(tactic| fail "kp") => `(tactic| first | assumption | exact Kp.refl | (with_reducible refine' Kp.at ?h1; (case h1 => fail "kp")) | (with_reducible refine' Kp.new ?h1 ?n1; (case n1 => assumption); (case h1 => fail "kp")) | (with_reducible refine' Kp.mut ?h1 ?n1; (case n1 => assumption); (case h1 => fail "kp")) | (refine' Kp.tr (by assumption) ?h1; (case h1 => fail "kp")) | (refine' Kp.tr (Kp.of (by assumption)) ?h1; (case h1 => fail "kp")) | fail "no kp")
local macro_rules | `(tactic| fail "ite") => `(tactic| first | refine iteT ?_ | refine iteF ?_)
local macro_rules | `(tactic| fail "tt") => `(tactic| first | rfl | exact decide_eq_true (by first | rfl | omega | assumption) | exact decide_eq_true (congrArg V.int (by first | rfl | omega)) | fail "no tt")
local macro_rules | `(tactic| fail "cv") => `(tactic| first | exact .ty _ | exact .own _)
local macro_rules | `(tactic| fail "tx") => `(tactic| first | exact .base (.int _) | exact .base (.bl _) | exact .base .non | exact .base (.lst (by fail "hp")) | exact .base (.tup (by fail "hp")) | fail "no tx")
local macro_rules | `(tactic| fail "dead") => `(tactic| (exfalso; first | omega | contradiction | simp_all))
local macro_rules | `(tactic| fail "dp") => `(tactic| first | exact .tup (SqT.of (by fail "hp")) (.cons (.int _) (.cons (.int _) .nil)) | exact .lst (SqL.of (by fail "hp")) (dpPrs (by fail "pr")) | exact .lst (SqL.of (by fail "hp")) (dpInts _) | exact .lst (SqL.of (by fail "hp")) .nil | fail "no dp")
local macro_rules | `(tactic| fail "shp") => `(tactic| first | assumption | exact prD_shaped _ | exact PySem.W.ke_shaped_ints _ | rfl | fail "no shp")
local macro_rules | `(tactic| fail "pr") => `(tactic| first | assumption | exact PrT.mono (by assumption) (by fail "tk") | fail "no pr")
local macro_rules | `(tactic| fail "tk") => `(tactic| first | assumption | exact Tk.refl | (with_reducible refine' Tk.new ?h1 ?n1; (case n1 => assumption); (case h1 => fail "tk")) | (refine' Tk.tr (Kp.tk (by assumption) (by fail "bx")) ?h1; (case h1 => fail "tk")) | (refine' Tk.tr (Same.tk (by assumption)) ?h1; (case h1 => fail "tk")) | (with_reducible refine' Tk.lst ?h1 ?n1; (case n1 => fail "hp"); (case h1 => fail "tk")) | fail "no tk")
local macro_rules | `(tactic| fail "lk") => `(tactic| first | exact netF_count _ _ | exact netF_links _ _ | exact netF_no _ _ (by decide +kernel) (by decide +kernel) | fail "no lk")
local macro_rules | `(tactic| fail "kt") => `(tactic| first | exact upd_same | assumption | fail "hp")
local macro_rules | `(tactic| fail "na") => `(tactic| first | assumption | (with_reducible refine' NetAt.new ?h1 ?n1; (case n1 => assumption); (case h1 => fail "na")) | (refine' NetAt.same (by assumption) ?h1; (case h1 => fail "na")) | (refine' NetAt.kp (by assumption) (by fail "bx") ?h1; (case h1 => fail "na")) | (with_reducible refine' NetAt.lst ?h1 ?n1; (case n1 => fail "hp"); (case h1 => fail "na")) | fail "no na")
local macro_rules | `(tactic| fail "mono") => `(tactic| first | exact fun _ _ _ _ h q => h _ _ q | exact fun _ _ _ _ h q => (let ⟨v, e, z⟩ := q; ⟨v, e, h _ _ z⟩) | exact fun _ _ _ _ h q => (let ⟨v, e, u, f, z⟩ := q; ⟨v, e, u, f, h _ _ z⟩) | fail "no mono")
local macro_rules | `(tactic| fail "sm") => `(tactic| first | assumption | exact Same.refl _ | (with_reducible refine' Same.new ?h1 ?n1; (case n1 => assumption); (case h1 => fail "sm")) | (refine' Same.tr (by assumption) ?h1; (case h1 => fail "sm")) | fail "no sm")
local macro_rules | `(tactic| fail "fld") => `(tactic| first | (show 0 < 1000; decide) | (show 1 < 1000; decide) | fail "no fld")

section
variable {P : Program} {w : World} {K : PySem.W.Frag} {mg : Str → Option Value} {base : Heap} {CN CI CU CL CS : Addr} {mc mu : Value}

theorem mk_init1 {CN CI x dx l : Addr} {c : Int} {as : List Addr} {ps : List (Int × Int)} {H : Hp} {Z : Hp → Prop} {E : XK} (nx : H x = none) (ndx : H dx = none) (ne : dx ≠ x) (hl : H l = some (.lst (as.map V.ref))) (pa : PrT H as ps) (few : as.length < 1200)
    (kG : ∀ n : Nat, c = n → 1 ≤ n → n ≤ 24 → (∀ p ∈ ps, Good n p) → ∀ H', Same H H' → NetAt CN H' x n (relP ps false) → Z H') (kB : ¬ (1 ≤ c ∧ c ≤ 24) → RaisesI CI .non H E) (kC : ∀ n : Nat, c = n → 1 ≤ n → n ≤ 24 → BadRow CI n as ps H E) :
    spInit CN CI (.ref x :: ([.int c, .ref l] ++ [])) (upd (upd H dx (.own x)) x (.ins CN dx [])) (fun v H2 => v = .non ∧ Z H2) E := by
  have s1 : Same H (upd H dx (.own x)) := Same.new (Same.refl H) ndx
  have n1 : upd H dx (.own x) x = none := by rw [upd_ne ne.symm]; exact nx
  have s2 : Same H (upd (upd H dx (.own x)) x (.ins CN dx [])) := Same.new s1 n1
  exact ⟨x, dx, c, l, as, ps, rfl, upd_same, s2 _ _ hl, pa.mono (Same.tk s2), few, fun n e b1 b2 g H' k na => ⟨rfl, kG n e b1 b2 g H' (fun b o hb => k b o (ne_of_none hb nx) (s2 _ _ hb)) na⟩, fun z => (kB z).back s2, fun n e b1 b2 => (kC n e b1 b2).back s2⟩
/-- nets, their tables -/
structure Fam (CN : Addr) (H : Hp) (p q : Addr) (n : Nat) (ns ts : List Addr) : Prop where
  h1 : H p = some (.lst (ns.map V.ref))
  h4 : H q = some (.lst (ts.map V.ref))
  ne : p ≠ q
  len : ns.length = ts.length
  pos : 1 ≤ ns.length
  at_ : ∀ (k : Nat) (a t : Addr), ns[k]? = some a → ts[k]? = some t → ∃ R M, NetAt CN H a n R ∧ H t = some (.lst (M.map V.int)) ∧ IsTab n M R
theorem Fam.same {CN : Addr} {H H' : Hp} {p q : Addr} {n : Nat} {ns ts : List Addr} (f : Fam CN H p q n ns ts) (s : Same H H') : Fam CN H' p q n ns ts :=
  ⟨s _ _ f.h1, s _ _ f.h4, f.ne, f.len, f.pos, fun k a t e1 e2 => let ⟨R, M, x, y, z⟩ := f.at_ k a t e1 e2; ⟨R, M, x.same s, s _ _ y, z⟩⟩
theorem Fam.kp {CN : Addr} {H H' : Hp} {p q b bc : Addr} {n : Nat} {ns ts : List Addr} (f : Fam CN H p q n ns ts) (k : Kp b H H') (bx : BoxOk H b bc) : Fam CN H' p q n ns ts :=
  ⟨k.get bx f.h1 nb_refs, k.get bx f.h4 nb_refs, f.ne, f.len, f.pos, fun j a t e1 e2 => let ⟨R, M, x, y, z⟩ := f.at_ j a t e1 e2; ⟨R, M, x.kp k bx, k.get bx y nb_ints, z⟩⟩
theorem ints_ne {M : List Int} {ns : List Addr} (h : 1 ≤ ns.length) : HO.lst (M.map V.int) ≠ HO.lst (ns.map V.ref) := by
  intro e
  cases ns with
  | nil => simp at h
  | cons a r =>
    cases M with
    | nil => cases e
    | cons m t => cases e
theorem Fam.push {CN : Addr} {H : Hp} {p q a t : Addr} {n : Nat} {ns ts : List Addr} {R : Rel} {M : List Int} (f : Fam CN H p q n ns ts) (na : NetAt CN H a n R) (ht : H t = some (.lst (M.map V.int))) (tb : IsTab n M R) :
    Fam CN (upd (upd H p (.lst (ns.map V.ref ++ [V.ref a]))) q (.lst (ts.map V.ref ++ [V.ref t]))) p q n (ns ++ [a]) (ts ++ [t]) := by
  have hq : upd H p (.lst (ns.map V.ref ++ [V.ref a])) q = some (.lst (ts.map V.ref)) := by
    rw [upd_ne f.ne.symm]
    exact f.h4
  have keepT : ∀ (u : Addr) (L : List Int), H u = some (.lst (L.map V.int)) → upd (upd H p (.lst (ns.map V.ref ++ [V.ref a]))) q (.lst (ts.map V.ref ++ [V.ref t])) u = some (.lst (L.map V.int)) := by
    intro u L hu
    have n1 : u ≠ q := ne_of hu f.h4 (ints_ne (by rw [← f.len]; exact f.pos))
    have n2 : u ≠ p := ne_of hu f.h1 (ints_ne f.pos)
    rw [upd_ne n1, upd_ne n2]
    exact hu
  refine ⟨by rw [upd_ne f.ne, upd_same, snocR], by rw [upd_same, snocR], f.ne, by rw [List.length_append, List.length_append, f.len]; rfl, by rw [List.length_append]; exact Nat.le_trans f.pos (Nat.le_add_right _ _), fun k x y e1 e2 => ?_⟩
  by_cases hk : k < ns.length
  · rw [List.getElem?_append_left hk] at e1
    rw [List.getElem?_append_left (f.len ▸ hk)] at e2
    obtain ⟨R', M', z1, z2, z3⟩ := f.at_ k x y e1 e2
    exact ⟨R', M', (z1.lst f.h1).lst hq, keepT _ _ z2, z3⟩
  · have h1 := (List.getElem?_eq_some_iff.mp e1).1
    rw [List.length_append] at h1
    have hk2 : k = ns.length := by
      simp at h1
      omega
    subst hk2
    rw [List.getElem?_append_right (Nat.le_refl _), Nat.sub_self] at e1
    rw [f.len, List.getElem?_append_right (Nat.le_refl _), Nat.sub_self] at e2
    cases e1
    cases e2
    exact ⟨R, M, (na.lst f.h1).lst hq, keepT _ _ ht, tb⟩
theorem Fam.set {CN : Addr} {H0 H : Hp} {p q e : Addr} {n : Nat} {ns ts : List Addr} {xs ys : List V} (f0 : Fam CN H0 p q n ns ts) (f : Fam CN H p q n ns ts) (n8 : H0 e = none) (h8 : H e = some (.lst xs)) : Fam CN (upd H e (.lst ys)) p q n ns ts := by
  have k : ∀ (a : Addr) (o : HO), H0 a = some o → a ≠ e := fun a o h => ne_of_none h n8
  refine ⟨by rw [upd_ne (k _ _ f0.h1)]; exact f.h1, by rw [upd_ne (k _ _ f0.h4)]; exact f.h4, f.ne, f.len, f.pos, fun j a t e1 e2 => ?_⟩
  obtain ⟨R, M, x, y, z⟩ := f.at_ j a t e1 e2
  obtain ⟨_, _, _, y0, _⟩ := f0.at_ j a t e1 e2
  exact ⟨R, M, x.lst h8, by rw [upd_ne (k _ _ y0)]; exact y, z⟩
theorem done_tab {adds : Bool} {n : Nat} {M : List Int} {R : Rel} {x y : Int} (tb : IsTab n M R) (g : Good n (x, y)) : IsTab n (M.set (x.toNat * n + y.toNat) (if adds = true then 1 else 0)) (doneR adds R (x, y)) := by
  obtain ⟨g1, g2, g3, g4, _⟩ := g
  dsimp only at g1 g2 g3 g4
  refine (tb.set (x0 := x.toNat) (y0 := y.toNat) (by omega) (by omega) adds rfl).congr fun u v hu hv => ?_
  have hh : hitP (x, y) u v = decide (u = x.toNat ∧ v = y.toNat) := by
    rw [Bool.eq_iff_iff, hit_iff, decide_eq_true_eq]
    constructor
    · intro e
      have e1 : (u : Int) = x := congrArg Prod.fst e
      have e2 : (v : Int) = y := congrArg Prod.snd e
      exact ⟨by omega, by omega⟩
    · rintro ⟨rfl, rfl⟩
      exact Prod.ext (by show ((x.toNat : Nat) : Int) = x; omega) (by show ((y.toNat : Nat) : Int) = y; omega)
  unfold doneR
  cases adds with
  | true =>
    show _ = moreR R (x, y) u v
    unfold moreR
    rw [hh]
    by_cases h : u = x.toNat ∧ v = y.toNat
    · rw [if_pos h, decide_eq_true h, Bool.or_true]
    · rw [if_neg h, decide_eq_false h, Bool.or_false]
  | false =>
    show _ = lessR R (x, y) u v
    unfold lessR
    rw [hh]
    by_cases h : u = x.toNat ∧ v = y.toNat
    · rw [if_pos h, decide_eq_true h, Bool.not_true, Bool.and_false]
    · rw [if_neg h, decide_eq_false h, Bool.not_false, Bool.and_true]
theorem due_good {adds : Bool} {n : Nat} {R : Rel} {p : Int × Int} (ir : ∀ x y, x < n → y < n → R x y = true → x ≠ y) (h : DueG adds n R p) : Good n p := by
  unfold DueG at h
  split at h
  · exact h
  · exact good_ties ir p h
abbrev sDeeds : Stmt := top 42
theorem scDeeds : FnScope ["box", "count", "pairs", "nets", "tables", "k", "at", "table", "pair", "adds", "good", "made", "last"] ["box", "count", "pairs"] (defScope sDeeds) := ⟨rfl, rfl, rfl, by decide +kernel, rfl, by decide +kernel, by decide +kernel⟩
def spDeeds : Sp := fun vs H Q _ => ∃ (b bc : Addr) (n : Nat) (l : Addr) (as : List Addr) (ps : List (Int × Int)), vs = [.ref b, .int (n : Int), .ref l] ∧ BoxOk H b bc ∧ 1 ≤ n ∧ n ≤ 24 ∧ H l = some (.lst (as.map V.ref)) ∧ PrT H as ps ∧ (∀ p ∈ ps, Good n p) ∧ ps.length ≤ 60 ∧ ∀ H', Kp b H H' → BoxOk H' b bc → Q (.bl true) H'
theorem ok_Deeds (D : Df K mg "_law_deeds" sDeeds ["box", "count", "pairs"]) (T : LTx K mg CN CI CU CL CS mc mu) (KNet : MakX P w K mg base 5 "Net" CN (spInit CN CI)) (GTable : C8.Cal P w K mg base 1 "_law_table" spTable []) (GDraw : C8.Cal P w K mg base 1 "_law_draw" spDraw []) (GDeedPair : C8.Cal P w K mg base 5 "_law_deed_pair" spDeedPair []) (GFirstBad : C8.Cal P w K mg base 1 "_law_first_bad" spFirstBad []) (GDeed : C8.Cal P w K mg base 10 "_law_deed" (spDeed CN) []) (GRefused : C8.Cal P w K mg base 3 "_law_refused" spRefused []) (PLinks : PropC P w K mg base 1 CN "links" (spLinks CN)) (GTies : C8.Cal P w K mg base 1 "_law_ties" spTies []) (GPairsAre : C8.Cal P w K mg base 3 "_law_pairs_are" spPairsAre []) (GNetIs : C8.Cal P w K mg base 9 "_law_net_is" (spNetIs CN) []) : C8.Cal P w K mg base 13 "_law_deeds" spDeeds [] := by
  obtain ⟨f, fd, F, hm, hb⟩ := D
  refine ⟨f, fd, ["box", "count", "pairs"], [], F.ok scDeeds (fun vs H Q E h => ?_) (fun cdv A outer s H vs Q E hr h => ?_), hm, F.kp, hb, .nil⟩
  · obtain ⟨b, bc, n, l, as, ps, rfl, bx0, b1, b2, hl, pa, gd, lp, kQ⟩ := h
    rfl
  · obtain ⟨b, bc, n, l, as, ps, rfl, bx0, b1, b2, hl, pa, gd, lp, kQ⟩ := h
    have la : as.length ≤ 500 := by
      rw [pa.1]
      omega
    refine ⟨_, (pss_cons (ps_set (i := 3) scDeeds.nd rfl (Or.inl rfl) (pe_lst (pa_cons (pe_mkX KNet hr (by decide) (by rfl) passL (pa_cons (pv 1) (pa_cons (pe_callTy call_list_of (by rfl) T.list (by decide +kernel) (pa_cons (pv 2) pa_nil)) pa_nil))) pa_nil)))
      (pss_cons (ps_set (i := 4) scDeeds.nd rfl (Or.inl rfl) (pe_lst (pa_cons (C8.pe_c GTable hr (by decide) (by rfl) (pa_cons (pv 1) (pa_cons (pv 2) (pa_cons pe_bl pa_nil)))) pa_nil)))
      (pss_cons (ps_for PassesOwn.never rfl (pi_range1 rfl T.range (pa_cons (C8.pe_c GDraw hr (by decide) (by rfl) (pa_cons (pv 0) (pa_cons pe_int pa_nil))) pa_nil)) (pg_name (i := 5) scDeeds.nd rfl (Or.inl rfl))
        (pss_cons (ps_set (i := 6) scDeeds.nd rfl (Or.inl rfl) (C8.pe_c GDraw hr (by decide) (by rfl) (pa_cons (pv 0) (pa_cons (pe_callB call_len_seq (by rfl) T.len (by decide +kernel) (pa_cons (pv 3) pa_nil)) pa_nil))))
        (pss_cons (ps_set (i := 7) scDeeds.nd rfl (Or.inl rfl) (pe_callTy call_list_of (by rfl) T.list (by decide +kernel) (pa_cons (pe_ix ix_list (pv 4) (pv 6) (fun _ _ => rfl)) pa_nil)))
        (pss_cons (ps_set (i := 8) scDeeds.nd rfl (Or.inl rfl) (C8.pe_c GDeedPair hr (by decide) (by rfl) (pa_cons (pv 0) (pa_cons (pv 1) (pa_cons (pv 7) pa_nil)))))
        (pss_cons (ps_set (i := 9) scDeeds.nd rfl (Or.inl rfl) (pe_cmpR op_eq (C8.pe_c GDraw hr (by decide) (by rfl) (pa_cons (pv 0) (pa_cons pe_int pa_nil))) pe_int (nomark _)))
        (C8.pss_cut (ps_set (i := 10) scDeeds.nd rfl (Or.inl rfl) (pe_cmpR op_isN (C8.pe_c GFirstBad hr (by decide) (by rfl) (pa_cons (pv 1) (pa_cons (pe_lst (pa_cons (pv 8) pa_nil)) pa_nil))) pe_non (nomark _)))
        (C8.pss_cut (ps_if (PW.pt (pw_and (pt_val (pv 10)) (pw_and1 (pt_not (pt_val (pv 9))))))
          (pss_one (ps_set (i := 10) scDeeds.nd rfl (Or.inl rfl) (pe_cmpR op_eq (pe_ix ix_list (pv 7) (pe_op op_add (pe_op op_mul (pe_ix ix_tup (pv 8) pe_int (fun _ _ => rfl)) (pv 1)) (pe_ix ix_tup (pv 8) pe_int (fun _ _ => rfl))) (fun _ _ => rfl)) pe_int (nomark _))))
          pss_nil)
        (C8.pss_cut (ps_set (i := 11) scDeeds.nd rfl (Or.inl rfl) (C8.pe_c GDeed hr (by decide) (by rfl) (pa_cons (pv 9) (pa_cons (pe_ix ix_list (pv 3) (pv 6) (fun _ _ => rfl)) (pa_cons (pv 8) pa_nil)))))
        (pss_one (ps_if (pt_not (pt_val (pv 10)))
          (pss_one (ps_if (pt_not (pt_val (C8.pe_c GRefused hr (by decide) (by rfl) (pa_cons (pv 11) (pa_cons (pv 8) pa_nil)))))
            (pss_one (ps_ret pe_bl))
            pss_nil))
          (pss_cons (ps_if (pt_not (pt_val (pe_ix ix_tup (pv 11) pe_int (fun _ _ => rfl))))
            (pss_one (ps_ret pe_bl))
            pss_nil)
          (pss_cons (ps_asg (pe_callTy call_int1 (by rfl) T.int (by decide +kernel) (pa_cons (pv 9) pa_nil)) (pg_sub (pv 7) (pe_op op_add (pe_op op_mul (pe_ix ix_tup (pv 8) pe_int (fun _ _ => rfl)) (pv 1)) (pe_ix ix_tup (pv 8) pe_int (fun _ _ => rfl))) set_list))
          (pss_cons (ps_expr (pe_bm PySem.F.plainAttrs_list PySem.F.slot_list_append PySem.F.type_list_append mt_append (pv 3) (pa_cons (pe_ix ix_tup (pv 11) pe_int (fun _ _ => rfl)) pa_nil)))
          (pss_one (ps_expr (pe_bm PySem.F.plainAttrs_list PySem.F.slot_list_append PySem.F.type_list_append mt_append (pv 4) (pa_cons (pv 7) pa_nil)))))))))))))))))
      (pss_cons (ps_for PassesOwn.never rfl (pi_range1 rfl T.range (pa_cons (pe_callB call_len_seq (by rfl) T.len (by decide +kernel) (pa_cons (pv 3) pa_nil)) pa_nil)) (pg_name (i := 5) scDeeds.nd rfl (Or.inl rfl))
        (pss_one (ps_if (pt_not (pt_val (C8.pe_c GPairsAre hr (by decide) (by rfl) (pa_cons (pe_pr PLinks hr (by decide) (pe_ix ix_list (pv 3) (pv 5) (fun _ _ => rfl))) (pa_cons (C8.pe_c GTies hr (by decide) (by rfl) (pa_cons (pv 1) (pa_cons (pe_ix ix_list (pv 4) (pv 5) (fun _ _ => rfl)) pa_nil))) pa_nil)))))
          (pss_one (ps_ret pe_bl))
          pss_nil)))
      (pss_cons (ps_set (i := 12) scDeeds.nd rfl (Or.inl rfl) (pe_op op_sub (pe_callB call_len_seq (by rfl) T.len (by decide +kernel) (pa_cons (pv 3) pa_nil)) pe_int))
      (pss_cons (ps_if (pt_not (pt_val (C8.pe_c GNetIs hr (by decide) (by rfl) (pa_cons (pv 0) (pa_cons (pe_ix ix_list (pv 3) (pv 12) (fun _ _ => rfl)) (pa_cons (pv 1) (pa_cons (pe_ix ix_list (pv 4) (pv 12) (fun _ _ => rfl)) pa_nil)))))))
        (pss_one (ps_ret pe_bl))
        pss_nil)
      (pss_one (ps_ret (C8.pe_c GNetIs hr (by decide) (by rfl) (pa_cons (pv 0) (pa_cons (pe_ix ix_list (pv 3) pe_int (fun _ _ => rfl)) (pa_cons (pv 1) (pa_cons (pe_ix ix_list (pv 4) pe_int (fun _ _ => rfl)) pa_nil))))))))))))), ?_⟩
    -- nets = [Net(count, list(pairs))]
    refine ⟨_, rfl, _, rfl, _, _, rfl, .inl (SqL.of (by fail "hp")), fun p3 np3 => fun a2 dx2 na2 ndx2 nx2 => mk_init1 na2 ndx2 nx2 (by fail "hp") (by fail "pr") (by omega) (fun n2 e2 c2 d2 g2 H2 sm2 nt2 => ⟨(by fail "sz"), fun p1 np1 => ?_⟩) (fun z => absurd (show (1 : Int) ≤ (n : Int) ∧ (n : Int) ≤ 24 by omega) z) (fun m e _ _ => by obtain rfl : n = m := (by omega); exact BadRow.none gd)⟩
    obtain rfl : n = n2 := by omega
    -- tables = [_law_table(count, pairs, False)]
    refine ⟨_, rfl, _, rfl, _, _, _, _, _, rfl, (by fail "hp"), (by fail "pr"), (by fail "om"), (by assumption), fun t5 M5 H5 nt5 sm5 ht5 tb5 => ⟨(by fail "sz"), fun p4 np4 => ?_⟩⟩
    have sH2 : Same H H2 := (Same.new (Same.refl H) np3).trans sm2
    have nH1 : H p1 = none := free_back np1 sH2
    have sH5 : Same H H5 := (Same.new sH2 np1).trans sm5
    have nH4 : H p4 = none := free_back np4 sH5
    have kpM : Kp b H (upd H5 p4 (.lst [.ref t5])) := Kp.new (Kp.of sH5) np4
    have bxM : BoxOk (upd H5 p4 (.lst [.ref t5])) b bc := BoxOk.new (BoxOk.same sH5 bx0) np4
    have fm0 : Fam CN (upd H5 p4 (.lst [.ref t5])) p1 p4 n [a2] [t5] := by
      have e1 : H5 p1 = some (.lst [.ref a2]) := sm5 _ _ upd_same
      refine ⟨upd_new e1 np4, upd_same, ne_of_none e1 np4, rfl, Nat.le_refl 1, fun k a t q1 q2 => ?_⟩
      cases k with
      | succ k => cases q1
      | zero =>
        cases q1
        cases q2
        exact ⟨_, _, ((nt2.new np1).same sm5).new np4, upd_new ht5 np4, tb5⟩
    clear sH2 sH5
    -- for k in range(_law_draw(box, 9)):
    refine ⟨_, rfl, _, _, _, rfl, (by fail "bx"), (by fail "om"), (by fail "om"), fun d6 H6 da6 db6 kp6 bx6 => ⟨_, rfl, (by fail "om"), (by fail "om"), for_range (fun i σ H' => (Kp b H H' ∧ BoxOk H' b bc) ∧ ∃ ns ts, Fam CN H' p1 p4 n ns ts ∧ ns.length ≤ i + 1 ∧ ∃ u5 u6 u7 u8 u9 u10 u11 u12, σ = [some (.ref b), some (.int (n : Int)), some (.ref l), some (.ref p1), some (.ref p4), u5, u6, u7, u8, u9, u10, u11, u12]) ⟨⟨Kp.trans kpM kp6, bx6⟩, [a2], [t5], fm0.kp kp6 bxM, by show 1 ≤ 0 + 1; decide, none, none, none, none, none, none, none, none, rfl⟩ ?_ ?_⟩⟩
    · rintro i σ Hi hi ⟨⟨kpi, bxi⟩, ns, ts, fm, ln, u5, u6, u7, u8, u9, u10, u11, u12, rfl⟩
      have f1 := fm.h1
      have f4 := fm.h4
      have pos := fm.pos
      have lnn : (ns.map V.ref).length ≤ 9 := by
        rw [List.length_map]
        omega
      have pos2 : 1 ≤ (ns.map V.ref).length := by
        rw [List.length_map]
        exact pos
      -- at = _law_draw(box, len(nets))
      refine ⟨_, rfl, _, rfl, _, _, rfl, .inl (SqL.of (by fail "hp")), _, _, _, rfl, (by fail "bx"), (by fail "om"), (by fail "om"), fun d7 H7 da7 db7 kp7 bx7 => ?_⟩
      have fm7 := fm.kp kp7 bxi
      have f17 := fm7.h1
      have f47 := fm7.h4
      have dn7 := db7
      have dt7 : d7 < (((ts.map V.ref).length : Nat) : Int) := by
        rw [List.length_map, ← fm.len]
        rw [List.length_map] at db7
        exact db7
      obtain ⟨R, M, naA, htA, tbA⟩ := fm7.at_ d7.toNat _ _ (getD_at da7 db7) (getD_at da7 dt7)
      -- table = list(tables[at])
      refine ⟨_, rfl, _, rfl, _, _, _, _, rfl, rfl, SqL.of (by fail "hp"), (by fail "ix"), _, _, rfl, .inl (SqL.of (by fail "hp")), fun p8 np8 => ?_⟩
      -- pair = _law_deed_pair(box, count, table)
      refine ⟨_, rfl, _, rfl, _, rfl, _, _, _, _, _, _, rfl, (by fail "bx"), (by fail "hp"), (by assumption), (by fail "om"), (by fail "om"), fun x9 y9 t9 H9 kp9 bx9 ht9 => ?_⟩
      -- adds = _law_draw(box, 2) == 0
      refine ⟨_, rfl, _, _, _, rfl, (by fail "bx"), (by fail "om"), (by fail "om"), fun d10 H10 da10 db10 kp10 bx10 => ⟨rfl, ?_⟩⟩
      refine ⟨fun σ H' => Same H10 H' ∧ ∃ gb : Bool, (gb = true ↔ Good n (x9, y9)) ∧ σ = [some (.ref b), some (.int (n : Int)), some (.ref l), some (.ref p1), some (.ref p4), some (.int (0 + (i : Int))), some (.int d7), some (.ref p8), some (.ref t9), some (.bl (decide (V.int d10 = V.int 0))), some (.bl gb), u11, u12], ?_, ?_⟩
      · -- good = _law_first_bad(count, [pair]) is None
        refine ⟨_, rfl, _, rfl, (by fail "sz"), fun p12 np12 => ⟨_, _, [_], [_], rfl, (by fail "hp"), PrT.one (by fail "hp"), (fun g => ⟨rfl, ?_⟩), (fun j a p ha hp hb hf => ⟨rfl, ?_⟩)⟩⟩
        · refine ⟨Same.new (Same.refl _) np12, _, ?_, rfl⟩
          exact ⟨fun _ => g _ List.mem_cons_self, fun _ => decide_eq_true rfl⟩
        · refine ⟨Same.new (Same.refl _) np12, _, ?_, rfl⟩
          have ep : p = (x9, y9) := List.mem_singleton.mp (List.mem_of_getElem? hp)
          rw [ep] at hb
          exact ⟨fun z => absurd (of_decide_eq_true z) (by intro q; cases q), fun z => absurd z hb⟩
      · rintro σ H11 ⟨sm11, gb, hgb, rfl⟩
        refine ⟨fun σ H' => Same H10 H' ∧ ∃ gb : Bool, (gb = true ↔ DueG (decide (V.int d10 = V.int 0)) n R (x9, y9)) ∧ σ = [some (.ref b), some (.int (n : Int)), some (.ref l), some (.ref p1), some (.ref p4), some (.int (0 + (i : Int))), some (.int d7), some (.ref p8), some (.ref t9), some (.bl (decide (V.int d10 = V.int 0))), some (.bl gb), u11, u12], ?_, ?_⟩
        · -- if good and (not adds):
          refine ⟨_, rfl, _, rfl, ?_⟩
          refine ifB (fun g13 => ?_) (fun g13 => ?_)
          · refine ⟨_, rfl, _, rfl, ?_⟩
            refine nifB (fun g14 => ?_) (fun g14 => ?_)
            · have hG := hgb.mp ‹gb = true›
              have ixf := tab_at tbA (x := x9) (y := y9) ⟨hG.1, hG.2.1, hG.2.2.1, hG.2.2.2.1⟩
              have mulx : 0 ≤ x9 ∧ x9 < n := ⟨hG.1, hG.2.1⟩
              -- good = table[pair[0] * count + pair[1]] == 1
              refine ⟨_, rfl, _, rfl, _, _, _, _, rfl, rfl, SqT.of (by fail "hp"), (by fail "ix"), _, rfl, _, _, rfl, rfl, (by fail "mul"), _, rfl, _, _, _, _, rfl, rfl, SqT.of (by fail "hp"), (by fail "ix"), _, _, rfl, rfl, _, _, _, _, rfl, rfl, SqL.of (by fail "hp"), (by fail "ix"), rfl, ?_⟩
              refine ⟨sm11, _, ?_, rfl⟩
              rw [bit_one, DueG, if_neg (by rw [‹decide (V.int d10 = V.int 0) = false›]; exact Bool.false_ne_true), mem_ties_int]
              exact ⟨fun z => ⟨hG.1, hG.2.1, hG.2.2.1, hG.2.2.2.1, z⟩, fun z => z.2.2.2.2⟩
            · refine ⟨sm11, _, ?_, rfl⟩
              rw [DueG, if_pos ‹decide (V.int d10 = V.int 0) = true›]
              exact hgb
          · fail "ite"
            refine ⟨sm11, _, ?_, rfl⟩
            exact ⟨fun z => absurd z (by rw [‹gb = false›]; exact Bool.false_ne_true), fun z => hgb.mpr (due_good naA.ir z)⟩
        · rintro σ H12 ⟨sm12, gd2, hgd, rfl⟩
          refine ⟨fun σ H' => ∃ u, Same H10 H' ∧ (gd2 = true → ∃ a2, H' u = some (.tup [.bl true, .ref a2]) ∧ NetAt CN H' a2 n (doneR (decide (V.int d10 = V.int 0)) R (x9, y9))) ∧ (gd2 = false → ∃ v, H' u = some (.tup [.bl false, .bl true, .ref v]) ∧ H' v = some (.tup [.int x9, .int y9])) ∧ σ = [some (.ref b), some (.int (n : Int)), some (.ref l), some (.ref p1), some (.ref p4), some (.int (0 + (i : Int))), some (.int d7), some (.ref p8), some (.ref t9), some (.bl (decide (V.int d10 = V.int 0))), some (.bl gd2), some (.ref u), u12], ?_, ?_⟩
          · -- made = _law_deed(adds, nets[at], pair)
            refine ⟨_, rfl, _, rfl, _, rfl, _, _, _, _, rfl, rfl, SqL.of (by fail "hp"), (by fail "ix"), _, rfl, _, _, _, _, _, _, _, rfl, (by fail "na"), (by fail "hp"), (fun g15 t15 a15 H15 nt15 sm15 ht15 na15 => ?_), (fun nb u v H13 nu sm13 hu hv => ?_)⟩
            · exact ⟨t15, sm12.trans sm15, fun _ => ⟨a15, ht15, na15⟩, fun z => absurd (hgd.mpr g15) (by rw [z]; exact Bool.false_ne_true), rfl⟩
            · exact ⟨u, sm12.trans sm13, fun z => absurd (hgd.mp z) nb, fun _ => ⟨v, hu, hv⟩, rfl⟩
          · rintro σ H13 ⟨u, sm13, hgt, hgf, rfl⟩
            have kpF : Kp b H H13 := Kp.trans (Kp.trans (Kp.trans (Kp.new (Kp.trans kpi kp7) np8) kp9) kp10) (Kp.of sm13)
            have bxF : BoxOk H13 b bc := BoxOk.same sm13 bx10
            have fmF := (((fm7.same (Same.new (Same.refl _) np8)).kp kp9 (BoxOk.new bx7 np8)).kp kp10 bx9).same sm13
            -- if not good:
            refine ⟨_, rfl, _, rfl, ?_⟩
            refine nifB (fun g16 => ?_) (fun g16 => ?_)
            · obtain ⟨v, hu, hv⟩ := hgf ‹gd2 = false›
              -- if not _law_refused(made, pair):
              refine ⟨_, rfl, _, rfl, _, _, _, rfl, (by fail "hp"), .inr ⟨_, _, _, _, rfl, rfl, (by fail "hp"), (by fail "hp")⟩, ⟨_, rfl, ?_⟩⟩
              fail "ite"
              exact ⟨⟨kpF, bxF⟩, ns, ts, fmF, by omega, _, _, _, _, _, _, _, _, rfl⟩
            · obtain ⟨a2', hu, naN⟩ := hgt ‹gd2 = true›
              have hG := due_good naA.ir (hgd.mp ‹gd2 = true›)
              have ixn : ixN (M.map V.int).length (x9 * (n : Int) + y9) = some (x9.toNat * n + y9.toNat) := by
                have e1 : (x9.toNat : Int) = x9 := by
                  have := hG.1
                  dsimp only at this
                  omega
                have e2 : (y9.toNat : Int) = y9 := by
                  have := hG.2.2.1
                  dsimp only at this
                  omega
                have q := ixN_tab (x := x9.toNat) (y := y9.toNat) tbA.len (by have := hG.2.1; dsimp only at this; omega) (by have := hG.2.2.2.1; dsimp only at this; omega)
                rw [e1, e2] at q
                exact q
              have mulx : 0 ≤ x9 ∧ x9 < n := ⟨hG.1, hG.2.1⟩
              -- if not made[0]:
              refine ⟨_, rfl, _, _, _, _, rfl, rfl, SqT.of (by fail "hp"), (by fail "ix"), _, rfl, ?_⟩
              refine nifB (fun g18 => ?_) (fun g18 => ?_)
              · -- return False
                contradiction
              · -- table[pair[0] * count + pair[1]] = int(adds)
                refine ⟨_, rfl, .inr ⟨_, rfl, _, rfl, _, rfl, _, _, _, _, rfl, rfl, SqT.of (by fail "hp"), (by fail "ix"), _, rfl, _, _, rfl, rfl, (by fail "mul"), _, rfl, _, _, _, _, rfl, rfl, SqT.of (by fail "hp"), (by fail "ix"), _, _, rfl, rfl, _, _, _, _, rfl, rfl, (by fail "hp"), (by fail "ixn"), ?_⟩⟩
                have h8F : H13 p8 = some (.lst (M.map V.int)) := by fail "hp"
                rw [set_ints]
                have fmX := Fam.set fm7 fmF np8 h8F (ys := (M.set (x9.toNat * n + y9.toNat) (if (decide (V.int d10 = V.int 0)) = true then 1 else 0)).map V.int)
                have naX := NetAt.lst naN h8F (ys := (M.set (x9.toNat * n + y9.toNat) (if (decide (V.int d10 = V.int 0)) = true then 1 else 0)).map V.int)
                have tbX := done_tab (adds := (decide (V.int d10 = V.int 0))) tbA hG
                have nH8 : H p8 = none := Kp.free (Kp.trans kpi kp7) bx7 np8
                have fx1 := fmX.h1
                have huX : upd H13 p8 (.lst ((M.set (x9.toNat * n + y9.toNat) (if (decide (V.int d10 = V.int 0)) = true then 1 else 0)).map V.int)) u = some (.tup [.bl true, .ref a2']) := upd_oth hu (ne_of hu h8F (by intro q; cases q))
                have lts : (ts.map V.ref).length ≤ 9 := by
                  rw [List.length_map, ← fm.len]
                  omega
                -- nets.append(made[1])
                refine ⟨_, rfl, .inl ⟨rfl, _, SqL.of (by fail "hp")⟩, _, rfl, _, _, _, _, rfl, rfl, SqT.of (by fail "hp"), (by fail "ix"), _, _, _, rfl, rfl, (by fail "hp"), (by fail "szl"), ?_⟩
                have q4 : upd (upd H13 p8 (.lst ((M.set (x9.toNat * n + y9.toNat) (if (decide (V.int d10 = V.int 0)) = true then 1 else 0)).map V.int))) p1 (.lst (ns.map V.ref ++ [.ref a2'])) p4 = some (.lst (ts.map V.ref)) := by
                  rw [upd_ne fmX.ne.symm]
                  exact fmX.h4
                -- tables.append(table)
                refine ⟨_, rfl, .inl ⟨rfl, _, SqL.of (by fail "hp")⟩, _, rfl, _, _, _, rfl, rfl, (by fail "hp"), (by fail "szl"), ?_⟩
                exact ⟨⟨Kp.mut (Kp.mut (Kp.mut kpF nH8) nH1) nH4, BoxOk.mut (BoxOk.mut (BoxOk.mut bxF bx0 nH8) bx0 nH1) bx0 nH4⟩, ns ++ [a2'], ts ++ [p8], Fam.push fmX naX upd_same tbX, by rw [List.length_append]; show ns.length + 1 ≤ _; omega, _, _, _, _, _, _, _, _, rfl⟩
    · rintro σ Hi ⟨⟨kpi, bxi⟩, ns, ts, fm, ln, u5, u6, u7, u8, u9, u10, u11, u12, rfl⟩
      have f1 := fm.h1
      have f4 := fm.h4
      have pos := fm.pos
      -- for k in range(len(nets)):
      refine ⟨_, rfl, _, _, rfl, .inl (SqL.of (by fail "hp")), _, rfl, (by fail "om"), (by fail "om"), for_range (fun k σ H' => Same Hi H' ∧ ∃ u5 u6 u7 u8 u9 u10 u11 u12, σ = [some (.ref b), some (.int (n : Int)), some (.ref l), some (.ref p1), some (.ref p4), u5, u6, u7, u8, u9, u10, u11, u12]) ⟨Same.refl _, _, _, _, _, _, _, _, _, rfl⟩ ?_ ?_⟩
      · rintro k σ Hk hk ⟨smk, u5, u6, u7, u8, u9, u10, u11, u12, rfl⟩
        have hk2 : k < ns.length := by
          rw [List.length_map] at hk
          omega
        have fmk := fm.same smk
        have fk1 := fmk.h1
        have fk4 := fmk.h4
        obtain ⟨a1, e1⟩ : ∃ a, ns[k]? = some a := ⟨_, List.getElem?_eq_getElem hk2⟩
        obtain ⟨t1, e2⟩ : ∃ t, ts[k]? = some t := ⟨_, List.getElem?_eq_getElem (fm.len ▸ hk2)⟩
        obtain ⟨R1, M1, na1, ht1, tb1⟩ := fmk.at_ k a1 t1 e1 e2
        obtain ⟨⟨dxk, dk, hak, hdk⟩, _, _, _⟩ := id na1
        have lt := ties_len R1 b2
        -- if not _law_pairs_are(nets[k].links, _law_ties(count, tables[k])):
        refine ⟨_, rfl, _, rfl, _, _, _, _, rfl, rfl, SqL.of (by fail "hp"), (by fail "ix"), _, _, _, rfl, (by fail "hp"), _, _, _, rfl, (by fail "na"), fun l21 as21 H21 nl21 sm21 hl21 pl21 => ⟨_, rfl, _, rfl, _, rfl, _, _, _, _, rfl, rfl, SqL.of (by fail "hp"), (by fail "ix"), _, _, _, _, rfl, (by fail "hp"), (by assumption), (by fail "om"), fun l20 as20 H20 nl20 sm20 hl20 pl20 => ⟨_, _, _, _, _, rfl, (by fail "hp"), (by fail "hp"), (by fail "pr"), (by fail "pr"), (by fail "om"), ⟨_, rfl, ?_⟩⟩⟩⟩
        fail "ite"
        exact ⟨(smk.trans sm21).trans sm20, _, _, _, _, _, _, _, _, rfl⟩
      · rintro σ Hj ⟨smk, u5, u6, u7, u8, u9, u10, u11, u12, rfl⟩
        have fmj := fm.same smk
        have fj1 := fmj.h1
        have fj4 := fmj.h4
        have lml : (ns.map V.ref).length = ns.length := List.length_map _
        obtain ⟨aL, eL1⟩ : ∃ a, ns[ns.length - 1]? = some a := ⟨_, List.getElem?_eq_getElem (by omega)⟩
        obtain ⟨tL, eL2⟩ : ∃ t, ts[ns.length - 1]? = some t := ⟨_, List.getElem?_eq_getElem (by rw [← fm.len]; omega)⟩
        obtain ⟨RL, ML, naL, htL, tbL⟩ := fmj.at_ _ aL tL eL1 eL2
        have bxj := BoxOk.same smk bxi
        -- last = len(nets) - 1
        refine ⟨_, rfl, _, _, rfl, .inl (SqL.of (by fail "hp")), _, _, rfl, rfl, ?_⟩
        -- if not _law_net_is(box, nets[last], count, tables[last]):
        refine ⟨_, rfl, _, rfl, _, rfl, _, _, _, _, rfl, rfl, SqL.of (by fail "hp"), (by fail "ix"), _, rfl, _, rfl, _, rfl, _, _, _, _, rfl, rfl, SqL.of (by fail "hp"), (by fail "ix"), _, _, _, _, _, _, _, rfl, (by fail "bx"), (by fail "na"), (by fail "hp"), (by assumption), fun H22 kp22 bx22 => ⟨_, rfl, ?_⟩⟩
        fail "ite"
        have fm22 := fmj.kp kp22 (BoxOk.same smk bxi)
        have g1 := fm22.h1
        have g4 := fm22.h4
        obtain ⟨a0, e10⟩ : ∃ a, ns[0]? = some a := ⟨_, List.getElem?_eq_getElem (by omega)⟩
        obtain ⟨t0, e20⟩ : ∃ t, ts[0]? = some t := ⟨_, List.getElem?_eq_getElem (by rw [← fm.len]; omega)⟩
        obtain ⟨R0, M0, na0, ht0, tb0⟩ := fm22.at_ 0 a0 t0 e10 e20
        -- return _law_net_is(box, nets[0], count, tables[0])
        refine ⟨_, rfl, _, rfl, _, _, _, _, rfl, rfl, SqL.of (by fail "hp"), (by fail "ix"), _, rfl, _, rfl, _, _, _, _, rfl, rfl, SqL.of (by fail "hp"), (by fail "ix"), _, _, _, _, _, _, _, rfl, (by fail "bx"), (by fail "na"), (by fail "hp"), (by assumption), fun H23 kp23 bx23 => ?_⟩
        exact kQ _ (Kp.trans (Kp.trans (Kp.trans kpi (Kp.of smk)) kp22) kp23) bx23
end
end K00

end
section
set_option Elab.async false
set_option linter.all false
set_option maxRecDepth 100000
set_option maxHeartbeats 800000
namespace K00
open PySem L2 Kit KR KX L2H
local macro_rules | `(tactic| fail "om") => `(tactic| first | omega | (simp only [List.length_map, List.length_append, List.length_cons, List.length_nil]; omega) | (simp only [List.length_map, List.length_append, List.length_cons, List.length_nil] at *; omega) | assumption | decide | fail "no om")
local macro_rules | `(tactic| fail "nz") => `(tactic| first | decide | omega | fail "no nz")
local macro_rules | `(tactic| fail "dv") => `(tactic| exact ⟨by first | decide | omega, by first | decide | omega⟩)
local macro_rules | `(tactic| fail "mul") => `(tactic| first | exact .inr ⟨by decide, by decide⟩ | exact .inl ⟨by decide, by decide⟩ | exact mulF (by decide) (by decide) | exact .inl ⟨by omega, by omega⟩ | exact .inr ⟨by omega, by omega⟩ | fail "no mul")
local macro_rules | `(tactic| fail "sz") => `(tactic| first | assumption | exact Nat.zero_le _ | (show 1 ≤ sizeLine; decide) | (show 2 ≤ sizeLine; decide) | (show 3 ≤ sizeLine; decide) | (show 4 ≤ sizeLine; decide) | (show 5 ≤ sizeLine; decide) | exact Evl.sz_of (by omega) | (refine Evl.sz_of ?_; simp only [List.length_append, List.length_map, List.length_cons, List.length_nil]; omega) | fail "no sz")
local macro_rules | `(tactic| fail "szl") => `(tactic| first | exact Evl.sz_lt (by omega) | (refine Evl.sz_lt ?_; simp only [List.length_append, List.length_map, List.length_cons, List.length_nil]; omega) | fail "no szl")
local macro_rules | `(tactic| fail "ix") => `(tactic| first | assumption | exact ix0 | exact ix1 | exact ix2 | exact at_ref (by assumption) (by omega) | exact at_int (by assumption) (by omega) | exact at_drawn (by assumption) (by assumption) | rfl | fail "no ix")
local macro_rules | `(tactic| fail "ixn") => `(tactic| first | rfl | assumption | fail "no ixn")
local macro_rules | `(tactic| fail "nb") => `(tactic| first | assumption | exact nb_tup | exact nb_nil | exact nb_ints | exact nb_refs | exact nb_ins | exact nb_dT | exact nb_frz | fail "no nb")
local macro_rules | `(tactic| fail "ne") => `(tactic| first | assumption | exact Ne.symm (by assumption) | exact ne_of_none (by assumption) (by assumption) | exact (ne_of_none (by assumption) (by assumption)).symm | exact ne_of (by assumption) (by assumption) (by intro q; cases q) | exact ne_of (by assumption) (by assumption) (by simp) | fail "no ne")
local macro_rules | `(tactic| fail "hp") => `(tactic| first | assumption | exact upd_same | (refine' Tk.get (by assumption) ?k1; (case k1 => fail "tk")) | (with_reducible refine' upd_new ?h1 ?n1; (case n1 => assumption); (case h1 => fail "hp")) | (refine' Same.get (by assumption) ?h1; (case h1 => fail "hp")) | (refine' Kp.get (by assumption) (by fail "bx") ?h1 ?d1; (case h1 => fail "hp"); (case d1 => fail "nb")) | (with_reducible refine' upd_oth ?h1 ?n1; (case n1 => fail "ne"); (case h1 => fail "hp")) | (with_reducible refine' upd_oth ?h1 ?n1; (case h1 => fail "hp"); (case n1 => fail "ne")) | fail "no hp")
local macro_rules | `(tactic| fail "bx") => `(tactic| first | assumption | (with_reducible refine' BoxOk.new ?h1 ?n1; (case n1 => assumption); (case h1 => fail "bx")) | (refine' BoxOk.same (by assumption) ?h1; (case h1 => fail "bx")) | (with_reducible refine' BoxOk.mut ?h1 ?h2 ?n1; (case n1 => assumption); (case h2 => assumption); (case h1 => fail "bx")) | fail "no bx")
local macro_rules | `(tactic| fail "kp") => `(tactic| first | assumption | exact Kp.refl | (with_reducible refine' Kp.at ?h1; (case h1 => fail "kp")) | (with_reducible refine' Kp.new ?h1 ?n1; (case n1 => assumption); (case h1 => fail "kp")) | (with_reducible refine' Kp.mut ?h1 ?n1; (case n1 => assumption); (case h1 => fail "kp")) | (refine' Kp.tr (by assumption) ?h1; (case h1 => fail "kp")) | (refine' Kp.tr (Kp.of (by assumption)) ?h1; (case h1 => fail "kp")) | fail "no kp")
local macro_rules | `(tactic| fail "ite") => `(tactic| first | refine iteT ?_ | refine iteF ?_)
local macro_rules | `(tactic| fail "tt") => `(tactic| first | rfl | exact decide_eq_true (by first | rfl | omega | assumption) | exact decide_eq_true (congrArg V.int (by first | rfl | omega)) | fail "no tt")
local macro_rules | `(tactic| fail "cv") => `(tactic| first | exact .ty _ | exact .own _)
local macro_rules | `(tactic| fail "tx") => `(tactic| first | exact .base (.int _) | exact .base (.bl _) | exact .base .non | exact .base (.lst (by fail "hp")) | exact .base (.tup (by fail "hp")) | fail "no tx")
local macro_rules | `(tactic| fail "dead") => `(tactic| (exfalso; first | omega | contradiction | simp_all))
local macro_rules | `(tactic| fail "dp") => `(tactic| first | exact .tup (SqT.of (by fail "hp")) (.cons (.int _) (.cons (.int _) .nil)) | exact .lst (SqL.of (by fail "hp")) (dpPrs (by fail "pr")) | exact .lst (SqL.of (by fail "hp")) (dpInts _) | exact .lst (SqL.of (by fail "hp")) .nil | fail "no dp")
local macro_rules | `(tactic| fail "shp") => `(tactic| first | assumption | exact prD_shaped _ | exact PySem.W.ke_shaped_ints _ | rfl | fail "no shp")
local macro_rules | `(tactic| fail "pr") => `(tactic| first | assumption | exact PrT.mono (by assumption) (by fail "tk") | fail "no pr")
local macro_rules | `(tactic| fail "tk") => `(tactic| first | assumption | exact Tk.refl | (with_reducible refine' Tk.new ?h1 ?n1; (case n1 => assumption); (case h1 => fail "tk")) | (refine' Tk.tr (Kp.tk (by assumption) (by fail "bx")) ?h1; (case h1 => fail "tk")) | (refine' Tk.tr (Same.tk (by assumption)) ?h1; (case h1 => fail "tk")) | (with_reducible refine' Tk.lst ?h1 ?n1; (case n1 => fail "hp"); (case h1 => fail "tk")) | fail "no tk")
local macro_rules | `(tactic| fail "lk") => `(tactic| first | exact netF_count _ _ | exact netF_links _ _ | exact netF_no _ _ (by decide +kernel) (by decide +kernel) | fail "no lk")
local macro_rules | `(tactic| fail "kt") => `(tactic| first | exact upd_same | assumption | fail "hp")
local macro_rules | `(tactic| fail "na") => `(tactic| first | assumption | (with_reducible refine' NetAt.new ?h1 ?n1; (case n1 => assumption); (case h1 => fail "na")) | (refine' NetAt.same (by assumption) ?h1; (case h1 => fail "na")) | (refine' NetAt.kp (by assumption) (by fail "bx") ?h1; (case h1 => fail "na")) | (with_reducible refine' NetAt.lst ?h1 ?n1; (case n1 => fail "hp"); (case h1 => fail "na")) | fail "no na")
local macro_rules | `(tactic| fail "mono") => `(tactic| first | exact fun _ _ _ _ h q => h _ _ q | exact fun _ _ _ _ h q => (let ⟨v, e, z⟩ := q; ⟨v, e, h _ _ z⟩) | exact fun _ _ _ _ h q => (let ⟨v, e, u, f, z⟩ := q; ⟨v, e, u, f, h _ _ z⟩) | fail "no mono")
local macro_rules | `(tactic| fail "sm") => `(tactic| first | assumption | exact Same.refl _ | (with_reducible refine' Same.new ?h1 ?n1; (case n1 => assumption); (case h1 => fail "sm")) | (refine' Same.tr (by assumption) ?h1; (case h1 => fail "sm")) | fail "no sm")
local macro_rules | `(tactic| fail "fld") => `(tactic| first | (show 0 < 1000; decide) | (show 1 < 1000; decide) | fail "no fld")

section
variable {P : Program} {w : World} {K : PySem.W.Frag} {mg : Str → Option Value} {base : Heap} {CN CI CU CL CS : Addr} {mc mu : Value}

abbrev sLaw : Stmt := top 47
theorem scLaw : FnScope ["script", "box", "count", "pairs"] ["script"] (defScope sLaw) := ⟨rfl, rfl, rfl, by decide +kernel, rfl, by decide +kernel, by decide +kernel⟩
def spLaw (K : PySem.W.Frag) : Sp := fun vs H Q _ => ∃ (a : Addr) (ns : List Int), vs = [.ref a] ∧ SqL K H a (ns.map V.int) ∧ ns.length ≤ 63 ∧ ∀ H', Q (.bl true) H'
theorem fn_Law {f : Addr} {fd : FuncData} (F : L2.Fun K "law" "law" sLaw f fd) (T : LTx K mg CN CI CU CL CS mc mu) (GBox : C8.Cal P w K mg base 1 "_law_box" (spBox K) []) (GStep : C8.Cal P w K mg base 1 "_law_step" spStep []) (GCount : C8.Cal P w K mg base 2 "_law_count" spCount []) (GGoodPairs : C8.Cal P w K mg base 3 "_law_good_pairs" spGoodPairs []) (GIsInt : C8.Cal P w K mg base 1 "_law_is_int" spIsInt []) (GBuilds : C8.Cal P w K mg base 13 "_law_builds" spBuilds []) (GDeeds : C8.Cal P w K mg base 13 "_law_deeds" spDeeds []) (GNamed : C8.Cal P w K mg base 13 "_law_named" spNamedL []) (GCounts : C8.Cal P w K mg base 13 "_law_counts" spCounts []) : FnOk P w K mg base CX0 14 f fd ["script"] (spLaw K) := by
  refine F.ok scLaw (fun vs H Q E h => ?_) (fun cdv A outer s H vs Q E hr h => ?_)
  · obtain ⟨a, ns, rfl, hS, lns, kQ⟩ := h
    rfl
  · obtain ⟨a, ns, rfl, hS, lns, kQ⟩ := h
    refine ⟨_, (pss_cons (ps_set (i := 1) scLaw.nd rfl (Or.inl rfl) (C8.pe_c GBox hr (by decide) (by rfl) (pa_cons (pv 0) pa_nil)))
      (pss_cons (ps_expr (C8.pe_c GStep hr (by decide) (by rfl) (pa_cons (pv 1) pa_nil)))
      (pss_cons (ps_set (i := 2) scLaw.nd rfl (Or.inl rfl) (C8.pe_c GCount hr (by decide) (by rfl) (pa_cons (pv 1) pa_nil)))
      (pss_cons (ps_set (i := 3) scLaw.nd rfl (Or.inl rfl) (C8.pe_c GGoodPairs hr (by decide) (by rfl) (pa_cons (pv 1) (pa_cons (pv 2) pa_nil))))
      (pss_cons (ps_if (PW.pt (pw_or (pt_not (pt_val (C8.pe_c GIsInt hr (by decide) (by rfl) (pa_cons (ClX.pe_cval (pe_glob (v := .ref CN) rfl T.mgNet rfl)) pa_nil)))) (pw_or1 (pt_cmpR op_ne (ClX.pe_cval (pe_glob (v := .ref CN) rfl T.mgNet rfl)) pe_int (nomark _)))))
        (pss_one (ps_ret pe_bl))
        pss_nil)
      (pss_cons (ps_if (pt_not (pt_val (C8.pe_c GBuilds hr (by decide) (by rfl) (pa_cons (pv 1) (pa_cons (pv 2) (pa_cons (pv 3) pa_nil))))))
        (pss_one (ps_ret pe_bl))
        pss_nil)
      (pss_cons (ps_expr (C8.pe_c GStep hr (by decide) (by rfl) (pa_cons (pv 1) pa_nil)))
      (pss_cons (ps_if (pt_not (pt_val (C8.pe_c GDeeds hr (by decide) (by rfl) (pa_cons (pv 1) (pa_cons (pv 2) (pa_cons (pv 3) pa_nil))))))
        (pss_one (ps_ret pe_bl))
        pss_nil)
      (pss_cons (ps_expr (C8.pe_c GStep hr (by decide) (by rfl) (pa_cons (pv 1) pa_nil)))
      (pss_one (ps_ret (pe_and (C8.pe_c GNamed hr (by decide) (by rfl) (pa_cons (pv 1) (pa_cons (pv 2) pa_nil))) (pe_one (C8.pe_c GCounts hr (by decide) (by rfl) (pa_cons (pv 1) (pa_cons (pv 2) (pa_cons (pv 3) pa_nil))))))))))))))))), ?_⟩
    -- box = _law_box(script)
    refine ⟨_, rfl, _, _, rfl, hS, lns, fun b1 bc1 H1 nb1 sm1 bx1 => ?_⟩
    -- _law_step(box)
    refine ⟨_, rfl, _, _, rfl, (by fail "bx"), fun H2 kp2 bx2 => ?_⟩
    -- count = _law_count(box)
    refine ⟨_, rfl, _, _, rfl, (by fail "bx"), fun n3 H3 na3 nb3 kp3 bx3 => ?_⟩
    obtain ⟨n, rfl, c1, c2⟩ : ∃ n : Nat, n3 = n ∧ 1 ≤ n ∧ n ≤ 24 := ⟨n3.toNat, by omega, by omega, by omega⟩
    -- pairs = _law_good_pairs(box, count)
    refine ⟨_, rfl, _, rfl, _, _, _, rfl, (by fail "bx"), (by fail "om"), (by fail "om"), fun l4 as4 ps4 H4 good4 len4 nl4 nb4 kp4 bx4 hl4 pl4 => ?_⟩
    -- if not _law_is_int(Net.MOST) or Net.MOST != 24:
    refine ⟨_, _, _, _, rfl, T.rd, T.most, _, rfl, ⟨_, rfl, ?_⟩⟩
    fail "ite"
    refine ⟨_, _, _, _, rfl, T.rd, T.most, rfl, _, rfl, ?_⟩
    refine nifD (fun g6 => ?_) (fun g6 => ?_)
    · -- return False
      exact absurd rfl g6
    · -- if not _law_builds(box, count, pairs):
      refine ⟨_, rfl, _, rfl, _, rfl, _, _, _, _, _, _, rfl, (by fail "bx"), (by fail "om"), (by fail "om"), (by fail "hp"), (by fail "pr"), (by assumption), (by fail "om"), fun H7 kp7 bx7 => ⟨_, rfl, ?_⟩⟩
      fail "ite"
      -- _law_step(box)
      refine ⟨_, rfl, _, _, rfl, (by fail "bx"), fun H8 kp8 bx8 => ?_⟩
      -- if not _law_deeds(box, count, pairs):
      refine ⟨_, rfl, _, rfl, _, rfl, _, _, _, _, _, _, rfl, (by fail "bx"), (by fail "om"), (by fail "om"), (by fail "hp"), (by fail "pr"), (by assumption), (by fail "om"), fun H9 kp9 bx9 => ⟨_, rfl, ?_⟩⟩
      fail "ite"
      -- _law_step(box)
      refine ⟨_, rfl, _, _, rfl, (by fail "bx"), fun H10 kp10 bx10 => ?_⟩
      -- return _law_named(box, count) and _law_counts(box, count, pairs)
      refine ⟨_, rfl, _, rfl, _, _, _, rfl, (by fail "bx"), (by fail "om"), (by fail "om"), fun H12 kp12 bx12 => ⟨_, rfl, iteK (by fail "tt") ⟨_, rfl, _, rfl, _, rfl, _, _, _, _, _, _, rfl, (by fail "bx"), (by fail "om"), (by fail "om"), (by fail "hp"), (by fail "pr"), (by fail "om"), fun H11 kp11 bx11 => ?_⟩⟩⟩
      exact kQ _
end
end K00

end
section
set_option Elab.async false
set_option linter.all false
set_option maxRecDepth 100000
set_option maxHeartbeats 4000000
namespace K00
open PySem L2 Kit KR KX
/-- a method, a classmethod, a property, an error, as they stand in the row -/
def DfM (K : PySem.W.Frag) (C : Addr) (m q : Str) (st : Stmt) (ps : List Str) : Prop := ∃ (f : Addr) (fd : FuncData), L2.Fun K m q st f fd ∧ Meth K C m f ∧ Binds K fd ps []
def DfC (K : PySem.W.Frag) (C : Addr) (mc : Value) (m q : Str) (st : Stmt) (ps : List Str) : Prop := ∃ (p g : Addr) (fd : FuncData), L2.Fun K m q st g fd ∧ ClX.CMet K C mc m p g ∧ Binds K fd ps []
def DfP (K : PySem.W.Frag) (C : Addr) (m q : Str) (st : Stmt) (ps : List Str) : Prop := ∃ (p g : Addr) (fd : FuncData), L2.Fun K m q st g fd ∧ PropOf K C m p g ∧ Binds K fd ps []
def DfI (K : PySem.W.Frag) (C : Addr) (q : Str) (st : Stmt) (ps : List Str) : Prop := ∃ (f : Addr) (fd : FuncData), L2.Fun K "__init__" q st f fd ∧ Mk K C f ∧ Binds K fd ps []
def DfE (K : PySem.W.Frag) (C : Addr) (q : Str) (st : Stmt) (ps : List Str) : Prop := ∃ (f : Addr) (fd : FuncData), L2.Fun K "__init__" q st f fd ∧ PySem.W.findIn K (.ref C) "__init__" = some (some (.ref f)) ∧ PySem.W.typeIn K (.ref f) = some (.type "function") ∧ Binds K fd ps []
theorem exm_sub {K : PySem.W.Frag} {C S : Addr} (h1 : PySem.W.subIn K (.ref S) (.type "BaseException") = some true) (h2 : PySem.W.isClsIn K S = true) (h3 : PySem.W.typeIn K (.ref S) = some (.type "type")) (h4 : PySem.W.subIn K (.ref C) (.ref S) = some true) : PySem.W.exmOne K (.ref C) (.ref S) = some true := by
  have e1 : (PySem.W.subIn K (.ref S) (.type "BaseException") == some true) = true := by rw [h1] <;> rfl
  have e2 : ((PySem.W.clsIn K S).isSome && PySem.W.typeIn K (.ref S) == some (.type "type")) = true := by
    rw [show (PySem.W.clsIn K S).isSome = true from h2, h3] <;> rfl
  exact (if_pos e1).trans ((if_pos e2).trans h4)
theorem kit_same {K : PySem.W.Frag} {C : Addr} : PySem.W.kitOne K (.ref C) (.ref C) = some true := if_pos (beq_self_eq_true _)
theorem kit_other {K : PySem.W.Frag} {C D : Addr} {b : Bool} (ne : C ≠ D) (h2 : PySem.W.isClsIn K D = true) (h3 : PySem.W.typeIn K (.ref D) = some (.type "type")) (h4 : PySem.W.subIn K (.ref C) (.ref D) = some b) : PySem.W.kitOne K (.ref C) (.ref D) = some b := by
  have e1 : ¬ (Value.ref C == Value.ref D) = true := fun e => ne (Value.ref.inj (eq_of_beq e))
  have e2 : ((PySem.W.clsIn K D).isSome && PySem.W.typeIn K (.ref D) == some (.type "type")) = true := by
    rw [show (PySem.W.clsIn K D).isSome = true from h2, h3] <;> rfl
  exact (if_neg e1).trans ((if_pos e2).trans h4)
theorem kit_value {K : PySem.W.Frag} {C : Addr} (h4 : PySem.W.subIn K (.ref C) (.type "ValueError") = some true) : PySem.W.kitOne K (.ref C) (.type "ValueError") = some true := by
  have e1 : ¬ (Value.ref C == Value.type "ValueError") = true := fun e => nomatch eq_of_beq e
  have e2 : PySem.W.kitMeta "ValueError" = true := by decide +kernel
  show (if (Value.ref C == Value.type "ValueError") = true then some true else if PySem.W.kitMeta "ValueError" = true then PySem.W.subIn K (.ref C) (.type "ValueError") else none) = some true
  rw [if_neg e1, if_pos e2]
  exact h4
/-- an error's class, as the row has it -/
theorem err_mk {K : PySem.W.Frag} {C CS : Addr} {nm q : Str} {N : Addr} {bs : List Value} {sn : List Str} {sub : List Value} {ab : Bool} {col : Option Bool} {dd : Option Addr} {m0 m1 m2 m3 m5 : Option Value}
    (xL : K.lookup C = some (excClassObj nm q C N bs [.ref CS, .type "ValueError", .type "Exception", .type "BaseException", .type "object"] true sn sub ab col dd m0 m1 m2 m3 m5 "ValueError.__new__"))
    (sa : PySem.W.findIn K (.ref C) "__setattr__" = some (some (.builtin "object.__setattr__"))) (ga : PySem.W.findIn K (.ref C) "__getattribute__" = some (some (.builtin "BaseException.__getattribute__"))) (gg : PySem.W.findIn K (.ref C) "__getattr__" = some none)
    (ex : PySem.W.subIn K (.ref C) (.type "BaseException") = some true) (ty : PySem.W.typeIn K (.ref C) = some (.type "type")) (kp : PySem.W.keepIn K (.ref C) = true) (ic : PySem.W.isClsIn K C = true)
    (cc : PySem.W.findIn K (.ref C) "__class__" = some (some (.builtin "object.__class__"))) (cg : PySem.W.specialIn K (.builtin "object.__class__") "__get__" = some (some (.builtin "getset_descriptor.__get__"))) (tk : PySem.W.takesIn K (.builtin "object.__class__") = some true)
    (mo : PySem.W.mroIn K C (.type "object") = some true) (hd : PySem.W.hasDictIn K C = true) : OexC K C ∧ IsX K C :=
  ⟨⟨⟨nm, q, N, bs, _, sn, sub, ab, col, dd, m0, m1, m2, m3, m5, xL, by show PySem.HandSPX.refsVE [.type "ValueError", .type "Exception", .type "BaseException", .type "object"] = true; decide +kernel⟩, sa, ex, ty, kp⟩, ⟨ic, ga, gg, ex, cc, cg, tk, mo, hd⟩⟩
section
variable {K : PySem.W.Frag} {h : Heap} {mg : Str → Option Value} {f g p C : Addr} {oc kV dc pm cd ct mc : Value} {od an : Option Addr} {sl : Array (Option Value)} {rest : List Value}

theorem f_sDraw (X : K.In h) (G : h.Ns mainGlobals mg) (a : PySem.W.nsIn K mainGlobals "_law_draw" = some (some (.ref f))) (l : K.lookup f = some ⟨oc, od, .func (PySem.W.fnOf "_law_draw" "_law_draw" (defArgs sDraw) (defBody sDraw) (defScope sDraw) .none kV dc pm an cd ct), sl⟩) (c : PySem.W.codeIn K cd "_law_draw" = true) (k : PySem.W.keepIn K (.ref f) = true) : Df K mg "_law_draw" sDraw ["box", "many"] :=
  have F := fun_mk (st := sDraw) l c k
  ⟨f, _, F, PySem.W.mg_of X G a, F.binds (ps := ["box", "many"]) fun _ _ _ _ _ _ us hl => match us, hl with | [_, _], _ => rfl⟩
theorem f_sGreat (X : K.In h) (G : h.Ns mainGlobals mg) (a : PySem.W.nsIn K mainGlobals "_law_great" = some (some (.ref f))) (l : K.lookup f = some ⟨oc, od, .func (PySem.W.fnOf "_law_great" "_law_great" (defArgs sGreat) (defBody sGreat) (defScope sGreat) .none kV dc pm an cd ct), sl⟩) (c : PySem.W.codeIn K cd "_law_great" = true) (k : PySem.W.keepIn K (.ref f) = true) : Df K mg "_law_great" sGreat ["box"] :=
  have F := fun_mk (st := sGreat) l c k
  ⟨f, _, F, PySem.W.mg_of X G a, F.binds (ps := ["box"]) fun _ _ _ _ _ _ us hl => match us, hl with | [_], _ => rfl⟩
theorem f_sIsInt (X : K.In h) (G : h.Ns mainGlobals mg) (a : PySem.W.nsIn K mainGlobals "_law_is_int" = some (some (.ref f))) (l : K.lookup f = some ⟨oc, od, .func (PySem.W.fnOf "_law_is_int" "_law_is_int" (defArgs sIsInt) (defBody sIsInt) (defScope sIsInt) .none kV dc pm an cd ct), sl⟩) (c : PySem.W.codeIn K cd "_law_is_int" = true) (k : PySem.W.keepIn K (.ref f) = true) : Df K mg "_law_is_int" sIsInt ["actual"] :=
  have F := fun_mk (st := sIsInt) l c k
  ⟨f, _, F, PySem.W.mg_of X G a, F.binds (ps := ["actual"]) fun _ _ _ _ _ _ us hl => match us, hl with | [_], _ => rfl⟩
theorem f_sStranger (X : K.In h) (G : h.Ns mainGlobals mg) (a : PySem.W.nsIn K mainGlobals "_law_stranger" = some (some (.ref f))) (l : K.lookup f = some ⟨oc, od, .func (PySem.W.fnOf "_law_stranger" "_law_stranger" (defArgs sStranger) (defBody sStranger) (defScope sStranger) .none kV dc pm an cd ct), sl⟩) (c : PySem.W.codeIn K cd "_law_stranger" = true) (k : PySem.W.keepIn K (.ref f) = true) : Df K mg "_law_stranger" sStranger ["box", "count"] :=
  have F := fun_mk (st := sStranger) l c k
  ⟨f, _, F, PySem.W.mg_of X G a, F.binds (ps := ["box", "count"]) fun _ _ _ _ _ _ us hl => match us, hl with | [_, _], _ => rfl⟩
theorem f_sTruth (X : K.In h) (G : h.Ns mainGlobals mg) (a : PySem.W.nsIn K mainGlobals "_law_truth" = some (some (.ref f))) (l : K.lookup f = some ⟨oc, od, .func (PySem.W.fnOf "_law_truth" "_law_truth" (defArgs sTruth) (defBody sTruth) (defScope sTruth) .none kV dc pm an cd ct), sl⟩) (c : PySem.W.codeIn K cd "_law_truth" = true) (k : PySem.W.keepIn K (.ref f) = true) : Df K mg "_law_truth" sTruth ["actual", "due"] :=
  have F := fun_mk (st := sTruth) l c k
  ⟨f, _, F, PySem.W.mg_of X G a, F.binds (ps := ["actual", "due"]) fun _ _ _ _ _ _ us hl => match us, hl with | [_, _], _ => rfl⟩
theorem f_sCount (X : K.In h) (G : h.Ns mainGlobals mg) (a : PySem.W.nsIn K mainGlobals "_law_count" = some (some (.ref f))) (l : K.lookup f = some ⟨oc, od, .func (PySem.W.fnOf "_law_count" "_law_count" (defArgs sCount) (defBody sCount) (defScope sCount) .none kV dc pm an cd ct), sl⟩) (c : PySem.W.codeIn K cd "_law_count" = true) (k : PySem.W.keepIn K (.ref f) = true) : Df K mg "_law_count" sCount ["box"] :=
  have F := fun_mk (st := sCount) l c k
  ⟨f, _, F, PySem.W.mg_of X G a, F.binds (ps := ["box"]) fun _ _ _ _ _ _ us hl => match us, hl with | [_], _ => rfl⟩
theorem f_sPair (X : K.In h) (G : h.Ns mainGlobals mg) (a : PySem.W.nsIn K mainGlobals "_law_pair" = some (some (.ref f))) (l : K.lookup f = some ⟨oc, od, .func (PySem.W.fnOf "_law_pair" "_law_pair" (defArgs sPair) (defBody sPair) (defScope sPair) .none kV dc pm an cd ct), sl⟩) (c : PySem.W.codeIn K cd "_law_pair" = true) (k : PySem.W.keepIn K (.ref f) = true) : Df K mg "_law_pair" sPair ["box", "count"] :=
  have F := fun_mk (st := sPair) l c k
  ⟨f, _, F, PySem.W.mg_of X G a, F.binds (ps := ["box", "count"]) fun _ _ _ _ _ _ us hl => match us, hl with | [_, _], _ => rfl⟩
theorem f_sIsPair (X : K.In h) (G : h.Ns mainGlobals mg) (a : PySem.W.nsIn K mainGlobals "_law_is_pair" = some (some (.ref f))) (l : K.lookup f = some ⟨oc, od, .func (PySem.W.fnOf "_law_is_pair" "_law_is_pair" (defArgs sIsPair) (defBody sIsPair) (defScope sIsPair) .none kV dc pm an cd ct), sl⟩) (c : PySem.W.codeIn K cd "_law_is_pair" = true) (k : PySem.W.keepIn K (.ref f) = true) : Df K mg "_law_is_pair" sIsPair ["actual", "due"] :=
  have F := fun_mk (st := sIsPair) l c k
  ⟨f, _, F, PySem.W.mg_of X G a, F.binds (ps := ["actual", "due"]) fun _ _ _ _ _ _ us hl => match us, hl with | [_, _], _ => rfl⟩
theorem f_sPairsAre (X : K.In h) (G : h.Ns mainGlobals mg) (a : PySem.W.nsIn K mainGlobals "_law_pairs_are" = some (some (.ref f))) (l : K.lookup f = some ⟨oc, od, .func (PySem.W.fnOf "_law_pairs_are" "_law_pairs_are" (defArgs sPairsAre) (defBody sPairsAre) (defScope sPairsAre) .none kV dc pm an cd ct), sl⟩) (c : PySem.W.codeIn K cd "_law_pairs_are" = true) (k : PySem.W.keepIn K (.ref f) = true) : Df K mg "_law_pairs_are" sPairsAre ["told", "due"] :=
  have F := fun_mk (st := sPairsAre) l c k
  ⟨f, _, F, PySem.W.mg_of X G a, F.binds (ps := ["told", "due"]) fun _ _ _ _ _ _ us hl => match us, hl with | [_, _], _ => rfl⟩
theorem f_sIntsAre (X : K.In h) (G : h.Ns mainGlobals mg) (a : PySem.W.nsIn K mainGlobals "_law_ints_are" = some (some (.ref f))) (l : K.lookup f = some ⟨oc, od, .func (PySem.W.fnOf "_law_ints_are" "_law_ints_are" (defArgs sIntsAre) (defBody sIntsAre) (defScope sIntsAre) .none kV dc pm an cd ct), sl⟩) (c : PySem.W.codeIn K cd "_law_ints_are" = true) (k : PySem.W.keepIn K (.ref f) = true) : Df K mg "_law_ints_are" sIntsAre ["told", "due"] :=
  have F := fun_mk (st := sIntsAre) l c k
  ⟨f, _, F, PySem.W.mg_of X G a, F.binds (ps := ["told", "due"]) fun _ _ _ _ _ _ us hl => match us, hl with | [_, _], _ => rfl⟩
theorem f_sBox (X : K.In h) (G : h.Ns mainGlobals mg) (a : PySem.W.nsIn K mainGlobals "_law_box" = some (some (.ref f))) (l : K.lookup f = some ⟨oc, od, .func (PySem.W.fnOf "_law_box" "_law_box" (defArgs sBox) (defBody sBox) (defScope sBox) .none kV dc pm an cd ct), sl⟩) (c : PySem.W.codeIn K cd "_law_box" = true) (k : PySem.W.keepIn K (.ref f) = true) : Df K mg "_law_box" sBox ["script"] :=
  have F := fun_mk (st := sBox) l c k
  ⟨f, _, F, PySem.W.mg_of X G a, F.binds (ps := ["script"]) fun _ _ _ _ _ _ us hl => match us, hl with | [_], _ => rfl⟩
theorem f_sStep (X : K.In h) (G : h.Ns mainGlobals mg) (a : PySem.W.nsIn K mainGlobals "_law_step" = some (some (.ref f))) (l : K.lookup f = some ⟨oc, od, .func (PySem.W.fnOf "_law_step" "_law_step" (defArgs sStep) (defBody sStep) (defScope sStep) .none kV dc pm an cd ct), sl⟩) (c : PySem.W.codeIn K cd "_law_step" = true) (k : PySem.W.keepIn K (.ref f) = true) : Df K mg "_law_step" sStep ["box"] :=
  have F := fun_mk (st := sStep) l c k
  ⟨f, _, F, PySem.W.mg_of X G a, F.binds (ps := ["box"]) fun _ _ _ _ _ _ us hl => match us, hl with | [_], _ => rfl⟩
theorem f_sFirstBad (X : K.In h) (G : h.Ns mainGlobals mg) (a : PySem.W.nsIn K mainGlobals "_law_first_bad" = some (some (.ref f))) (l : K.lookup f = some ⟨oc, od, .func (PySem.W.fnOf "_law_first_bad" "_law_first_bad" (defArgs sFirstBad) (defBody sFirstBad) (defScope sFirstBad) .none kV dc pm an cd ct), sl⟩) (c : PySem.W.codeIn K cd "_law_first_bad" = true) (k : PySem.W.keepIn K (.ref f) = true) : Df K mg "_law_first_bad" sFirstBad ["count", "pairs"] :=
  have F := fun_mk (st := sFirstBad) l c k
  ⟨f, _, F, PySem.W.mg_of X G a, F.binds (ps := ["count", "pairs"]) fun _ _ _ _ _ _ us hl => match us, hl with | [_, _], _ => rfl⟩
theorem f_sTable (X : K.In h) (G : h.Ns mainGlobals mg) (a : PySem.W.nsIn K mainGlobals "_law_table" = some (some (.ref f))) (l : K.lookup f = some ⟨oc, od, .func (PySem.W.fnOf "_law_table" "_law_table" (defArgs sTable) (defBody sTable) (defScope sTable) .none kV dc pm an cd ct), sl⟩) (c : PySem.W.codeIn K cd "_law_table" = true) (k : PySem.W.keepIn K (.ref f) = true) : Df K mg "_law_table" sTable ["count", "pairs", "both"] :=
  have F := fun_mk (st := sTable) l c k
  ⟨f, _, F, PySem.W.mg_of X G a, F.binds (ps := ["count", "pairs", "both"]) fun _ _ _ _ _ _ us hl => match us, hl with | [_, _, _], _ => rfl⟩
theorem f_sTies (X : K.In h) (G : h.Ns mainGlobals mg) (a : PySem.W.nsIn K mainGlobals "_law_ties" = some (some (.ref f))) (l : K.lookup f = some ⟨oc, od, .func (PySem.W.fnOf "_law_ties" "_law_ties" (defArgs sTies) (defBody sTies) (defScope sTies) .none kV dc pm an cd ct), sl⟩) (c : PySem.W.codeIn K cd "_law_ties" = true) (k : PySem.W.keepIn K (.ref f) = true) : Df K mg "_law_ties" sTies ["count", "table"] :=
  have F := fun_mk (st := sTies) l c k
  ⟨f, _, F, PySem.W.mg_of X G a, F.binds (ps := ["count", "table"]) fun _ _ _ _ _ _ us hl => match us, hl with | [_, _], _ => rfl⟩
theorem f_sBadPair (X : K.In h) (G : h.Ns mainGlobals mg) (a : PySem.W.nsIn K mainGlobals "_law_bad_pair" = some (some (.ref f))) (l : K.lookup f = some ⟨oc, od, .func (PySem.W.fnOf "_law_bad_pair" "_law_bad_pair" (defArgs sBadPair) (defBody sBadPair) (defScope sBadPair) .none kV dc pm an cd ct), sl⟩) (c : PySem.W.codeIn K cd "_law_bad_pair" = true) (k : PySem.W.keepIn K (.ref f) = true) : Df K mg "_law_bad_pair" sBadPair ["box", "count"] :=
  have F := fun_mk (st := sBadPair) l c k
  ⟨f, _, F, PySem.W.mg_of X G a, F.binds (ps := ["box", "count"]) fun _ _ _ _ _ _ us hl => match us, hl with | [_, _], _ => rfl⟩
theorem f_sGoodPairs (X : K.In h) (G : h.Ns mainGlobals mg) (a : PySem.W.nsIn K mainGlobals "_law_good_pairs" = some (some (.ref f))) (l : K.lookup f = some ⟨oc, od, .func (PySem.W.fnOf "_law_good_pairs" "_law_good_pairs" (defArgs sGoodPairs) (defBody sGoodPairs) (defScope sGoodPairs) .none kV dc pm an cd ct), sl⟩) (c : PySem.W.codeIn K cd "_law_good_pairs" = true) (k : PySem.W.keepIn K (.ref f) = true) : Df K mg "_law_good_pairs" sGoodPairs ["box", "count"] :=
  have F := fun_mk (st := sGoodPairs) l c k
  ⟨f, _, F, PySem.W.mg_of X G a, F.binds (ps := ["box", "count"]) fun _ _ _ _ _ _ us hl => match us, hl with | [_, _], _ => rfl⟩
theorem f_sSpoilt (X : K.In h) (G : h.Ns mainGlobals mg) (a : PySem.W.nsIn K mainGlobals "_law_spoilt" = some (some (.ref f))) (l : K.lookup f = some ⟨oc, od, .func (PySem.W.fnOf "_law_spoilt" "_law_spoilt" (defArgs sSpoilt) (defBody sSpoilt) (defScope sSpoilt) .none kV dc pm an cd ct), sl⟩) (c : PySem.W.codeIn K cd "_law_spoilt" = true) (k : PySem.W.keepIn K (.ref f) = true) : Df K mg "_law_spoilt" sSpoilt ["box", "count", "pairs"] :=
  have F := fun_mk (st := sSpoilt) l c k
  ⟨f, _, F, PySem.W.mg_of X G a, F.binds (ps := ["box", "count", "pairs"]) fun _ _ _ _ _ _ us hl => match us, hl with | [_, _, _], _ => rfl⟩
theorem f_sWrongCount (X : K.In h) (G : h.Ns mainGlobals mg) (a : PySem.W.nsIn K mainGlobals "_law_wrong_count" = some (some (.ref f))) (l : K.lookup f = some ⟨oc, od, .func (PySem.W.fnOf "_law_wrong_count" "_law_wrong_count" (defArgs sWrongCount) (defBody sWrongCount) (defScope sWrongCount) .none kV dc pm an cd ct), sl⟩) (c : PySem.W.codeIn K cd "_law_wrong_count" = true) (k : PySem.W.keepIn K (.ref f) = true) : Df K mg "_law_wrong_count" sWrongCount ["box", "way"] :=
  have F := fun_mk (st := sWrongCount) l c k
  ⟨f, _, F, PySem.W.mg_of X G a, F.binds (ps := ["box", "way"]) fun _ _ _ _ _ _ us hl => match us, hl with | [_, _], _ => rfl⟩
theorem f_sDeedPair (X : K.In h) (G : h.Ns mainGlobals mg) (a : PySem.W.nsIn K mainGlobals "_law_deed_pair" = some (some (.ref f))) (l : K.lookup f = some ⟨oc, od, .func (PySem.W.fnOf "_law_deed_pair" "_law_deed_pair" (defArgs sDeedPair) (defBody sDeedPair) (defScope sDeedPair) .none kV dc pm an cd ct), sl⟩) (c : PySem.W.codeIn K cd "_law_deed_pair" = true) (k : PySem.W.keepIn K (.ref f) = true) : Df K mg "_law_deed_pair" sDeedPair ["box", "count", "table"] :=
  have F := fun_mk (st := sDeedPair) l c k
  ⟨f, _, F, PySem.W.mg_of X G a, F.binds (ps := ["box", "count", "table"]) fun _ _ _ _ _ _ us hl => match us, hl with | [_, _, _], _ => rfl⟩
theorem f_sRow (X : K.In h) (G : h.Ns mainGlobals mg) (a : PySem.W.nsIn K mainGlobals "_law_row" = some (some (.ref f))) (l : K.lookup f = some ⟨oc, od, .func (PySem.W.fnOf "_law_row" "_law_row" (defArgs sRow) (defBody sRow) (defScope sRow) .none kV dc pm an cd ct), sl⟩) (c : PySem.W.codeIn K cd "_law_row" = true) (k : PySem.W.keepIn K (.ref f) = true) : Df K mg "_law_row" sRow ["net", "way", "replica"] :=
  have F := fun_mk (st := sRow) l c k
  ⟨f, _, F, PySem.W.mg_of X G a, F.binds (ps := ["net", "way", "replica"]) fun _ _ _ _ _ _ us hl => match us, hl with | [_, _, _], _ => rfl⟩
theorem f_sRowIs (X : K.In h) (G : h.Ns mainGlobals mg) (a : PySem.W.nsIn K mainGlobals "_law_row_is" = some (some (.ref f))) (l : K.lookup f = some ⟨oc, od, .func (PySem.W.fnOf "_law_row_is" "_law_row_is" (defArgs sRowIs) (defBody sRowIs) (defScope sRowIs) .none kV dc pm an cd ct), sl⟩) (c : PySem.W.codeIn K cd "_law_row_is" = true) (k : PySem.W.keepIn K (.ref f) = true) : Df K mg "_law_row_is" sRowIs ["net", "way", "replica", "due"] :=
  have F := fun_mk (st := sRowIs) l c k
  ⟨f, _, F, PySem.W.mg_of X G a, F.binds (ps := ["net", "way", "replica", "due"]) fun _ _ _ _ _ _ us hl => match us, hl with | [_, _, _, _], _ => rfl⟩
theorem f_sUnknown (X : K.In h) (G : h.Ns mainGlobals mg) (a : PySem.W.nsIn K mainGlobals "_law_unknown" = some (some (.ref f))) (l : K.lookup f = some ⟨oc, od, .func (PySem.W.fnOf "_law_unknown" "_law_unknown" (defArgs sUnknown) (defBody sUnknown) (defScope sUnknown) .none kV dc pm an cd ct), sl⟩) (c : PySem.W.codeIn K cd "_law_unknown" = true) (k : PySem.W.keepIn K (.ref f) = true) : Df K mg "_law_unknown" sUnknown ["net", "way", "replica"] :=
  have F := fun_mk (st := sUnknown) l c k
  ⟨f, _, F, PySem.W.mg_of X G a, F.binds (ps := ["net", "way", "replica"]) fun _ _ _ _ _ _ us hl => match us, hl with | [_, _, _], _ => rfl⟩
theorem f_sCall (X : K.In h) (G : h.Ns mainGlobals mg) (a : PySem.W.nsIn K mainGlobals "_law_call" = some (some (.ref f))) (l : K.lookup f = some ⟨oc, od, .func (PySem.W.fnOf "_law_call" "_law_call" (defArgs sCall) (defBody sCall) (defScope sCall) .none kV dc pm an cd ct), sl⟩) (c : PySem.W.codeIn K cd "_law_call" = true) (k : PySem.W.keepIn K (.ref f) = true) : Df K mg "_law_call" sCall ["way", "count", "pairs"] :=
  have F := fun_mk (st := sCall) l c k
  ⟨f, _, F, PySem.W.mg_of X G a, F.binds (ps := ["way", "count", "pairs"]) fun _ _ _ _ _ _ us hl => match us, hl with | [_, _, _], _ => rfl⟩
theorem f_sMade (X : K.In h) (G : h.Ns mainGlobals mg) (a : PySem.W.nsIn K mainGlobals "_law_made" = some (some (.ref f))) (l : K.lookup f = some ⟨oc, od, .func (PySem.W.fnOf "_law_made" "_law_made" (defArgs sMade) (defBody sMade) (defScope sMade) .none kV dc pm an cd ct), sl⟩) (c : PySem.W.codeIn K cd "_law_made" = true) (k : PySem.W.keepIn K (.ref f) = true) : Df K mg "_law_made" sMade ["way", "count", "pairs"] :=
  have F := fun_mk (st := sMade) l c k
  ⟨f, _, F, PySem.W.mg_of X G a, F.binds (ps := ["way", "count", "pairs"]) fun _ _ _ _ _ _ us hl => match us, hl with | [_, _, _], _ => rfl⟩
theorem f_sChanged (X : K.In h) (G : h.Ns mainGlobals mg) (a : PySem.W.nsIn K mainGlobals "_law_changed" = some (some (.ref f))) (l : K.lookup f = some ⟨oc, od, .func (PySem.W.fnOf "_law_changed" "_law_changed" (defArgs sChanged) (defBody sChanged) (defScope sChanged) .none kV dc pm an cd ct), sl⟩) (c : PySem.W.codeIn K cd "_law_changed" = true) (k : PySem.W.keepIn K (.ref f) = true) : Df K mg "_law_changed" sChanged ["adds", "net", "pair"] :=
  have F := fun_mk (st := sChanged) l c k
  ⟨f, _, F, PySem.W.mg_of X G a, F.binds (ps := ["adds", "net", "pair"]) fun _ _ _ _ _ _ us hl => match us, hl with | [_, _, _], _ => rfl⟩
theorem f_sDeed (X : K.In h) (G : h.Ns mainGlobals mg) (a : PySem.W.nsIn K mainGlobals "_law_deed" = some (some (.ref f))) (l : K.lookup f = some ⟨oc, od, .func (PySem.W.fnOf "_law_deed" "_law_deed" (defArgs sDeed) (defBody sDeed) (defScope sDeed) .none kV dc pm an cd ct), sl⟩) (c : PySem.W.codeIn K cd "_law_deed" = true) (k : PySem.W.keepIn K (.ref f) = true) : Df K mg "_law_deed" sDeed ["adds", "net", "pair"] :=
  have F := fun_mk (st := sDeed) l c k
  ⟨f, _, F, PySem.W.mg_of X G a, F.binds (ps := ["adds", "net", "pair"]) fun _ _ _ _ _ _ us hl => match us, hl with | [_, _, _], _ => rfl⟩
theorem f_sRefused (X : K.In h) (G : h.Ns mainGlobals mg) (a : PySem.W.nsIn K mainGlobals "_law_refused" = some (some (.ref f))) (l : K.lookup f = some ⟨oc, od, .func (PySem.W.fnOf "_law_refused" "_law_refused" (defArgs sRefused) (defBody sRefused) (defScope sRefused) .none kV dc pm an cd ct), sl⟩) (c : PySem.W.codeIn K cd "_law_refused" = true) (k : PySem.W.keepIn K (.ref f) = true) : Df K mg "_law_refused" sRefused ["made", "due"] :=
  have F := fun_mk (st := sRefused) l c k
  ⟨f, _, F, PySem.W.mg_of X G a, F.binds (ps := ["made", "due"]) fun _ _ _ _ _ _ us hl => match us, hl with | [_, _], _ => rfl⟩
theorem f_sNamedTable (X : K.In h) (G : h.Ns mainGlobals mg) (a : PySem.W.nsIn K mainGlobals "_law_named_table" = some (some (.ref f))) (l : K.lookup f = some ⟨oc, od, .func (PySem.W.fnOf "_law_named_table" "_law_named_table" (defArgs sNamedTable) (defBody sNamedTable) (defScope sNamedTable) .none kV dc pm an cd ct), sl⟩) (c : PySem.W.codeIn K cd "_law_named_table" = true) (k : PySem.W.keepIn K (.ref f) = true) : Df K mg "_law_named_table" sNamedTable ["way", "count"] :=
  have F := fun_mk (st := sNamedTable) l c k
  ⟨f, _, F, PySem.W.mg_of X G a, F.binds (ps := ["way", "count"]) fun _ _ _ _ _ _ us hl => match us, hl with | [_, _], _ => rfl⟩
theorem f_sHas (X : K.In h) (G : h.Ns mainGlobals mg) (a : PySem.W.nsIn K mainGlobals "_law_has" = some (some (.ref f))) (l : K.lookup f = some ⟨oc, od, .func (PySem.W.fnOf "_law_has" "_law_has" (defArgs sHas) (defBody sHas) (defScope sHas) .none kV dc pm an cd ct), sl⟩) (c : PySem.W.codeIn K cd "_law_has" = true) (k : PySem.W.keepIn K (.ref f) = true) : Df K mg "_law_has" sHas ["box", "net", "count", "table"] :=
  have F := fun_mk (st := sHas) l c k
  ⟨f, _, F, PySem.W.mg_of X G a, F.binds (ps := ["box", "net", "count", "table"]) fun _ _ _ _ _ _ us hl => match us, hl with | [_, _, _, _], _ => rfl⟩
theorem f_sNetIs (X : K.In h) (G : h.Ns mainGlobals mg) (a : PySem.W.nsIn K mainGlobals "_law_net_is" = some (some (.ref f))) (l : K.lookup f = some ⟨oc, od, .func (PySem.W.fnOf "_law_net_is" "_law_net_is" (defArgs sNetIs) (defBody sNetIs) (defScope sNetIs) .none kV dc pm an cd ct), sl⟩) (c : PySem.W.codeIn K cd "_law_net_is" = true) (k : PySem.W.keepIn K (.ref f) = true) : Df K mg "_law_net_is" sNetIs ["box", "net", "count", "table"] :=
  have F := fun_mk (st := sNetIs) l c k
  ⟨f, _, F, PySem.W.mg_of X G a, F.binds (ps := ["box", "net", "count", "table"]) fun _ _ _ _ _ _ us hl => match us, hl with | [_, _, _, _], _ => rfl⟩
theorem f_sNamed (X : K.In h) (G : h.Ns mainGlobals mg) (a : PySem.W.nsIn K mainGlobals "_law_named" = some (some (.ref f))) (l : K.lookup f = some ⟨oc, od, .func (PySem.W.fnOf "_law_named" "_law_named" (defArgs sNamed) (defBody sNamed) (defScope sNamed) .none kV dc pm an cd ct), sl⟩) (c : PySem.W.codeIn K cd "_law_named" = true) (k : PySem.W.keepIn K (.ref f) = true) : Df K mg "_law_named" sNamed ["box", "count"] :=
  have F := fun_mk (st := sNamed) l c k
  ⟨f, _, F, PySem.W.mg_of X G a, F.binds (ps := ["box", "count"]) fun _ _ _ _ _ _ us hl => match us, hl with | [_, _], _ => rfl⟩
theorem f_sCounts (X : K.In h) (G : h.Ns mainGlobals mg) (a : PySem.W.nsIn K mainGlobals "_law_counts" = some (some (.ref f))) (l : K.lookup f = some ⟨oc, od, .func (PySem.W.fnOf "_law_counts" "_law_counts" (defArgs sCounts) (defBody sCounts) (defScope sCounts) .none kV dc pm an cd ct), sl⟩) (c : PySem.W.codeIn K cd "_law_counts" = true) (k : PySem.W.keepIn K (.ref f) = true) : Df K mg "_law_counts" sCounts ["box", "count", "pairs"] :=
  have F := fun_mk (st := sCounts) l c k
  ⟨f, _, F, PySem.W.mg_of X G a, F.binds (ps := ["box", "count", "pairs"]) fun _ _ _ _ _ _ us hl => match us, hl with | [_, _, _], _ => rfl⟩
theorem f_sBuilds (X : K.In h) (G : h.Ns mainGlobals mg) (a : PySem.W.nsIn K mainGlobals "_law_builds" = some (some (.ref f))) (l : K.lookup f = some ⟨oc, od, .func (PySem.W.fnOf "_law_builds" "_law_builds" (defArgs sBuilds) (defBody sBuilds) (defScope sBuilds) .none kV dc pm an cd ct), sl⟩) (c : PySem.W.codeIn K cd "_law_builds" = true) (k : PySem.W.keepIn K (.ref f) = true) : Df K mg "_law_builds" sBuilds ["box", "count", "pairs"] :=
  have F := fun_mk (st := sBuilds) l c k
  ⟨f, _, F, PySem.W.mg_of X G a, F.binds (ps := ["box", "count", "pairs"]) fun _ _ _ _ _ _ us hl => match us, hl with | [_, _, _], _ => rfl⟩
theorem f_sDeeds (X : K.In h) (G : h.Ns mainGlobals mg) (a : PySem.W.nsIn K mainGlobals "_law_deeds" = some (some (.ref f))) (l : K.lookup f = some ⟨oc, od, .func (PySem.W.fnOf "_law_deeds" "_law_deeds" (defArgs sDeeds) (defBody sDeeds) (defScope sDeeds) .none kV dc pm an cd ct), sl⟩) (c : PySem.W.codeIn K cd "_law_deeds" = true) (k : PySem.W.keepIn K (.ref f) = true) : Df K mg "_law_deeds" sDeeds ["box", "count", "pairs"] :=
  have F := fun_mk (st := sDeeds) l c k
  ⟨f, _, F, PySem.W.mg_of X G a, F.binds (ps := ["box", "count", "pairs"]) fun _ _ _ _ _ _ us hl => match us, hl with | [_, _, _], _ => rfl⟩
theorem f_sCheckCount (X : K.In h) (G : h.Ns mainGlobals mg) (a : PySem.W.nsIn K mainGlobals "check_count" = some (some (.ref f))) (l : K.lookup f = some ⟨oc, od, .func (PySem.W.fnOf "check_count" "check_count" (defArgs sCheckCount) (defBody sCheckCount) (defScope sCheckCount) .none kV dc pm an cd ct), sl⟩) (c : PySem.W.codeIn K cd "check_count" = true) (k : PySem.W.keepIn K (.ref f) = true) : Df K mg "check_count" sCheckCount ["count"] :=
  have F := fun_mk (st := sCheckCount) l c k
  ⟨f, _, F, PySem.W.mg_of X G a, F.binds (ps := ["count"]) fun _ _ _ _ _ _ us hl => match us, hl with | [_], _ => rfl⟩
theorem f_sCheckPair (X : K.In h) (G : h.Ns mainGlobals mg) (a : PySem.W.nsIn K mainGlobals "check_pair" = some (some (.ref f))) (l : K.lookup f = some ⟨oc, od, .func (PySem.W.fnOf "check_pair" "check_pair" (defArgs sCheckPair) (defBody sCheckPair) (defScope sCheckPair) .none kV dc pm an cd ct), sl⟩) (c : PySem.W.codeIn K cd "check_pair" = true) (k : PySem.W.keepIn K (.ref f) = true) : Df K mg "check_pair" sCheckPair ["count", "link"] :=
  have F := fun_mk (st := sCheckPair) l c k
  ⟨f, _, F, PySem.W.mg_of X G a, F.binds (ps := ["count", "link"]) fun _ _ _ _ _ _ us hl => match us, hl with | [_, _], _ => rfl⟩
theorem f_sCheckReplica (X : K.In h) (G : h.Ns mainGlobals mg) (a : PySem.W.nsIn K mainGlobals "check_replica" = some (some (.ref f))) (l : K.lookup f = some ⟨oc, od, .func (PySem.W.fnOf "check_replica" "check_replica" (defArgs sCheckReplica) (defBody sCheckReplica) (defScope sCheckReplica) .none kV dc pm an cd ct), sl⟩) (c : PySem.W.codeIn K cd "check_replica" = true) (k : PySem.W.keepIn K (.ref f) = true) : Df K mg "check_replica" sCheckReplica ["net", "replica"] :=
  have F := fun_mk (st := sCheckReplica) l c k
  ⟨f, _, F, PySem.W.mg_of X G a, F.binds (ps := ["net", "replica"]) fun _ _ _ _ _ _ us hl => match us, hl with | [_, _], _ => rfl⟩
theorem f_sCheckLink (X : K.In h) (G : h.Ns mainGlobals mg) (a : PySem.W.nsIn K mainGlobals "check_link" = some (some (.ref f))) (l : K.lookup f = some ⟨oc, od, .func (PySem.W.fnOf "check_link" "check_link" (defArgs sCheckLink) (defBody sCheckLink) (defScope sCheckLink) .none kV dc pm an cd ct), sl⟩) (c : PySem.W.codeIn K cd "check_link" = true) (k : PySem.W.keepIn K (.ref f) = true) : Df K mg "check_link" sCheckLink ["net", "source", "reader"] :=
  have F := fun_mk (st := sCheckLink) l c k
  ⟨f, _, F, PySem.W.mg_of X G a, F.binds (ps := ["net", "source", "reader"]) fun _ _ _ _ _ _ us hl => match us, hl with | [_, _, _], _ => rfl⟩
theorem f_sNetHasLink (a : PySem.W.findIn K (.ref C) "has_link" = some (some (.ref f))) (i : PySem.W.isFn K (.ref f) = true) (l : K.lookup f = some ⟨oc, od, .func (PySem.W.fnOf "has_link" "Net.has_link" (defArgs sNetHasLink) (defBody sNetHasLink) (defScope sNetHasLink) .none kV dc pm an cd ct), sl⟩) (c : PySem.W.codeIn K cd "Net.has_link" = true) (k : PySem.W.keepIn K (.ref f) = true) : DfM K C "has_link" "Net.has_link" sNetHasLink ["self", "source", "reader"] :=
  have F := fun_mk (st := sNetHasLink) l c k
  ⟨f, _, F, ⟨a, i, k⟩, F.binds (ps := ["self", "source", "reader"]) fun _ _ _ _ _ _ us hl => match us, hl with | [_, _, _], _ => rfl⟩
theorem f_sNetSources (a : PySem.W.findIn K (.ref C) "sources" = some (some (.ref f))) (i : PySem.W.isFn K (.ref f) = true) (l : K.lookup f = some ⟨oc, od, .func (PySem.W.fnOf "sources" "Net.sources" (defArgs sNetSources) (defBody sNetSources) (defScope sNetSources) .none kV dc pm an cd ct), sl⟩) (c : PySem.W.codeIn K cd "Net.sources" = true) (k : PySem.W.keepIn K (.ref f) = true) : DfM K C "sources" "Net.sources" sNetSources ["self", "reader"] :=
  have F := fun_mk (st := sNetSources) l c k
  ⟨f, _, F, ⟨a, i, k⟩, F.binds (ps := ["self", "reader"]) fun _ _ _ _ _ _ us hl => match us, hl with | [_, _], _ => rfl⟩
theorem f_sNetReaders (a : PySem.W.findIn K (.ref C) "readers" = some (some (.ref f))) (i : PySem.W.isFn K (.ref f) = true) (l : K.lookup f = some ⟨oc, od, .func (PySem.W.fnOf "readers" "Net.readers" (defArgs sNetReaders) (defBody sNetReaders) (defScope sNetReaders) .none kV dc pm an cd ct), sl⟩) (c : PySem.W.codeIn K cd "Net.readers" = true) (k : PySem.W.keepIn K (.ref f) = true) : DfM K C "readers" "Net.readers" sNetReaders ["self", "source"] :=
  have F := fun_mk (st := sNetReaders) l c k
  ⟨f, _, F, ⟨a, i, k⟩, F.binds (ps := ["self", "source"]) fun _ _ _ _ _ _ us hl => match us, hl with | [_, _], _ => rfl⟩
theorem f_sNetWithLink (a : PySem.W.findIn K (.ref C) "with_link" = some (some (.ref f))) (i : PySem.W.isFn K (.ref f) = true) (l : K.lookup f = some ⟨oc, od, .func (PySem.W.fnOf "with_link" "Net.with_link" (defArgs sNetWithLink) (defBody sNetWithLink) (defScope sNetWithLink) .none kV dc pm an cd ct), sl⟩) (c : PySem.W.codeIn K cd "Net.with_link" = true) (k : PySem.W.keepIn K (.ref f) = true) : DfM K C "with_link" "Net.with_link" sNetWithLink ["self", "source", "reader"] :=
  have F := fun_mk (st := sNetWithLink) l c k
  ⟨f, _, F, ⟨a, i, k⟩, F.binds (ps := ["self", "source", "reader"]) fun _ _ _ _ _ _ us hl => match us, hl with | [_, _, _], _ => rfl⟩
theorem f_sNetWithoutLink (a : PySem.W.findIn K (.ref C) "without_link" = some (some (.ref f))) (i : PySem.W.isFn K (.ref f) = true) (l : K.lookup f = some ⟨oc, od, .func (PySem.W.fnOf "without_link" "Net.without_link" (defArgs sNetWithoutLink) (defBody sNetWithoutLink) (defScope sNetWithoutLink) .none kV dc pm an cd ct), sl⟩) (c : PySem.W.codeIn K cd "Net.without_link" = true) (k : PySem.W.keepIn K (.ref f) = true) : DfM K C "without_link" "Net.without_link" sNetWithoutLink ["self", "source", "reader"] :=
  have F := fun_mk (st := sNetWithoutLink) l c k
  ⟨f, _, F, ⟨a, i, k⟩, F.binds (ps := ["self", "source", "reader"]) fun _ _ _ _ _ _ us hl => match us, hl with | [_, _, _], _ => rfl⟩
theorem f_sNetLinks (a : PySem.W.findIn K (.ref C) "links" = some (some (.ref p))) (i : PySem.W.specialIn K (.ref p) "__get__" = some (some (.builtin "property.__get__"))) (e : PySem.W.takesIn K (.ref p) = some true) (r : PySem.W.recIn K p "property" = some (.ref g :: rest)) (l : K.lookup g = some ⟨oc, od, .func (PySem.W.fnOf "links" "Net.links" (defArgs sNetLinks) (defBody sNetLinks) (defScope sNetLinks) .none kV dc pm an cd ct), sl⟩) (c : PySem.W.codeIn K cd "Net.links" = true) (k : PySem.W.keepIn K (.ref g) = true) : DfP K C "links" "Net.links" sNetLinks ["self"] :=
  have F := fun_mk (st := sNetLinks) l c k
  ⟨p, g, _, F, ⟨a, i, e, rest, r⟩, F.binds (ps := ["self"]) fun _ _ _ _ _ _ us hl => match us, hl with | [_], _ => rfl⟩
theorem f_sNetInit (e : PySem.W.makesIn K C = true) (a : PySem.W.findIn K (.ref C) "__init__" = some (some (.ref f))) (i : PySem.W.isFn K (.ref f) = true) (j : PySem.W.keepIn K (.ref C) = true) (l : K.lookup f = some ⟨oc, od, .func (PySem.W.fnOf "__init__" "Net.__init__" (defArgs sNetInit) (defBody sNetInit) (defScope sNetInit) .none kV dc pm an cd ct), sl⟩) (c : PySem.W.codeIn K cd "Net.__init__" = true) (k : PySem.W.keepIn K (.ref f) = true) : DfI K C "Net.__init__" sNetInit ["self", "count", "links"] :=
  have F := fun_mk (st := sNetInit) l c k
  ⟨f, _, F, ⟨e, a, i, j⟩, F.binds (ps := ["self", "count", "links"]) fun _ _ _ _ _ _ us hl => match us, hl with | [_, _, _], _ => rfl⟩
theorem f_sNetBothWays (a : PySem.W.findCls K (.ref C) mc "both_ways" = some (.get (.builtin "classmethod.__get__") (.ref p) .none (.ref C))) (r : PySem.W.recIn K p "classmethod" = some (.ref g :: rest)) (i : PySem.W.fnIn K g = true) (l : K.lookup g = some ⟨oc, od, .func (PySem.W.fnOf "both_ways" "Net.both_ways" (defArgs sNetBothWays) (defBody sNetBothWays) (defScope sNetBothWays) .none kV dc pm an cd ct), sl⟩) (c : PySem.W.codeIn K cd "Net.both_ways" = true) (k : PySem.W.keepIn K (.ref g) = true) : DfC K C mc "both_ways" "Net.both_ways" sNetBothWays ["cls", "count", "pairs"] :=
  have F := fun_mk (st := sNetBothWays) l c k
  ⟨p, g, _, F, ⟨a, ⟨rest, r⟩, i⟩, F.binds (ps := ["cls", "count", "pairs"]) fun _ _ _ _ _ _ us hl => match us, hl with | [_, _, _], _ => rfl⟩
theorem f_sNetLine (a : PySem.W.findCls K (.ref C) mc "line" = some (.get (.builtin "classmethod.__get__") (.ref p) .none (.ref C))) (r : PySem.W.recIn K p "classmethod" = some (.ref g :: rest)) (i : PySem.W.fnIn K g = true) (l : K.lookup g = some ⟨oc, od, .func (PySem.W.fnOf "line" "Net.line" (defArgs sNetLine) (defBody sNetLine) (defScope sNetLine) .none kV dc pm an cd ct), sl⟩) (c : PySem.W.codeIn K cd "Net.line" = true) (k : PySem.W.keepIn K (.ref g) = true) : DfC K C mc "line" "Net.line" sNetLine ["cls", "count"] :=
  have F := fun_mk (st := sNetLine) l c k
  ⟨p, g, _, F, ⟨a, ⟨rest, r⟩, i⟩, F.binds (ps := ["cls", "count"]) fun _ _ _ _ _ _ us hl => match us, hl with | [_, _], _ => rfl⟩
theorem f_sNetStar (a : PySem.W.findCls K (.ref C) mc "star" = some (.get (.builtin "classmethod.__get__") (.ref p) .none (.ref C))) (r : PySem.W.recIn K p "classmethod" = some (.ref g :: rest)) (i : PySem.W.fnIn K g = true) (l : K.lookup g = some ⟨oc, od, .func (PySem.W.fnOf "star" "Net.star" (defArgs sNetStar) (defBody sNetStar) (defScope sNetStar) .none kV dc pm an cd ct), sl⟩) (c : PySem.W.codeIn K cd "Net.star" = true) (k : PySem.W.keepIn K (.ref g) = true) : DfC K C mc "star" "Net.star" sNetStar ["cls", "count"] :=
  have F := fun_mk (st := sNetStar) l c k
  ⟨p, g, _, F, ⟨a, ⟨rest, r⟩, i⟩, F.binds (ps := ["cls", "count"]) fun _ _ _ _ _ _ us hl => match us, hl with | [_, _], _ => rfl⟩
theorem f_sNetComplete (a : PySem.W.findCls K (.ref C) mc "complete" = some (.get (.builtin "classmethod.__get__") (.ref p) .none (.ref C))) (r : PySem.W.recIn K p "classmethod" = some (.ref g :: rest)) (i : PySem.W.fnIn K g = true) (l : K.lookup g = some ⟨oc, od, .func (PySem.W.fnOf "complete" "Net.complete" (defArgs sNetComplete) (defBody sNetComplete) (defScope sNetComplete) .none kV dc pm an cd ct), sl⟩) (c : PySem.W.codeIn K cd "Net.complete" = true) (k : PySem.W.keepIn K (.ref g) = true) : DfC K C mc "complete" "Net.complete" sNetComplete ["cls", "count"] :=
  have F := fun_mk (st := sNetComplete) l c k
  ⟨p, g, _, F, ⟨a, ⟨rest, r⟩, i⟩, F.binds (ps := ["cls", "count"]) fun _ _ _ _ _ _ us hl => match us, hl with | [_, _], _ => rfl⟩
theorem f_sNetRing (a : PySem.W.findCls K (.ref C) mc "ring" = some (.get (.builtin "classmethod.__get__") (.ref p) .none (.ref C))) (r : PySem.W.recIn K p "classmethod" = some (.ref g :: rest)) (i : PySem.W.fnIn K g = true) (l : K.lookup g = some ⟨oc, od, .func (PySem.W.fnOf "ring" "Net.ring" (defArgs sNetRing) (defBody sNetRing) (defScope sNetRing) .none kV dc pm an cd ct), sl⟩) (c : PySem.W.codeIn K cd "Net.ring" = true) (k : PySem.W.keepIn K (.ref g) = true) : DfC K C mc "ring" "Net.ring" sNetRing ["cls", "count"] :=
  have F := fun_mk (st := sNetRing) l c k
  ⟨p, g, _, F, ⟨a, ⟨rest, r⟩, i⟩, F.binds (ps := ["cls", "count"]) fun _ _ _ _ _ _ us hl => match us, hl with | [_, _], _ => rfl⟩
theorem f_sEI (a : PySem.W.findIn K (.ref C) "__init__" = some (some (.ref f))) (i : PySem.W.typeIn K (.ref f) = some (.type "function")) (l : K.lookup f = some ⟨oc, od, .func (PySem.W.fnOf "__init__" "InvalidNet.__init__" (defArgs sEI) (defBody sEI) (defScope sEI) .none kV dc pm an cd ct), sl⟩) (c : PySem.W.codeIn K cd "InvalidNet.__init__" = true) (k : PySem.W.keepIn K (.ref f) = true) : DfE K C "InvalidNet.__init__" sEI ["self", "link"] :=
  have F := fun_mk (st := sEI) l c k
  ⟨f, _, F, a, i, F.binds (ps := ["self", "link"]) fun _ _ _ _ _ _ us hl => match us, hl with | [_, _], _ => rfl⟩
theorem f_sEU (a : PySem.W.findIn K (.ref C) "__init__" = some (some (.ref f))) (i : PySem.W.typeIn K (.ref f) = some (.type "function")) (l : K.lookup f = some ⟨oc, od, .func (PySem.W.fnOf "__init__" "UnknownReplica.__init__" (defArgs sEU) (defBody sEU) (defScope sEU) .none kV dc pm an cd ct), sl⟩) (c : PySem.W.codeIn K cd "UnknownReplica.__init__" = true) (k : PySem.W.keepIn K (.ref f) = true) : DfE K C "UnknownReplica.__init__" sEU ["self", "replica"] :=
  have F := fun_mk (st := sEU) l c k
  ⟨f, _, F, a, i, F.binds (ps := ["self", "replica"]) fun _ _ _ _ _ _ us hl => match us, hl with | [_, _], _ => rfl⟩
theorem f_sEL (a : PySem.W.findIn K (.ref C) "__init__" = some (some (.ref f))) (i : PySem.W.typeIn K (.ref f) = some (.type "function")) (l : K.lookup f = some ⟨oc, od, .func (PySem.W.fnOf "__init__" "NotLinked.__init__" (defArgs sEL) (defBody sEL) (defScope sEL) .none kV dc pm an cd ct), sl⟩) (c : PySem.W.codeIn K cd "NotLinked.__init__" = true) (k : PySem.W.keepIn K (.ref f) = true) : DfE K C "NotLinked.__init__" sEL ["self", "source", "reader"] :=
  have F := fun_mk (st := sEL) l c k
  ⟨f, _, F, a, i, F.binds (ps := ["self", "source", "reader"]) fun _ _ _ _ _ _ us hl => match us, hl with | [_, _, _], _ => rfl⟩
end
theorem all_ok {P : Program} {w : World} {K : PySem.W.Frag} {mg : Str → Option Value} {base : Heap} {CN CI CU CL CS : Addr} {mc mu : Value} (T : LTx K mg CN CI CU CL CS mc mu) (oxI : OexC K CI ∧ IsX K CI) (oxU : OexC K CU ∧ IsX K CU) (oxL : OexC K CL ∧ IsX K CL)
    (dDraw : Df K mg "_law_draw" sDraw ["box", "many"])
    (dGreat : Df K mg "_law_great" sGreat ["box"])
    (dIsInt : Df K mg "_law_is_int" sIsInt ["actual"])
    (dStranger : Df K mg "_law_stranger" sStranger ["box", "count"])
    (dTruth : Df K mg "_law_truth" sTruth ["actual", "due"])
    (dCount : Df K mg "_law_count" sCount ["box"])
    (dPair : Df K mg "_law_pair" sPair ["box", "count"])
    (dIsPair : Df K mg "_law_is_pair" sIsPair ["actual", "due"])
    (dPairsAre : Df K mg "_law_pairs_are" sPairsAre ["told", "due"])
    (dIntsAre : Df K mg "_law_ints_are" sIntsAre ["told", "due"])
    (dBox : Df K mg "_law_box" sBox ["script"])
    (dStep : Df K mg "_law_step" sStep ["box"])
    (dFirstBad : Df K mg "_law_first_bad" sFirstBad ["count", "pairs"])
    (dTable : Df K mg "_law_table" sTable ["count", "pairs", "both"])
    (dTies : Df K mg "_law_ties" sTies ["count", "table"])
    (dBadPair : Df K mg "_law_bad_pair" sBadPair ["box", "count"])
    (dGoodPairs : Df K mg "_law_good_pairs" sGoodPairs ["box", "count"])
    (dSpoilt : Df K mg "_law_spoilt" sSpoilt ["box", "count", "pairs"])
    (dWrongCount : Df K mg "_law_wrong_count" sWrongCount ["box", "way"])
    (dDeedPair : Df K mg "_law_deed_pair" sDeedPair ["box", "count", "table"])
    (dRow : Df K mg "_law_row" sRow ["net", "way", "replica"])
    (dRowIs : Df K mg "_law_row_is" sRowIs ["net", "way", "replica", "due"])
    (dUnknown : Df K mg "_law_unknown" sUnknown ["net", "way", "replica"])
    (dCall : Df K mg "_law_call" sCall ["way", "count", "pairs"])
    (dMade : Df K mg "_law_made" sMade ["way", "count", "pairs"])
    (dChanged : Df K mg "_law_changed" sChanged ["adds", "net", "pair"])
    (dDeed : Df K mg "_law_deed" sDeed ["adds", "net", "pair"])
    (dRefused : Df K mg "_law_refused" sRefused ["made", "due"])
    (dNamedTable : Df K mg "_law_named_table" sNamedTable ["way", "count"])
    (dHas : Df K mg "_law_has" sHas ["box", "net", "count", "table"])
    (dNetIs : Df K mg "_law_net_is" sNetIs ["box", "net", "count", "table"])
    (dNamed : Df K mg "_law_named" sNamed ["box", "count"])
    (dCounts : Df K mg "_law_counts" sCounts ["box", "count", "pairs"])
    (dBuilds : Df K mg "_law_builds" sBuilds ["box", "count", "pairs"])
    (dDeeds : Df K mg "_law_deeds" sDeeds ["box", "count", "pairs"])
    (dCheckCount : Df K mg "check_count" sCheckCount ["count"])
    (dCheckPair : Df K mg "check_pair" sCheckPair ["count", "link"])
    (dCheckReplica : Df K mg "check_replica" sCheckReplica ["net", "replica"])
    (dCheckLink : Df K mg "check_link" sCheckLink ["net", "source", "reader"])
    (mNetHasLink : DfM K CN "has_link" "Net.has_link" sNetHasLink ["self", "source", "reader"])
    (mNetSources : DfM K CN "sources" "Net.sources" sNetSources ["self", "reader"])
    (mNetReaders : DfM K CN "readers" "Net.readers" sNetReaders ["self", "source"])
    (mNetWithLink : DfM K CN "with_link" "Net.with_link" sNetWithLink ["self", "source", "reader"])
    (mNetWithoutLink : DfM K CN "without_link" "Net.without_link" sNetWithoutLink ["self", "source", "reader"])
    (mNetLinks : DfP K CN "links" "Net.links" sNetLinks ["self"])
    (mNetInit : DfI K CN "Net.__init__" sNetInit ["self", "count", "links"])
    (mNetBothWays : DfC K CN mc "both_ways" "Net.both_ways" sNetBothWays ["cls", "count", "pairs"])
    (mNetLine : DfC K CN mc "line" "Net.line" sNetLine ["cls", "count"])
    (mNetStar : DfC K CN mc "star" "Net.star" sNetStar ["cls", "count"])
    (mNetComplete : DfC K CN mc "complete" "Net.complete" sNetComplete ["cls", "count"])
    (mNetRing : DfC K CN mc "ring" "Net.ring" sNetRing ["cls", "count"])
    (eEI : DfE K CI "InvalidNet.__init__" sEI ["self", "link"])
    (eEU : DfE K CU "UnknownReplica.__init__" sEU ["self", "replica"])
    (eEL : DfE K CL "NotLinked.__init__" sEL ["self", "source", "reader"])
    {f : Addr} {fd : FuncData} (F : L2.Fun K "law" "law" sLaw f fd) : FnOk P w K mg base CX0 14 f fd ["script"] (spLaw K) := by
  have MInvalidNet : Mke P w K mg base 1 "InvalidNet" CI (spErr1 CI "link") := (let ⟨f, fd, F, a, i, b⟩ := eEI; ⟨⟨oxI.1, T.mgInvalidNet, oxI.2⟩, f, fd, _, a, i, ok_EI F oxI.1 T.noI, b⟩)
  have MUnknownReplica : Mke P w K mg base 1 "UnknownReplica" CU (spErr1 CU "replica") := (let ⟨f, fd, F, a, i, b⟩ := eEU; ⟨⟨oxU.1, T.mgUnknownReplica, oxU.2⟩, f, fd, _, a, i, ok_EU F oxU.1 T.noU, b⟩)
  have MNotLinked : Mke P w K mg base 1 "NotLinked" CL (spErr2 CL "source" "reader") := (let ⟨f, fd, F, a, i, b⟩ := eEL; ⟨⟨oxL.1, T.mgNotLinked, oxL.2⟩, f, fd, _, a, i, ok_EL F oxL.1 T.noL1 T.noL2, b⟩)
  have GDraw : C8.Cal P w K mg base 1 "_law_draw" spDraw [] := ok_Draw dDraw T.toNTx.toTxt
  have GGreat : C8.Cal P w K mg base 2 "_law_great" spGreat [] := ok_Great dGreat T.toNTx.toTxt GDraw
  have GIsInt : C8.Cal P w K mg base 1 "_law_is_int" spIsInt [] := ok_IsInt dIsInt T.toNTx.toTxt
  have GStranger : C8.Cal P w K mg base 3 "_law_stranger" spStranger [] := ok_Stranger dStranger T.toNTx.toTxt GDraw GGreat
  have GTruth : C8.Cal P w K mg base 1 "_law_truth" spTruth [] := ok_Truth dTruth T.toNTx.toTxt
  have GCount : C8.Cal P w K mg base 2 "_law_count" spCount [] := ok_Count dCount T.toNTx.toTxt GDraw
  have GPair : C8.Cal P w K mg base 2 "_law_pair" spPair [] := ok_Pair dPair T.toNTx.toTxt GDraw
  have GIsPair : C8.Cal P w K mg base 2 "_law_is_pair" spIsPair [] := ok_IsPair dIsPair T.toNTx.toTxt GIsInt
  have GPairsAre : C8.Cal P w K mg base 3 "_law_pairs_are" spPairsAre [] := ok_PairsAre dPairsAre T.toNTx.toTxt GIsPair
  have GIntsAre : C8.Cal P w K mg base 2 "_law_ints_are" spIntsAre [] := ok_IntsAre dIntsAre T.toNTx.toTxt GIsInt
  have GBox : C8.Cal P w K mg base 1 "_law_box" (spBox K) [] := ok_Box dBox T.toNTx.toTxt
  have GStep : C8.Cal P w K mg base 1 "_law_step" spStep [] := ok_Step dStep T.toNTx.toTxt
  have GFirstBad : C8.Cal P w K mg base 1 "_law_first_bad" spFirstBad [] := ok_FirstBad dFirstBad T.toNTx.toTxt
  have GTable : C8.Cal P w K mg base 1 "_law_table" spTable [] := ok_Table dTable T.toNTx.toTxt
  have GTies : C8.Cal P w K mg base 1 "_law_ties" spTies [] := ok_Ties dTies T.toNTx.toTxt
  have GBadPair : C8.Cal P w K mg base 4 "_law_bad_pair" spBadPair [] := ok_BadPair dBadPair T.toNTx.toTxt GDraw GStranger
  have GGoodPairs : C8.Cal P w K mg base 3 "_law_good_pairs" spGoodPairs [] := ok_GoodPairs dGoodPairs T.toNTx.toTxt GDraw GPair
  have GSpoilt : C8.Cal P w K mg base 5 "_law_spoilt" spSpoilt [] := ok_Spoilt dSpoilt T.toNTx.toTxt GDraw GBadPair
  have GWrongCount : C8.Cal P w K mg base 3 "_law_wrong_count" spWrongCount [] := ok_WrongCount dWrongCount T.toNTx.toTxt GDraw GGreat
  have GDeedPair : C8.Cal P w K mg base 5 "_law_deed_pair" spDeedPair [] := ok_DeedPair dDeedPair T.toNTx.toTxt GDraw GPair GBadPair GTies
  have GIsIntQ : CalQ P w K mg base 1 "_law_is_int" spIsInt := ok_IsIntQ dIsInt T.toNTx.toTxt
  have GRefused : C8.Cal P w K mg base 3 "_law_refused" spRefused [] := ok_Refused dRefused T GIsPair
  have GNamedTable : C8.Cal P w K mg base 1 "_law_named_table" spNamedTable [] := ok_NamedTable dNamedTable T
  have GCheckCount : CalX P w K mg base 3 "check_count" (spCheckCount CI) := ok_CheckCount dCheckCount T.toNTx MInvalidNet
  have GCheckPair : CalX P w K mg base 3 "check_pair" (spCheckPair CI) := ok_CheckPair dCheckPair T.toNTx MInvalidNet
  have GCheckReplica : CalX P w K mg base 3 "check_replica" (spCheckReplica CN CU) := ok_CheckReplica dCheckReplica T.toNTx MUnknownReplica
  have KNetHasLink : C8.Met P w K mg base 1 CN "has_link" (spHas CN) [] := (let ⟨f, fd, F, a, b⟩ := mNetHasLink; ⟨f, fd, _, [], T.cl, a, ok_NetHasLink F T.toNTx, b, .nil⟩)
  have GCheckLink : CalX P w K mg base 3 "check_link" (spCheckLink CN CL) := ok_CheckLink dCheckLink T.toNTx MNotLinked KNetHasLink
  have KNetLinks : PropC P w K mg base 1 CN "links" (spLinks CN) := (let ⟨p, g, fd, F, a, b⟩ := mNetLinks; ⟨p, g, fd, _, T.cl, a, ok_NetLinks F T.toNTx, b⟩)
  have KNetSources : MetX P w K mg base 5 CN "sources" (spSources CN CU) := (let ⟨f, fd, F, a, b⟩ := mNetSources; ⟨f, fd, _, T.cl, a, ok_NetSources F T.toNTx GCheckReplica, b⟩)
  have KNetReaders : MetX P w K mg base 5 CN "readers" (spReaders CN CU) := (let ⟨f, fd, F, a, b⟩ := mNetReaders; ⟨f, fd, _, T.cl, a, ok_NetReaders F T.toNTx GCheckReplica, b⟩)
  have KNetInit : MakX P w K mg base 5 "Net" CN (spInit CN CI) := (let ⟨f, fd, F, a, b⟩ := mNetInit; ⟨f, fd, _, a, ok_NetInit F T.toNTx GCheckCount GCheckPair, T.mgNet, b⟩)
  have KNetBothWays : ClmX P w K mg base 7 CN "both_ways" (spBoth CN CI) := (let ⟨p, g, fd, F, a, b⟩ := mNetBothWays; ⟨p, g, fd, _, mc, T.rd, a, ok_NetBothWays F T.toNTx KNetInit, b⟩)
  have KNetLine : ClmX P w K mg base 9 CN "line" (spNamed CN CI lineR) := (let ⟨p, g, fd, F, a, b⟩ := mNetLine; ⟨p, g, fd, _, mc, T.rd, a, ok_NetLine F T.toNTx GCheckCount KNetBothWays, b⟩)
  have KNetStar : ClmX P w K mg base 9 CN "star" (spNamed CN CI starR) := (let ⟨p, g, fd, F, a, b⟩ := mNetStar; ⟨p, g, fd, _, mc, T.rd, a, ok_NetStar F T.toNTx GCheckCount KNetBothWays, b⟩)
  have KNetRing : ClmX P w K mg base 7 CN "ring" (spNamed CN CI ringR) := (let ⟨p, g, fd, F, a, b⟩ := mNetRing; ⟨p, g, fd, _, mc, T.rd, a, ok_NetRing F T.toNTx GCheckCount KNetInit, b⟩)
  have KNetComplete : ClmX P w K mg base 7 CN "complete" (spNamed CN CI wholeR) := (let ⟨p, g, fd, F, a, b⟩ := mNetComplete; ⟨p, g, fd, _, mc, T.rd, a, ok_NetComplete F T.toNTx GCheckCount KNetInit, b⟩)
  have KNetWithLink : MetX P w K mg base 7 CN "with_link" (spWith CN CI) := (let ⟨f, fd, F, a, b⟩ := mNetWithLink; ⟨f, fd, _, T.cl, a, ok_NetWithLink F T.toNTx KNetInit KNetLinks, b⟩)
  have KNetWithoutLink : MetX P w K mg base 7 CN "without_link" (spWithout CN CL) := (let ⟨f, fd, F, a, b⟩ := mNetWithoutLink; ⟨f, fd, _, T.cl, a, ok_NetWithoutLink F T.toNTx KNetInit KNetLinks GCheckLink, b⟩)
  have GRow : CalX P w K mg base 6 "_law_row" (spRow CN CU) := ok_Row dRow T KNetSources KNetReaders
  have GRowIs : C8.Cal P w K mg base 7 "_law_row_is" (spRowIs CN) [] := ok_RowIs dRowIs T GRow GIntsAre
  have GUnknown : C8.Cal P w K mg base 7 "_law_unknown" (spUnknown CN) [] := ok_Unknown dUnknown T GRow GIsIntQ
  have GCall : CalX P w K mg base 10 "_law_call" (spCall CN CI) := ok_Call dCall T KNetInit KNetBothWays KNetLine KNetStar KNetComplete KNetRing
  have GMade : C8.Cal P w K mg base 12 "_law_made" (spMade CN) [] := ok_Made dMade T GCall
  have GChanged : CalX P w K mg base 8 "_law_changed" (spChanged CN CI CL) := ok_Changed dChanged T KNetWithLink KNetWithoutLink
  have GDeed : C8.Cal P w K mg base 10 "_law_deed" (spDeed CN) [] := ok_Deed dDeed T GChanged
  have GHas : C8.Cal P w K mg base 6 "_law_has" (spHasAll CN) [] := ok_Has dHas T GDraw GStranger GTruth KNetHasLink
  have GNetIs : C8.Cal P w K mg base 9 "_law_net_is" (spNetIs CN) [] := ok_NetIs dNetIs T GTies GIsInt KNetLinks GPairsAre GRowIs GUnknown GStranger GHas
  have GNamed : C8.Cal P w K mg base 13 "_law_named" spNamedL [] := ok_Named dNamed T GDraw GNamedTable GMade KNetLinks GTies GPairsAre GIsInt GNetIs
  have GCounts : C8.Cal P w K mg base 13 "_law_counts" spCounts [] := ok_Counts dCounts T GDraw GSpoilt GWrongCount GMade GRefused
  have GBuilds : C8.Cal P w K mg base 13 "_law_builds" spBuilds [] := ok_Builds dBuilds T GMade GTable GNetIs GSpoilt GFirstBad GRefused
  have GDeeds : C8.Cal P w K mg base 13 "_law_deeds" spDeeds [] := ok_Deeds dDeeds T KNetInit GTable GDraw GDeedPair GFirstBad GDeed GRefused KNetLinks GTies GPairsAre GNetIs
  exact fn_Law F T GBox GStep GCount GGoodPairs GIsInt GBuilds GDeeds GNamed GCounts
theorem all_mk {l : PySem.W.OpenLaw} {w : World} {K : PySem.W.Frag} {h : Heap} {mg : Str → Option Value} {fa f CN CI CU CL CS : Addr} {mc oc kV dc pm cd ct : Value} {tk : Tok} {od an : Option Addr} {sl : Array (Option Value)} (X : K.In h) (G : h.Ns mainGlobals mg)
    (fa_ : mg "law" = some (.ref fa))
    (aN : PySem.W.nsIn K mainGlobals "Net" = some (some (.ref CN)))
    (aI : PySem.W.nsIn K mainGlobals "InvalidNet" = some (some (.ref CI)))
    (aU : PySem.W.nsIn K mainGlobals "UnknownReplica" = some (some (.ref CU)))
    (aL : PySem.W.nsIn K mainGlobals "NotLinked" = some (some (.ref CL)))
    (aS : PySem.W.nsIn K mainGlobals "StoreError" = some (some (.ref CS)))
    (zV : PySem.W.nsIn K mainGlobals "ValueError" = some none)
    (z_len : PySem.W.nsIn K mainGlobals "len" = some none)
    (z_int : PySem.W.nsIn K mainGlobals "int" = some none)
    (z_bool : PySem.W.nsIn K mainGlobals "bool" = some none)
    (z_list : PySem.W.nsIn K mainGlobals "list" = some none)
    (z_tuple : PySem.W.nsIn K mainGlobals "tuple" = some none)
    (z_range : PySem.W.nsIn K mainGlobals "range" = some none)
    (z_isinstance : PySem.W.nsIn K mainGlobals "isinstance" = some none)
    (z_sum : PySem.W.nsIn K mainGlobals "sum" = some none)
    (z_max : PySem.W.nsIn K mainGlobals "max" = some none)
    (z_min : PySem.W.nsIn K mainGlobals "min" = some none)
    (z_set : PySem.W.nsIn K mainGlobals "set" = some none)
    (z_sorted : PySem.W.nsIn K mainGlobals "sorted" = some none)
    (tN : PySem.W.typeIn K (.ref CN) = some mc)
    (pg : PySem.W.plainGet K CN Str.empty = true)
    (hd : PySem.W.hasDictIn K CN = true)
    (po : PySem.W.plainOver K CN = true)
    (sa : PySem.W.findIn K (.ref CN) "__setattr__" = some (some (.builtin "object.__setattr__")))
    (rd : PySem.W.readsIn K CN mc = true)
    (rg : PySem.W.specialIn K (.ref CN) "__getattribute__" = some (some (.builtin "type.__getattribute__")))
    (mo : PySem.W.findCls K (.ref CN) mc "MOST" = some (.val (.int 24 tk)))
    (nc : PySem.W.findIn K (.ref CN) "count" = some none)
    (nl : PySem.W.findIn K (.ref CN) "_links" = some none)
    (noI : PySem.W.findIn K (.ref CI) "link" = some none)
    (noU : PySem.W.findIn K (.ref CU) "replica" = some none)
    (noL1 : PySem.W.findIn K (.ref CL) "source" = some none)
    (noL2 : PySem.W.findIn K (.ref CL) "reader" = some none)
    (sB : PySem.W.subIn K (.ref CS) (.type "BaseException") = some true)
    (sC : PySem.W.isClsIn K CS = true)
    (sT : PySem.W.typeIn K (.ref CS) = some (.type "type"))
    (sIS : PySem.W.subIn K (.ref CI) (.ref CS) = some true)
    (sIV : PySem.W.subIn K (.ref CI) (.type "ValueError") = some true)
    (sUS : PySem.W.subIn K (.ref CU) (.ref CS) = some true)
    (sUV : PySem.W.subIn K (.ref CU) (.type "ValueError") = some true)
    (sLS : PySem.W.subIn K (.ref CL) (.ref CS) = some true)
    (sLV : PySem.W.subIn K (.ref CL) (.type "ValueError") = some true)
    (sIU : PySem.W.subIn K (.ref CI) (.ref CU) = some false)
    (nIU : CI ≠ CU)
    (sIL : PySem.W.subIn K (.ref CI) (.ref CL) = some false)
    (nIL : CI ≠ CL)
    (sUI : PySem.W.subIn K (.ref CU) (.ref CI) = some false)
    (nUI : CU ≠ CI)
    (sUL : PySem.W.subIn K (.ref CU) (.ref CL) = some false)
    (nUL : CU ≠ CL)
    (sLI : PySem.W.subIn K (.ref CL) (.ref CI) = some false)
    (nLI : CL ≠ CI)
    (sLU : PySem.W.subIn K (.ref CL) (.ref CU) = some false)
    (nLU : CL ≠ CU)
    (oxI : OexC K CI ∧ IsX K CI) (oxU : OexC K CU ∧ IsX K CU) (oxL : OexC K CL ∧ IsX K CL)
    (dDraw : Df K mg "_law_draw" sDraw ["box", "many"])
    (dGreat : Df K mg "_law_great" sGreat ["box"])
    (dIsInt : Df K mg "_law_is_int" sIsInt ["actual"])
    (dStranger : Df K mg "_law_stranger" sStranger ["box", "count"])
    (dTruth : Df K mg "_law_truth" sTruth ["actual", "due"])
    (dCount : Df K mg "_law_count" sCount ["box"])
    (dPair : Df K mg "_law_pair" sPair ["box", "count"])
    (dIsPair : Df K mg "_law_is_pair" sIsPair ["actual", "due"])
    (dPairsAre : Df K mg "_law_pairs_are" sPairsAre ["told", "due"])
    (dIntsAre : Df K mg "_law_ints_are" sIntsAre ["told", "due"])
    (dBox : Df K mg "_law_box" sBox ["script"])
    (dStep : Df K mg "_law_step" sStep ["box"])
    (dFirstBad : Df K mg "_law_first_bad" sFirstBad ["count", "pairs"])
    (dTable : Df K mg "_law_table" sTable ["count", "pairs", "both"])
    (dTies : Df K mg "_law_ties" sTies ["count", "table"])
    (dBadPair : Df K mg "_law_bad_pair" sBadPair ["box", "count"])
    (dGoodPairs : Df K mg "_law_good_pairs" sGoodPairs ["box", "count"])
    (dSpoilt : Df K mg "_law_spoilt" sSpoilt ["box", "count", "pairs"])
    (dWrongCount : Df K mg "_law_wrong_count" sWrongCount ["box", "way"])
    (dDeedPair : Df K mg "_law_deed_pair" sDeedPair ["box", "count", "table"])
    (dRow : Df K mg "_law_row" sRow ["net", "way", "replica"])
    (dRowIs : Df K mg "_law_row_is" sRowIs ["net", "way", "replica", "due"])
    (dUnknown : Df K mg "_law_unknown" sUnknown ["net", "way", "replica"])
    (dCall : Df K mg "_law_call" sCall ["way", "count", "pairs"])
    (dMade : Df K mg "_law_made" sMade ["way", "count", "pairs"])
    (dChanged : Df K mg "_law_changed" sChanged ["adds", "net", "pair"])
    (dDeed : Df K mg "_law_deed" sDeed ["adds", "net", "pair"])
    (dRefused : Df K mg "_law_refused" sRefused ["made", "due"])
    (dNamedTable : Df K mg "_law_named_table" sNamedTable ["way", "count"])
    (dHas : Df K mg "_law_has" sHas ["box", "net", "count", "table"])
    (dNetIs : Df K mg "_law_net_is" sNetIs ["box", "net", "count", "table"])
    (dNamed : Df K mg "_law_named" sNamed ["box", "count"])
    (dCounts : Df K mg "_law_counts" sCounts ["box", "count", "pairs"])
    (dBuilds : Df K mg "_law_builds" sBuilds ["box", "count", "pairs"])
    (dDeeds : Df K mg "_law_deeds" sDeeds ["box", "count", "pairs"])
    (dCheckCount : Df K mg "check_count" sCheckCount ["count"])
    (dCheckPair : Df K mg "check_pair" sCheckPair ["count", "link"])
    (dCheckReplica : Df K mg "check_replica" sCheckReplica ["net", "replica"])
    (dCheckLink : Df K mg "check_link" sCheckLink ["net", "source", "reader"])
    (mNetHasLink : DfM K CN "has_link" "Net.has_link" sNetHasLink ["self", "source", "reader"])
    (mNetSources : DfM K CN "sources" "Net.sources" sNetSources ["self", "reader"])
    (mNetReaders : DfM K CN "readers" "Net.readers" sNetReaders ["self", "source"])
    (mNetWithLink : DfM K CN "with_link" "Net.with_link" sNetWithLink ["self", "source", "reader"])
    (mNetWithoutLink : DfM K CN "without_link" "Net.without_link" sNetWithoutLink ["self", "source", "reader"])
    (mNetLinks : DfP K CN "links" "Net.links" sNetLinks ["self"])
    (mNetInit : DfI K CN "Net.__init__" sNetInit ["self", "count", "links"])
    (mNetBothWays : DfC K CN mc "both_ways" "Net.both_ways" sNetBothWays ["cls", "count", "pairs"])
    (mNetLine : DfC K CN mc "line" "Net.line" sNetLine ["cls", "count"])
    (mNetStar : DfC K CN mc "star" "Net.star" sNetStar ["cls", "count"])
    (mNetComplete : DfC K CN mc "complete" "Net.complete" sNetComplete ["cls", "count"])
    (mNetRing : DfC K CN mc "ring" "Net.ring" sNetRing ["cls", "count"])
    (eEI : DfE K CI "InvalidNet.__init__" sEI ["self", "link"])
    (eEU : DfE K CU "UnknownReplica.__init__" sEU ["self", "replica"])
    (eEL : DfE K CL "NotLinked.__init__" sEL ["self", "source", "reader"])
    (f_a : PySem.W.nsIn K mainGlobals "law" = some (some (.ref f)))
    (f_l : K.lookup f = some ⟨oc, od, .func (PySem.W.fnOf "law" "law" (defArgs sLaw) (defBody sLaw) (defScope sLaw) .none kV dc pm an cd ct), sl⟩)
    (f_c : PySem.W.codeIn K cd "law" = true)
    (f_k : PySem.W.keepIn K (.ref f) = true) :
    ∃ fd : FuncData, (∀ (s : Shared) (v : Value), BindsTo s fd ⟨[v], []⟩ [("script", v)]) ∧ ∀ base : Heap, K.In base → base.Ns mainGlobals mg → FnOk l.prog w K mg base CX0 14 fa fd ["script"] (spLaw K) := by
  have e := fa_.symm.trans (PySem.W.mg_of X G f_a)
  cases e
  have T : LTx K mg CN CI CU CL CS mc (.int 24 tk) := { len := PySem.W.mg_none_of X G z_len, int := PySem.W.mg_none_of X G z_int, bool := PySem.W.mg_none_of X G z_bool, list := PySem.W.mg_none_of X G z_list, tuple := PySem.W.mg_none_of X G z_tuple, range := PySem.W.mg_none_of X G z_range, isinstance := PySem.W.mg_none_of X G z_isinstance, sum := PySem.W.mg_none_of X G z_sum, max := PySem.W.mg_none_of X G z_max, min := PySem.W.mg_none_of X G z_min, set := PySem.W.mg_none_of X G z_set, sorted := PySem.W.mg_none_of X G z_sorted, cl := ⟨pg, hd, po, sa⟩, rd := ⟨rd, rg⟩, most := ⟨mo, ⟨_, rfl⟩⟩, n_count := nc, n__links := nl, mgNet := PySem.W.mg_of X G aN, mgInvalidNet := PySem.W.mg_of X G aI, mgUnknownReplica := PySem.W.mg_of X G aU, mgNotLinked := PySem.W.mg_of X G aL, mgStoreError := PySem.W.mg_of X G aS, mgV := PySem.W.mg_none_of X G zV, isI := oxI.2, isU := oxU.2, isL := oxL.2, xI := exm_sub sB sC sT sIS, xU := exm_sub sB sC sT sUS, xL := exm_sub sB sC sT sLS, kII := kit_same, kIU := kit_other nIU oxU.2.cl oxU.1.tyC sIU, kIL := kit_other nIL oxL.2.cl oxL.1.tyC sIL, kUI := kit_other nUI oxI.2.cl oxI.1.tyC sUI, kUU := kit_same, kUL := kit_other nUL oxL.2.cl oxL.1.tyC sUL, kLI := kit_other nLI oxI.2.cl oxI.1.tyC sLI, kLU := kit_other nLU oxU.2.cl oxU.1.tyC sLU, kLL := kit_same, kIV := kit_value sIV, kUV := kit_value sUV, kLV := kit_value sLV, noI := noI, noU := noU, noL1 := noL1, noL2 := noL2 }
  exact ⟨PySem.W.fnOf "law" "law" (defArgs sLaw) (defBody sLaw) (defScope sLaw) .none kV dc pm an cd ct, fun s v => .of_eq rfl, fun base _ _ => all_ok T oxI oxU oxL dDraw dGreat dIsInt dStranger dTruth dCount dPair dIsPair dPairsAre dIntsAre dBox dStep dFirstBad dTable dTies dBadPair dGoodPairs dSpoilt dWrongCount dDeedPair dRow dRowIs dUnknown dCall dMade dChanged dDeed dRefused dNamedTable dHas dNetIs dNamed dCounts dBuilds dDeeds dCheckCount dCheckPair dCheckReplica dCheckLink mNetHasLink mNetSources mNetReaders mNetWithLink mNetWithoutLink mNetLinks mNetInit mNetBothWays mNetLine mNetStar mNetComplete mNetRing eEI eEU eEL (fun_mk (st := sLaw) f_l f_c f_k)⟩
theorem walk {l : PySem.W.OpenLaw} {q : Program} {loose : List Str} {XP : (Str → Option Value) → Heap → Prop} {YP : World → Heap → Prop} {d : DefRec} {K : Params → PySem.W.Frag} (hn : l.most = some 63) (hdf : d.params.defaults = [])
    (hY : ∀ (w : World) (h : Heap), YP w h → (K w.params).In h)
    (F : ∀ (w : World) (mg : Str → Option Value) (fa : Addr) (h : Heap), (K w.params).In h → h.Ns mainGlobals mg → mg d.name = some (.ref fa) →
      ∃ fd : FuncData, (∀ (s : Shared) (u : Value), BindsTo s fd ⟨[u], []⟩ [("script", u)]) ∧ ∀ base : Heap, (K w.params).In base → base.Ns mainGlobals mg → FnOk l.prog w (K w.params) mg base CX0 14 fa fd ["script"] (spLaw (K w.params))) :
    PySem.W.WalkO q loose XP YP l.row.toRowW d [] (fun f vs => PySem.call f vs) :=
  L2.walk_of (n := 63) (k := 14) (x := "script") (CX := fun _ => CX0) (sp := fun w => spLaw (K w.params)) hn (by decide) hdf ⟨rfl, by decide, by decide⟩ hY F (fun _ _ a ns hl _ hS => ⟨a, ns, rfl, hS, hl, fun _ => rfl⟩) fun _ _ _ _ _ z => z
end K00

end
set_option Elab.async false
open PySem PySem.W PyProof.Rows in
set_option maxRecDepth 100000 in
set_option maxHeartbeats 0 in
theorem PySem.Challenge.cw_pullstore_k00_nets_keep_links_holds : PySem.Challenge.rw_pullstore_k00_nets_keep_links.Holds := by
  w_on; o_law; k_head; (case hw => w_witness2)
  k_fill
  refine K00.walk (l := PySem.Challenge.rw_pullstore_k00_nets_keep_links) rfl rfl (fun w h Y => PySem.W.kIn_of Y) ?F
  case F =>
    intro w mg fa h KX G hmg
    refine' K00.all_mk KX G hmg ?aN ?aI ?aU ?aL ?aS ?zV ?z_len ?z_int ?z_bool ?z_list ?z_tuple ?z_range ?z_isinstance ?z_sum ?z_max ?z_min ?z_set ?z_sorted ?tN ?pg ?hd ?po ?sa ?rd ?rg ?mo ?nc ?nl ?noI ?noU ?noL1 ?noL2 ?sB ?sC ?sT ?sIS ?sIV ?sUS ?sUV ?sLS ?sLV ?sIU ?nIU ?sIL ?nIL ?sUI ?nUI ?sUL ?nUL ?sLI ?nLI ?sLU ?nLU ?oxI ?oxU ?oxL ?dDraw ?dGreat ?dIsInt ?dStranger ?dTruth ?dCount ?dPair ?dIsPair ?dPairsAre ?dIntsAre ?dBox ?dStep ?dFirstBad ?dTable ?dTies ?dBadPair ?dGoodPairs ?dSpoilt ?dWrongCount ?dDeedPair ?dRow ?dRowIs ?dUnknown ?dCall ?dMade ?dChanged ?dDeed ?dRefused ?dNamedTable ?dHas ?dNetIs ?dNamed ?dCounts ?dBuilds ?dDeeds ?dCheckCount ?dCheckPair ?dCheckReplica ?dCheckLink ?mNetHasLink ?mNetSources ?mNetReaders ?mNetWithLink ?mNetWithoutLink ?mNetLinks ?mNetInit ?mNetBothWays ?mNetLine ?mNetStar ?mNetComplete ?mNetRing ?eEI ?eEU ?eEL ?f_a ?f_l ?f_c ?f_k
    (case aN => k_is)
    (case aI => k_is)
    (case aU => k_is)
    (case aL => k_is)
    (case aS => k_is)
    (case zV => k_is)
    (case z_len => k_is)
    (case z_int => k_is)
    (case z_bool => k_is)
    (case z_list => k_is)
    (case z_tuple => k_is)
    (case z_range => k_is)
    (case z_isinstance => k_is)
    (case z_sum => k_is)
    (case z_max => k_is)
    (case z_min => k_is)
    (case z_set => k_is)
    (case z_sorted => k_is)
    (case tN => k_is)
    (case pg => k_is)
    (case hd => k_is)
    (case po => k_is)
    (case sa => k_is)
    (case rd => k_is)
    (case rg => k_is)
    (case mo => k_is)
    (case nc => k_is)
    (case nl => k_is)
    (case noI => k_is)
    (case noU => k_is)
    (case noL1 => k_is)
    (case noL2 => k_is)
    (case sB => k_is)
    (case sC => k_is)
    (case sT => k_is)
    (case sIS => k_is)
    (case sIV => k_is)
    (case sUS => k_is)
    (case sUV => k_is)
    (case sLS => k_is)
    (case sLV => k_is)
    (case sIU => k_is)
    (case nIU => decide)
    (case sIL => k_is)
    (case nIL => decide)
    (case sUI => k_is)
    (case nUI => decide)
    (case sUL => k_is)
    (case nUL => decide)
    (case sLI => k_is)
    (case nLI => decide)
    (case sLU => k_is)
    (case nLU => decide)
    (case oxI => refine' K00.err_mk ?yxL ?ysa ?yga ?ygg ?yex ?yty ?ykp ?yic ?ycc ?ycg ?ytk ?ymo ?yhd; (case yxL => k_is); (case ysa => k_is); (case yga => k_is); (case ygg => k_is); (case yex => k_is); (case yty => k_is); (case ykp => k_is); (case yic => k_is); (case ycc => k_is); (case ycg => k_is); (case ytk => k_is); (case ymo => k_is); (case yhd => k_is))
    (case oxU => refine' K00.err_mk ?yxL ?ysa ?yga ?ygg ?yex ?yty ?ykp ?yic ?ycc ?ycg ?ytk ?ymo ?yhd; (case yxL => k_is); (case ysa => k_is); (case yga => k_is); (case ygg => k_is); (case yex => k_is); (case yty => k_is); (case ykp => k_is); (case yic => k_is); (case ycc => k_is); (case ycg => k_is); (case ytk => k_is); (case ymo => k_is); (case yhd => k_is))
    (case oxL => refine' K00.err_mk ?yxL ?ysa ?yga ?ygg ?yex ?yty ?ykp ?yic ?ycc ?ycg ?ytk ?ymo ?yhd; (case yxL => k_is); (case ysa => k_is); (case yga => k_is); (case ygg => k_is); (case yex => k_is); (case yty => k_is); (case ykp => k_is); (case yic => k_is); (case ycc => k_is); (case ycg => k_is); (case ytk => k_is); (case ymo => k_is); (case yhd => k_is))
    (case dDraw => refine' K00.f_sDraw KX G ?ya ?yl ?yc ?yk; (case ya => k_is); (case yl => k_is); (case yc => k_is); (case yk => k_is))
    (case dGreat => refine' K00.f_sGreat KX G ?ya ?yl ?yc ?yk; (case ya => k_is); (case yl => k_is); (case yc => k_is); (case yk => k_is))
    (case dIsInt => refine' K00.f_sIsInt KX G ?ya ?yl ?yc ?yk; (case ya => k_is); (case yl => k_is); (case yc => k_is); (case yk => k_is))
    (case dStranger => refine' K00.f_sStranger KX G ?ya ?yl ?yc ?yk; (case ya => k_is); (case yl => k_is); (case yc => k_is); (case yk => k_is))
    (case dTruth => refine' K00.f_sTruth KX G ?ya ?yl ?yc ?yk; (case ya => k_is); (case yl => k_is); (case yc => k_is); (case yk => k_is))
    (case dCount => refine' K00.f_sCount KX G ?ya ?yl ?yc ?yk; (case ya => k_is); (case yl => k_is); (case yc => k_is); (case yk => k_is))
    (case dPair => refine' K00.f_sPair KX G ?ya ?yl ?yc ?yk; (case ya => k_is); (case yl => k_is); (case yc => k_is); (case yk => k_is))
    (case dIsPair => refine' K00.f_sIsPair KX G ?ya ?yl ?yc ?yk; (case ya => k_is); (case yl => k_is); (case yc => k_is); (case yk => k_is))
    (case dPairsAre => refine' K00.f_sPairsAre KX G ?ya ?yl ?yc ?yk; (case ya => k_is); (case yl => k_is); (case yc => k_is); (case yk => k_is))
    (case dIntsAre => refine' K00.f_sIntsAre KX G ?ya ?yl ?yc ?yk; (case ya => k_is); (case yl => k_is); (case yc => k_is); (case yk => k_is))
    (case dBox => refine' K00.f_sBox KX G ?ya ?yl ?yc ?yk; (case ya => k_is); (case yl => k_is); (case yc => k_is); (case yk => k_is))
    (case dStep => refine' K00.f_sStep KX G ?ya ?yl ?yc ?yk; (case ya => k_is); (case yl => k_is); (case yc => k_is); (case yk => k_is))
    (case dFirstBad => refine' K00.f_sFirstBad KX G ?ya ?yl ?yc ?yk; (case ya => k_is); (case yl => k_is); (case yc => k_is); (case yk => k_is))
    (case dTable => refine' K00.f_sTable KX G ?ya ?yl ?yc ?yk; (case ya => k_is); (case yl => k_is); (case yc => k_is); (case yk => k_is))
    (case dTies => refine' K00.f_sTies KX G ?ya ?yl ?yc ?yk; (case ya => k_is); (case yl => k_is); (case yc => k_is); (case yk => k_is))
    (case dBadPair => refine' K00.f_sBadPair KX G ?ya ?yl ?yc ?yk; (case ya => k_is); (case yl => k_is); (case yc => k_is); (case yk => k_is))
    (case dGoodPairs => refine' K00.f_sGoodPairs KX G ?ya ?yl ?yc ?yk; (case ya => k_is); (case yl => k_is); (case yc => k_is); (case yk => k_is))
    (case dSpoilt => refine' K00.f_sSpoilt KX G ?ya ?yl ?yc ?yk; (case ya => k_is); (case yl => k_is); (case yc => k_is); (case yk => k_is))
    (case dWrongCount => refine' K00.f_sWrongCount KX G ?ya ?yl ?yc ?yk; (case ya => k_is); (case yl => k_is); (case yc => k_is); (case yk => k_is))
    (case dDeedPair => refine' K00.f_sDeedPair KX G ?ya ?yl ?yc ?yk; (case ya => k_is); (case yl => k_is); (case yc => k_is); (case yk => k_is))
    (case dRow => refine' K00.f_sRow KX G ?ya ?yl ?yc ?yk; (case ya => k_is); (case yl => k_is); (case yc => k_is); (case yk => k_is))
    (case dRowIs => refine' K00.f_sRowIs KX G ?ya ?yl ?yc ?yk; (case ya => k_is); (case yl => k_is); (case yc => k_is); (case yk => k_is))
    (case dUnknown => refine' K00.f_sUnknown KX G ?ya ?yl ?yc ?yk; (case ya => k_is); (case yl => k_is); (case yc => k_is); (case yk => k_is))
    (case dCall => refine' K00.f_sCall KX G ?ya ?yl ?yc ?yk; (case ya => k_is); (case yl => k_is); (case yc => k_is); (case yk => k_is))
    (case dMade => refine' K00.f_sMade KX G ?ya ?yl ?yc ?yk; (case ya => k_is); (case yl => k_is); (case yc => k_is); (case yk => k_is))
    (case dChanged => refine' K00.f_sChanged KX G ?ya ?yl ?yc ?yk; (case ya => k_is); (case yl => k_is); (case yc => k_is); (case yk => k_is))
    (case dDeed => refine' K00.f_sDeed KX G ?ya ?yl ?yc ?yk; (case ya => k_is); (case yl => k_is); (case yc => k_is); (case yk => k_is))
    (case dRefused => refine' K00.f_sRefused KX G ?ya ?yl ?yc ?yk; (case ya => k_is); (case yl => k_is); (case yc => k_is); (case yk => k_is))
    (case dNamedTable => refine' K00.f_sNamedTable KX G ?ya ?yl ?yc ?yk; (case ya => k_is); (case yl => k_is); (case yc => k_is); (case yk => k_is))
    (case dHas => refine' K00.f_sHas KX G ?ya ?yl ?yc ?yk; (case ya => k_is); (case yl => k_is); (case yc => k_is); (case yk => k_is))
    (case dNetIs => refine' K00.f_sNetIs KX G ?ya ?yl ?yc ?yk; (case ya => k_is); (case yl => k_is); (case yc => k_is); (case yk => k_is))
    (case dNamed => refine' K00.f_sNamed KX G ?ya ?yl ?yc ?yk; (case ya => k_is); (case yl => k_is); (case yc => k_is); (case yk => k_is))
    (case dCounts => refine' K00.f_sCounts KX G ?ya ?yl ?yc ?yk; (case ya => k_is); (case yl => k_is); (case yc => k_is); (case yk => k_is))
    (case dBuilds => refine' K00.f_sBuilds KX G ?ya ?yl ?yc ?yk; (case ya => k_is); (case yl => k_is); (case yc => k_is); (case yk => k_is))
    (case dDeeds => refine' K00.f_sDeeds KX G ?ya ?yl ?yc ?yk; (case ya => k_is); (case yl => k_is); (case yc => k_is); (case yk => k_is))
    (case dCheckCount => refine' K00.f_sCheckCount KX G ?ya ?yl ?yc ?yk; (case ya => k_is); (case yl => k_is); (case yc => k_is); (case yk => k_is))
    (case dCheckPair => refine' K00.f_sCheckPair KX G ?ya ?yl ?yc ?yk; (case ya => k_is); (case yl => k_is); (case yc => k_is); (case yk => k_is))
    (case dCheckReplica => refine' K00.f_sCheckReplica KX G ?ya ?yl ?yc ?yk; (case ya => k_is); (case yl => k_is); (case yc => k_is); (case yk => k_is))
    (case dCheckLink => refine' K00.f_sCheckLink KX G ?ya ?yl ?yc ?yk; (case ya => k_is); (case yl => k_is); (case yc => k_is); (case yk => k_is))
    (case mNetHasLink => refine' K00.f_sNetHasLink ?ya ?yi ?yl ?yc ?yk; (case ya => k_is); (case yi => k_is); (case yl => k_is); (case yc => k_is); (case yk => k_is))
    (case mNetSources => refine' K00.f_sNetSources ?ya ?yi ?yl ?yc ?yk; (case ya => k_is); (case yi => k_is); (case yl => k_is); (case yc => k_is); (case yk => k_is))
    (case mNetReaders => refine' K00.f_sNetReaders ?ya ?yi ?yl ?yc ?yk; (case ya => k_is); (case yi => k_is); (case yl => k_is); (case yc => k_is); (case yk => k_is))
    (case mNetWithLink => refine' K00.f_sNetWithLink ?ya ?yi ?yl ?yc ?yk; (case ya => k_is); (case yi => k_is); (case yl => k_is); (case yc => k_is); (case yk => k_is))
    (case mNetWithoutLink => refine' K00.f_sNetWithoutLink ?ya ?yi ?yl ?yc ?yk; (case ya => k_is); (case yi => k_is); (case yl => k_is); (case yc => k_is); (case yk => k_is))
    (case mNetLinks => refine' K00.f_sNetLinks ?ya ?yi ?ye ?yr ?yl ?yc ?yk; (case ya => k_is); (case yi => k_is); (case ye => k_is); (case yr => k_is); (case yl => k_is); (case yc => k_is); (case yk => k_is))
    (case mNetInit => refine' K00.f_sNetInit ?ye ?ya ?yi ?yj ?yl ?yc ?yk; (case ye => k_is); (case ya => k_is); (case yi => k_is); (case yj => k_is); (case yl => k_is); (case yc => k_is); (case yk => k_is))
    (case mNetBothWays => refine' K00.f_sNetBothWays ?ya ?yr ?yi ?yl ?yc ?yk; (case ya => k_is); (case yr => k_is); (case yi => k_is); (case yl => k_is); (case yc => k_is); (case yk => k_is))
    (case mNetLine => refine' K00.f_sNetLine ?ya ?yr ?yi ?yl ?yc ?yk; (case ya => k_is); (case yr => k_is); (case yi => k_is); (case yl => k_is); (case yc => k_is); (case yk => k_is))
    (case mNetStar => refine' K00.f_sNetStar ?ya ?yr ?yi ?yl ?yc ?yk; (case ya => k_is); (case yr => k_is); (case yi => k_is); (case yl => k_is); (case yc => k_is); (case yk => k_is))
    (case mNetComplete => refine' K00.f_sNetComplete ?ya ?yr ?yi ?yl ?yc ?yk; (case ya => k_is); (case yr => k_is); (case yi => k_is); (case yl => k_is); (case yc => k_is); (case yk => k_is))
    (case mNetRing => refine' K00.f_sNetRing ?ya ?yr ?yi ?yl ?yc ?yk; (case ya => k_is); (case yr => k_is); (case yi => k_is); (case yl => k_is); (case yc => k_is); (case yk => k_is))
    (case eEI => refine' K00.f_sEI ?ya ?yi ?yl ?yc ?yk; (case ya => k_is); (case yi => k_is); (case yl => k_is); (case yc => k_is); (case yk => k_is))
    (case eEU => refine' K00.f_sEU ?ya ?yi ?yl ?yc ?yk; (case ya => k_is); (case yi => k_is); (case yl => k_is); (case yc => k_is); (case yk => k_is))
    (case eEL => refine' K00.f_sEL ?ya ?yi ?yl ?yc ?yk; (case ya => k_is); (case yi => k_is); (case yl => k_is); (case yc => k_is); (case yk => k_is))
    (case f_a => k_is)
    (case f_l => k_is)
    (case f_c => k_is)
    (case f_k => k_is)

